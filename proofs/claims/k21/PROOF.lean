import PyProof.Rows.All
import Wide.All
import OpenK.KLine
import KE.KIntText
import KE.KIsAll
import KE.KItemsList
import KE.KRevIter
import KE.KSortTup
import KE.LcSums
import KE.KPairComp
import Wide.FinOn
import Lean
import PyProof.EqAt
import PyProof.EqKinds
import PyProof.TupleCall
import OpenK.KOwn
import PySem.Challenge.RW_retryhall_k21_hall_refused
set_option Elab.async false
set_option linter.all false
set_option maxRecDepth 100000
set_option maxHeartbeats 4000000
set_option compiler.extract_closed false
namespace My
open PySem PySem.W
def lvO:Obj->Option Obj
 |⟨_,_,.freed,_⟩=>none
 |o=>some o
abbrev PkO:=List (Nat×Option Obj)
noncomputable def pkO (l:List Obj):Nat->List Nat->PkO:=l.rec (motive:=fun _=>Nat->List Nat->PkO) (fun _ _=>[]) fun o _ f i t=>match t with|[]=>[]|a::t=>bif Nat.beq a i then (a,lvO o)::f (i+1) t else f (i+1) (a::t)
theorem pk_m:∀ {l:List Obj}{i t},∀ p∈pkO l i t,i<=p.1/\p.2=(l[p.1-i]?).bind lvO
 |[],_,_,_,h=>nomatch h
 |_::_,_,[],_,h=>nomatch h
 |o::l,i,a::t,p,h=>by
  have h:p∈bif Nat.beq a i then (a,lvO o)::pkO l (i+1) t else pkO l (i+1) (a::t):=h
  have H:∀ t,p∈pkO l (i+1) t->i<=p.1/\p.2=((o::l)[p.1-i]?).bind lvO:=fun t h=>by
   have u:=pk_m p h
   rw [show p.1-i=p.1-(i+1)+1 by omega]
   exact ⟨by omega,u.2⟩
  cases e:Nat.beq a i<;>rw [e] at h
  .exact H _ h
  .rcases List.mem_cons.mp h with rfl|h
   .cases Nat.eq_of_beq_eq_true e;simp
   .exact H _ h
noncomputable def kHk (K:Params->Frag) (t:List Nat):Hook:=⟨PkO,fun s=>pkO s.heap.objs.toList 0 t,fun w=>(K w.params).map fun p=>(p.1,some p.2),InK K,fun w s x a o e=>by
 obtain ⟨_,_,e,_⟩:=List.lookup_eq_some_iff.mp e
 have m:some o=_:=(pk_m (a,some o) (x ▸ List.mem_map.mpr ⟨(a,o),by simp [e],rfl⟩)).2
 rw [m]
 simp
 unfold Heap.get?
 cases s.heap.objs[a]? with
 |none=>rfl
 |some o=>obtain ⟨_,_,d,_⟩:=o;cases d<;>rfl,InK.keeps⟩
end My
local macro_rules|`(tactic|o_head $H)=>do
 let r:=H.raw[1]
 if r[0].getId.eraseMacroScopes != `kHook then Lean.Macro.throwUnsupported
 `(tactic|o_head (My.kHk $(⟨r[1][0]⟩) $(⟨r[1][1]⟩)))
namespace PySem.W.Fast
local macro_rules|`(command|universe $xs*)=>do return Lean.mkNullNode (<-(xs.flatMap fun x=>#[`hD_++x.getId,`PySem.Challenge++x.getId]).append ((Array.range 1456).map fun i=>`hD_++.mkSimple ("o_"++toString i)) |>.mapM fun n=>`(command|theorem $(Lean.mkIdent (.mkSimple ("tw"++toString n.hash))) : True:=True.intro))
universe heap_39 heap_46 heap_1456 tree_47 tree_70 tree_85 tree_100 tree_115 tree_130 tree_145 tree_231 tree_288 tree_367 tree_376 tree_468 tree_526 tree_561 tree_597 tree_633 tree_669 tree_705 tree_741 tree_777 tree_813 tree_849 tree_899 tree_943 tree_1064 tree_1149 tree_1169 tree_1286 tree_1369 tree_1455 view_39 sts_49 sts_71 sts_86 sts_101 sts_116 sts_131 sts_146 sts_232 sts_289 sts_368 sts_377 sts_469 sts_527 sts_562 sts_598 sts_634 sts_670 sts_706 sts_742 sts_778 sts_814 sts_850 sts_900 sts_944 sts_1153 sts_1170 sts_1373 env_41 pw_retryhall_k21_hall_refused rw_retryhall_k21_hall_refused
end PySem.W.Fast
set_option maxHeartbeats 0 in
open_top hD_ for PySem.Challenge.rw_retryhall_k21_hall_refused
open PySem.W (fnOf findIn keepIn subIn codeIn nsIn isFn mg_of plainGet hasDictIn makesIn instObj typeIn emptyDict mroIn kia_one)
local macro_rules | `(tactic| rfl')=>`(tactic| decide +kernel)
open List (mem_cons_self mem_cons_of_mem mem_append_left getElem?_set_self getElem?_set_ne mem_append_right length_cons map_cons length_map append_nil of_mem_zip replicate length getElem?_append_right getElem?_replicate getElem?_append_left getElem?_map mem_of_getElem? length_append map_nil length_drop size_toArray length_set any_cons getElem_of_mem map_append lookup_cons prefix_refl getElem?_eq_none length_zip zip_cons_cons getD map_map toArray getElem_mem mem_cons not_mem_nil map_set append_assoc)
open Nat (lt_of_lt_of_le lt_irrefl ne_of_lt le_of_lt le_of_eq zero_le)
open Option (map_some bind_some)
open Bool (and_eq_true)
open PySem.F (plainAttrs_list)
noncomputable section
namespace L2
open PySem PySem.Spec PyProof.Rows
abbrev Key:=Sum Int Str
def ytA:Key->Value->Bool
 | .inl k,v=>Value.isInt k v
 | .inr x,v=>Value.isStrOf x v
def yAS (w:World):Key->Int
 | .inl k=>hashInt k
 | .inr x=>hashStr w x
theorem ybL:∀ {k:Key}{v:Value},ytA k v=true->(∃ i t,k=Sum.inl i/\v=Value.int i t)\/(∃ x t,k=Sum.inr x/\v=Value.str x t)
 | .inl i,v,h=>by
  obtain ⟨t,e⟩:=Value.isInt_shape (k:=i) (v:=v) h
  exact .inl ⟨i,t,rfl,e⟩
 | .inr x,v,h=>by
  obtain ⟨t,e⟩:=Value.isStrOf_shape (x:=x) (v:=v) h
  exact .inr ⟨x,t,rfl,e⟩
theorem yvF (a b:Int):decide ((Sum.inl a:Key)=Sum.inl b)=(a == b):=by
 by_cases e:a=b
 .subst e;simp
 .have h:¬ (Sum.inl a:Key)=Sum.inl b:=fun q=>e (Sum.inl.inj q)
  rw [decide_eq_false h]
  exact (beq_eq_false_iff_ne.mpr e).symm
theorem yvG (a b:Str):decide ((Sum.inr a:Key)=Sum.inr b)=decide (a=b):=by
 by_cases e:a=b
 .subst e;simp
 .have h:¬ (Sum.inr a:Key)=Sum.inr b:=fun q=>e (Sum.inr.inj q)
  rw [decide_eq_false h,decide_eq_false e]
theorem yvH (a:Int) (b:Str):decide ((Sum.inl a:Key)=Sum.inr b)=false:=decide_eq_false (fun q=>nomatch q)
theorem yvI (a:Str) (b:Int):decide ((Sum.inr a:Key)=Sum.inl b)=false:=decide_eq_false (fun q=>nomatch q)
noncomputable def ylp (prog:Program) (w:World):PySem.KeyKind prog w Key where
 is:=ytA
 hash:=yAS w
 inj:=fun v a b ha hb=>by
  rcases ybL ha with ⟨i,t,rfl,rfl⟩|⟨x,t,rfl,rfl⟩
  .rcases ybL hb with ⟨j,u,rfl,e⟩|⟨y,u,rfl,e⟩
   .injection e with e1 _;rw [e1]
   .exact nomatch e
  .rcases ybL hb with ⟨j,u,rfl,e⟩|⟨y,u,rfl,e⟩
   .exact nomatch e
   .injection e with e1 _;rw [e1]
 byValue:=fun k v h=>by
  rcases ybL h with ⟨i,t,rfl,rfl⟩|⟨x,t,rfl,rfl⟩<;>rfl
 pyHash:=fun hv h=>by
  rcases ybL hv with ⟨i,t,rfl,rfl⟩|⟨x,t,rfl,rfl⟩
  .exact wpAny_pyHash_int h
  .exact wpAny_pyHash_str h
 eqBool:=fun hu hv h=>by
  rcases ybL hu with ⟨i,t,rfl,rfl⟩|⟨x,t,rfl,rfl⟩
  .rcases ybL hv with ⟨j,u,rfl,rfl⟩|⟨y,u,rfl,rfl⟩
   .rw [yvF] at h;exact wpAny_eqBool_int h
   .rw [yvH] at h;exact SeqAt.EqAt.int_str i t y u _ _ _ _ h
  .rcases ybL hv with ⟨j,u,rfl,rfl⟩|⟨y,u,rfl,rfl⟩
   .rw [yvI] at h;exact SeqAt.EqAt.str_int x t j u _ _ _ _ h
   .rw [yvG] at h;exact wpAny_eqBool_str h
 «strs»:=fun k x t v h=>by
  rcases ybL h with ⟨i,u,rfl,e⟩|⟨y,u,rfl,e⟩
  .exact nomatch e
  .injection e with e1 _
   subst e1
   cases v<;>rfl
end L2
namespace L2
open PySem PySem.Spec PyProof.Rows
inductive V where
 | non|bl (b:Bool)|int (i:Int)|str (x:Str)|byt (b:Array UInt8)|flt (b:UInt64)|ref (a:Addr)|ty (n:String)
 deriving DecidableEq
noncomputable def RelV:V->Value->Prop
 | .non,u=>u=Value.none
 | .bl b,u=>u=Value.bool b
 | .int i,u=>∃ t,u=Value.int i t
 | .str x,u=>∃ t,u=Value.str x t
 | .byt b,u=>∃ t,u=Value.bytes b t
 | .flt b,u=>∃ t,u=Value.float b t
 | .ref a,u=>u=Value.ref a
 | .ty n,u=>u=Value.type n
abbrev Vals:List V->List Value->Prop:=Paired RelV
theorem Vals.length {xs:List V}{us:List Value}(r:Vals xs us):xs.length=us.length:=Paired.length r
theorem Vals.get:∀ {xs:List V}{us:List Value}{i:Nat}{x:V},Vals xs us->xs[i]?=some x->∃ u,us[i]?=some u/\RelV x u
 | _,_,_,_,.nil,e=>by simp at e
 | _,_,0,_,.cons r _,e=>by simp at e;subst e;exact ⟨_,rfl,r⟩
 | _,_,i+1,x,.cons _ t,e=>by
  obtain ⟨u,h1,h2⟩:=Vals.get (i:=i) (x:=x) t (by simpa using e)
  exact ⟨u,by simpa using h1,h2⟩
theorem Vals.set {x:V}{u:Value}(r:RelV x u):∀ {xs:List V}{us:List Value}(i:Nat),Vals xs us->Vals (xs.set i x) (us.set i u)
 | _,_,_,.nil=>.nil
 | _,_,0,.cons _ t=>.cons r t
 | _,_,i+1,.cons q t=>.cons q (Vals.set r i t)
theorem Vals.append:∀ {xs ys:List V}{us ws:List Value},Vals xs us->Vals ys ws->Vals (xs++ys) (us++ws)
 | _,_,_,_,.nil,s=>s
 | _,_,_,_,.cons r t,s=>.cons r (Vals.append t s)
def RelO:Option V->Option Value->Prop
 | some v,some u=>RelV v u
 | none,none=>True
 | _,_=>False
def KV {κ:Type}:List (κ×V)->List (κ×Value)->Prop:=Paired fun (p:κ×V) (q:κ×Value)=>p.1=q.1/\RelV p.2 q.2
def kV:Key->V
 | .inl i=>.int i
 | .inr x=>.str x
inductive HO where
 | lst (xs:List V)
 | tup (xs:List V)
 | dK (kvs:List (Key×V))|dT (kvs:List (List Key×V))
 | set (S:Int->Bool) (n:Nat)
 | ins (C dx:Addr) (fs:List (Str×V))
 | own (x:Addr)
 | xd (fs:List (Str×V))
 | met (f x:Addr)
 | rng (lo hi:Int)
 | frz (o:Obj) (u:HO)
 | tbl (ps:Array Value)
 | ext (φ:Heap->Prop)
abbrev Hp:=Addr->Option HO
def upd (H:Hp) (a:Addr) (o:HO):Hp:=fun b=>if b=a then some o else H b
theorem yG {H:Hp}{a:Addr}{o:HO}:upd H a o a=some o:=by unfold upd;rw [if_pos rfl]
theorem yU {H:Hp}{a b:Addr}{o:HO}(h:b≠a):upd H a o b=H b:=by unfold upd;rw [if_neg h]
theorem ybQ {H:Hp}{a b:Addr}{o:HO}(h:H a=some o) (h':H b=none):a≠b:=by
 intro e;subst e;rw [h] at h';cases h'
section
variable (P:Program) (w:World)
def ObjOk (H:Hp) (h:Heap) (a:Addr):HO->Prop
 | .lst xs=>xs.length<=sizeLine/\∃ (its:List Value) (n:Nat),Vals xs its/\h.get? a=some { cls:=.type "list",data:=.seq its.toArray n }
 | .tup xs=>xs.length<=sizeLine/\∃ its:List Value,Vals xs its/\IsTup h a its.toArray
 | .dK kvs=>kvs.length<=sizeLine/\(a == sysModules)=false/\∃ vs,KV kvs vs/\h.DictOf (ylp P w) a vs
 | .dT kvs=>kvs.length<=sizeLine/\(a == sysModules)=false/\∃ xs:List (List Key×Addr×Value),
   Paired (fun (p:List Key×V) (q:List Key×Addr×Value)=>p.1=q.1/\H q.2.1=some (.tup (p.1.map kV))/\RelV p.2 q.2.2) kvs xs /\
   ∃ o es ep,h.get? a=some o/\o.ExactDict/\o.data=.dict es ep/\es.toList=xs.map (entryOfKey (tupleKind (ylp P w)))/\(xs.map (·.1)).Nodup
 | .set S n=>h.SetOf (intKind P w) a S n
 | .ins C dx fs=>H dx=some (.own a)/\fs.length<=1000/\dx≠a/\h.get? a=some (instObj C dx) /\
   ∃ mA,h.Ns1 dx mA/\(∀ f,RelO (fs.lookup f) (mA f))/\PySem.Within mA (fs.map (·.1))
 | .own _=>∃ o,h.get? a=some o
 | .xd fs=>∃ mA,h.Ns1 a mA/\∀ f,RelO (fs.lookup f) (mA f)
 | .rng lo hi=>∃ t u v,h.get? a=some { cls:=.type "range",data:=.fields #[.int lo t,.int hi u,.int 1 v] }
 | .frz o u=>h.get? a=some o/\ObjOk H h a u
 | .tbl ps=>h.get? a=some { cls:=.none,data:=.fields ps }
 | .met f x=>h.get? a=some (PySem.W.methodObj (.ref f) (.ref x))
 | .ext φ=>φ h/\(∃ o,h.get? a=some o)/\∀ h1 h2:Heap,φ h1->(∀ o,h1.get? a=some o->h2.get? a=some o)->φ h2
def HOk (H:Hp) (h:Heap):Prop:=∀ a o,H a=some o->ObjOk P w H h a o
end
section
variable {P:Program}{w:World}{H H':Hp}{h h':Heap}{a:Addr}{o:HO}
theorem ObjOk.lt (x:ObjOk P w H h a o):a<h.objs.size:=by
 cases o with
 | lst xs=>obtain ⟨_,_,_,_,e⟩:=x;exact Heap.lt_size e
 | tup xs=>obtain ⟨_,_,_,p⟩:=x;exact p.lt
 | dK kvs=>obtain ⟨_,_,_,_,o,_,_,e,_⟩:=x;exact Heap.lt_size e
 | dT kvs=>obtain ⟨_,_,_,_,o,_,_,e,_⟩:=x;exact Heap.lt_size e
 | set S n=>obtain ⟨o,_,_,_,e,_⟩:=x;exact Heap.lt_size e
 | ins C dx fs=>obtain ⟨_,_,_,e,_⟩:=x;exact Heap.lt_size e
 | own y=>obtain ⟨_,e⟩:=x;exact Heap.lt_size e
 | xd fs=>obtain ⟨_,⟨_,_,_,e,_⟩,_⟩:=x;exact Heap.lt_size e
 | rng lo hi=>obtain ⟨_,_,_,e⟩:=x;exact Heap.lt_size e
 | frz ob u=>obtain ⟨e,_⟩:=x;exact Heap.lt_size e
 | tbl ps=>exact Heap.lt_size (show h.get? a=some _ from x)
 | met f y=>exact Heap.lt_size (show h.get? a=some _ from x)
 | ext φ=>obtain ⟨_,⟨_,e⟩,_⟩:=x;exact Heap.lt_size e
theorem Paired.mapP {α β:Type}{F G:α->β->Prop}:∀ {l₁:List α}{l₂:List β},Paired F l₁ l₂->(∀ a b,F a b->G a b)->Paired G l₁ l₂
 | _,_,.nil,_=>.nil
 | _,_,.cons r t,f=>.cons (f _ _ r) (Paired.mapP t f)
theorem ObjOk.stay (x:ObjOk P w H h a o) (k:∀ b u,(b=a\/H b=some (.own a))->h.get? b=some u->h'.get? b=some u)
  (ho:∀ b,H b=some (.own a)->H' b=some (.own a)) (ht:∀ b xs,H b=some (.tup xs)->H' b=some (.tup xs)):ObjOk P w H' h' a o:=by
 induction o with
 | lst xs=>obtain ⟨z,its,n,r,e⟩:=x;exact ⟨z,its,n,r,k _ _ (.inl rfl) e⟩
 | tup xs=>obtain ⟨z,its,r,ob,e,c⟩:=x;exact ⟨z,its,r,ob,k _ _ (.inl rfl) e,c⟩
 | dK kvs=>obtain ⟨z,y,vs,r,ob,es,ep,e,c⟩:=x;exact ⟨z,y,vs,r,ob,es,ep,k _ _ (.inl rfl) e,c⟩
 | dT kvs =>
  obtain ⟨z,y,xs,r,ob,es,ep,e,c⟩:=x
  exact ⟨z,y,xs,Paired.mapP r fun p q z=>⟨z.1,ht _ _ z.2.1,z.2.2⟩,ob,es,ep,k _ _ (.inl rfl) e,c⟩
 | set S n=>obtain ⟨ob,es,ep,t,e,c⟩:=x;exact ⟨ob,es,ep,t,k _ _ (.inl rfl) e,c⟩
 | ins C dx fs =>
  obtain ⟨d,z,ne,e,mA,⟨od,es,ep,e2,c⟩,r⟩:=x
  exact ⟨ho _ d,z,ne,k _ _ (.inl rfl) e,mA,⟨od,es,ep,k _ _ (.inr d) e2,c⟩,r⟩
 | own y=>obtain ⟨ob,e⟩:=x;exact ⟨ob,k _ _ (.inl rfl) e⟩
 | xd fs=>obtain ⟨mA,⟨od,es,ep,e,c⟩,r⟩:=x;exact ⟨mA,⟨od,es,ep,k _ _ (.inl rfl) e,c⟩,r⟩
 | rng lo hi=>obtain ⟨t,u,v,e⟩:=x;exact ⟨t,u,v,k _ _ (.inl rfl) e⟩
 | frz ob u ih=>obtain ⟨e,q⟩:=x;exact ⟨k _ _ (.inl rfl) e,ih q⟩
 | tbl ps =>
  have e:h.get? a=some { cls:=.none,data:=.fields ps }:=x
  show h'.get? a=some { cls:=.none,data:=.fields ps }
  exact k a _ (.inl rfl) e
 | met f y =>
  have e:h.get? a=some (PySem.W.methodObj (.ref f) (.ref y)):=x
  show h'.get? a=some (PySem.W.methodObj (.ref f) (.ref y))
  exact k a _ (.inl rfl) e
 | ext φ=>obtain ⟨p,⟨o,e⟩,st⟩:=x;exact ⟨st _ _ p fun o q=>k _ _ (.inl rfl) q,⟨o,k _ _ (.inl rfl) e⟩,st⟩
theorem HOk.lt (x:HOk P w H h) (e:H a=some o):a<h.objs.size:=(x a o e).lt
theorem HOk.fresh (x:HOk P w H h) (e:h.objs.size<=a):H a=none:=by
 cases q:H a with
 | none=>rfl
 | some u=>exact absurd (lt_of_lt_of_le (x.lt q) e) (lt_irrefl _)
theorem HOk.kept (x:HOk P w H h) (k:∀ b u,h.get? b=some u->h'.get? b=some u):HOk P w H h':=fun a o e =>
 (x a o e).stay (fun b u _ q=>k b u q) (fun _ q=>q) fun _ _ q=>q
theorem HOk.laid (x:HOk P w H h) (k:∀ b u,h.get? b=some u->h'.get? b=some u) (hp:h.objs.size<=a) (new:ObjOk P w (upd H a o) h' a o):HOk P w (upd H a o) h':=fun b u e=>by
 have hn:=x.fresh hp
 by_cases hb:b=a
 .subst hb;rw [yG] at e;cases e;exact new
 .rw [yU hb] at e
  exact (x b u e).stay (fun c v _ q=>k c v q) (fun c q=>by rw [yU (ybQ q hn)];exact q) fun c xs q=>by rw [yU (ybQ q hn)];exact q
end
def Rd (H:Hp) (a:Addr) (u:HO):Prop:=H a=some u\/∃ o,H a=some (.frz o u)
theorem Rd.ok {P:Program}{w:World}{H:Hp}{h:Heap}{a:Addr}{u:HO}(r:Rd H a u) (x:HOk P w H h):ObjOk P w H h a u:=by
 rcases r with r|⟨o,r⟩
 .exact x a u r
 .obtain ⟨_,q⟩:=x a _ r
  exact q
noncomputable def Mut:Option HO->Prop
 | some (.lst _)=>True
 | some (.dK _)=>True
 | some (.dT _)=>True
 | some (.set _ _)=>True
 | some (.ins _ _ _)=>True
 | some (.ext _)=>True
 | _=>False
section
variable {P:Program}{w:World}{H:Hp}{h h':Heap}{x e:Addr}{o':HO}
theorem HOk.write (ok:HOk P w H h) (mu:Mut (H x)) (he:e=x\/H e=some (.own x)) (k:∀ b u,b≠e->h.get? b=some u->h'.get? b=some u) (heo:∃ u,h'.get? e=some u)
  (new:ObjOk P w (upd H x o') h' x o'):HOk P w (upd H x o') h':=fun b u q=>by
 have nown:∀ c y,H c=some (.own y)->c≠x:=fun c y r z=>by subst z;rw [r] at mu;exact mu
 have ntup:∀ c xs,H c=some (.tup xs)->c≠x:=fun c xs r z=>by subst z;rw [r] at mu;exact mu
 by_cases hb:b=x
 .subst hb;rw [yG] at q;cases q;exact new
 .rw [yU hb] at q
  by_cases hbe:b=e
  .have q':H b=some (.own x):=by
    rcases he with z|z
    .exact absurd (hbe.trans z) hb
    .rw [hbe];exact z
   rw [q] at q';cases q'
   obtain ⟨v,hv⟩:=heo
   exact ⟨v,by rw [hbe];exact hv⟩
  .refine (ok b u q).stay (fun c v hc r=>k c v ?_ r) (fun c r=>by rw [yU (nown c b r)];exact r) fun c xs r=>by rw [yU (ntup c xs r)];exact r
   rcases hc with rfl|hc
   .exact hbe
   .rintro rfl
    rcases he with z|z
    .exact nown c b hc z
    .rw [hc] at z;cases z;exact hb rfl
end
structure Un (fs ex:List Addr) (H H':Hp) (h h':Heap):Prop where
 keep:∀ b o,h.get? b=some o->H b=none->b∉fs->b∉ex->h'.get? b=some o
 slot:∀ b o,h.get? b=some o->H b=none->b∈fs->b∉ex->∃ sl,h'.get? b=some { o with slots:=sl }
 free:∀ b o,h.get? b=some o->H b=none->b∉ex->H' b=none
 there:∀ b o,h.get? b=some o->b∉ex->∃ o',h'.get? b=some o'
 tups:∀ b xs,H b=some (.tup xs)->H' b=some (.tup xs)
 frzs:∀ b o u,H b=some (.frz o u)->H' b=some (.frz o u)
 tbls:∀ b ps,H b=some (.tbl ps)->∃ more,H' b=some (.tbl (ps++more))
section
variable {fs fs' ex ex':List Addr}{H H1 H2:Hp}{h h1 h2 h':Heap}{a x e:Addr}{o:HO}
theorem Un.any (u:Un fs ex H H1 h h1) {b:Addr}{ob:Obj}(q:h.get? b=some ob) (n:H b=none) (hx:b∉ex):∃ sl,h1.get? b=some { ob with slots:=sl }:=by
 by_cases hb:b∈fs
 .exact u.slot b ob q n hb hx
 .exact ⟨ob.slots,u.keep b ob q n hb hx⟩
theorem Un.kept (k:∀ b u,h.get? b=some u->h'.get? b=some u):Un fs ex H H h h' :=
 ⟨fun b ob q _ _ _=>k b ob q,fun b ob q _ _ _=>⟨ob.slots,k b ob q⟩,fun _ _ _ n _=>n,fun b ob q _=>⟨ob,k b ob q⟩,fun _ _ q=>q,fun _ _ _ q=>q,fun _ ps q=>⟨#[],by rw [q];simp⟩⟩
theorem Un.refl:Un fs ex H H h h:=Un.kept fun _ _ q=>q
theorem Un.laid (k:∀ b u,h.get? b=some u->h'.get? b=some u) (hp:h.objs.size<=a) (hn:H a=none):Un fs ex H (upd H a o) h h' where
 keep:=fun b u q _ _ _=>k b u q
 slot:=fun b u q _ _ _=>⟨u.slots,k b u q⟩
 free:=fun b u q n _=>by rw [yU (ne_of_lt (lt_of_lt_of_le (Heap.lt_size q) hp))];exact n
 there:=fun b u q _=>⟨u,k b u q⟩
 tups:=fun b xs q=>by rw [yU (ybQ q hn)];exact q
 frzs:=fun b u xs q=>by rw [yU (ybQ q hn)];exact q
 tbls:=fun b ps q=>⟨#[],by rw [yU (ybQ q hn),q];simp⟩
theorem Un.write (mu:Mut (H x)) (he:e=x\/H e=some (.own x)) (k:∀ b u,b≠e->h.get? b=some u->h'.get? b=some u) (heo:∃ u,h'.get? e=some u):Un fs ex H (upd H x o) h h':=by
 have hx:∀ b,H b=none->b≠x:=fun b n z=>by subst z;rw [n] at mu;exact mu
 have hb:∀ b,H b=none->b≠e:=fun b n z=>by
  subst z
  rcases he with r|r
  .exact hx b n r
  .rw [n] at r;cases r
 have hm:∀ b u,H b=some u->¬ Mut (some u)->b≠x:=fun b u q nm z=>by subst z;rw [q] at mu;exact nm mu
 refine ⟨fun b u q n _ _=>k b u (hb b n) q,fun b u q n _ _=>⟨u.slots,k b u (hb b n) q⟩,fun b u q n _=>by rw [yU (hx b n)];exact n,fun b u q _=>?_,
  fun b xs q=>by rw [yU (hm b _ q fun z=>z)];exact q,fun b u xs q=>by rw [yU (hm b _ q fun z=>z)];exact q,fun b ps q=>⟨#[],by rw [yU (hm b _ q fun z=>z),q];simp⟩⟩
 by_cases hbe:b=e
 .subst hbe;exact heo
 .exact ⟨u,k b u hbe q⟩
end
def trk (h:Heap) (H:Hp):List Addr:=(List.range h.objs.size).filter fun a=>(H a).isSome
def yqH (h:Heap) (H:Hp):Heap:=PySem.W.hideAll h (trk h H)
theorem yon (h:Heap) (H:Hp):(yqH h H).objs.size=h.objs.size:=PySem.W.hideAll_size _ _
theorem yqI {h:Heap}{H:Hp}{b:Addr}{o:Obj}(e:h.get? b=some o) (n:H b=none):(yqH h H).get? b=some o :=
 PySem.W.hideAll_get _ e fun hm=>by
  have q:(H b).isSome=true:=(List.mem_filter.mp hm).2
  rw [n] at q;simp at q
theorem ytB {h:Heap}{H:Hp}{b:Addr}{o:Obj}(e:(yqH h H).get? b=some o):h.get? b=some o/\H b=none:=by
 have e':h.get? b=some o:=PySem.W.of_hideAll (trk h H) e
 refine ⟨e',?_⟩
 cases q:H b with
 | none=>rfl
 | some x =>
  have hm:b∈trk h H:=List.mem_filter.mpr ⟨List.mem_range.mpr (Heap.lt_size e'),by simp [q]⟩
  have z:(yqH h H).get? b=none:=PySem.W.hideAll_none (trk h H) hm
  rw [z] at e;cases e
noncomputable def ytC (g h:Heap) (L:Addr):List (Addr×Obj):=(List.range h.objs.size).filterMap fun a=>if a=L\/(g.get? a).isSome=true then none else (h.get? a).map fun o=>(a,o)
def rest (g h:Heap) (L d:Addr):List (Addr×Obj):=(ytC g h L).filter fun p=>decide (p.1≠d)
end L2
namespace L2
open PySem PySem.Spec PyProof.Rows
structure Mod (K:PySem.W.Frag) (mg:Str->Option Value) (base:Heap):Prop where
 kin:K.In base
 glob:base.Ns mainGlobals mg
 blt:∃ mb,base.Ns builtinsNs mb/\∀ x:Str,x≠"__name__"->mb x=bootBuiltins x
 nolimit:base.NoLimit
structure Cx where
 prog:Program
 w:World
 K:PySem.W.Frag
 mg:Str->Option Value
 base:Heap
 A:Around
 N:List Str
 s₀:Shared
 H₀:Hp
 env:Env
 outer:List Env
 stack:List Env
 ex:List Addr
 fn:Str->Bool
 calm:Bool
 pn:List (Addr×Obj)
 xe:Value->Shared->Prop
def frs (l:List Env):List Addr:=l.filterMap (·.frame)
abbrev Cx.fs (X:Cx):List Addr:=frs X.outer
noncomputable def Vis (sc:Scope) (x:Str):Prop:=sc.names.lookup x=some .local \/ sc.names.lookup x=some .cell\/sc.names.lookup x=some .free
def Loc (sc:Scope) (x:Str):Prop:=sc.names.lookup x=some .local \/ sc.names.lookup x=some .cell
noncomputable def Look (env:Env) (h:Heap) (m:Str->Option Value) (x:Str) (u:Value):Prop :=
 (env.kindOf x=some .local/\m x=some u)\/((env.kindOf x=some .cell\/env.kindOf x=some .free)/\∃ c,env.cells.lookup x=some c/\h.IsCell c (some u))
structure Cx.Ok (X:Cx):Prop where
 mod:Mod X.K X.mg X.base
 kind:X.env.scope.kind=.function
 glob:X.env.globals=mainGlobals
 blt:X.env.builtins=builtinsNs
 above:X.s₀.heap.objs.size<=X.env.locals
 inj:∀ x y c,X.env.cells.lookup x=some c->X.env.cells.lookup y=some c->x=y
 has:∀ x,(X.env.kindOf x=some .cell\/X.env.kindOf x=some .free)->∃ c,X.env.cells.lookup x=some c
 cab:∀ x c,X.fn x=true->X.env.cells.lookup x=some c->X.s₀.heap.objs.size<=c
 hd:X.calm=true->X.A.handled=none
 frames:X.A.frames=some X.stack
 stk:X.stack=X.outer\/(X.stack=X.env::X.outer/\X.env.frame=some X.env.locals)
 exf:∀ b∈X.ex,b≠X.env.locals/\∀ x c,X.env.cells.lookup x=some c->c≠b
 bs:∀ b o,X.base.get? b=some o->X.s₀.heap.get? b=some o/\X.H₀ b=none
 bsz:X.base.objs.size<=X.s₀.heap.objs.size
 noex:∀ b o,X.base.get? b=some o->b∉X.ex
 exfs:∀ b∈X.ex,b∉X.fs
 funs:X.s₀.heap.FunFrames X.base X.outer
 frf:∀ b∈X.fs,X.H₀ b=none
structure Inv (X:Cx) (pins:List (Addr×Obj)) (σ:List (Option V)) (H:Hp) (s:Shared):Prop where
 ok:X.Ok
 os:s.os=X.s₀.os
 bare:AllBare s.gens
 base:Un X.fs X.ex X.H₀ H X.s₀.heap s.heap
 loc:∃ m,s.heap.Ns X.env.locals m/\∀ (i:Nat) (x:Str) (v:V),X.N[i]?=some x->σ[i]?=some (some v)->Vis X.env.scope x->∃ u,RelV v u/\Look X.env s.heap m x u
 cell:∀ x c,X.env.cells.lookup x=some c->∃ v,s.heap.IsCell c v
 free:H X.env.locals=none
 freeC:∀ x c,X.env.cells.lookup x=some c->H c=none
 pin:∀ p∈X.pn++pins,s.heap.get? p.1=some p.2/\H p.1=none/\p.1≠X.env.locals/\p.1∉X.fs/\∀ v,p.2.data≠.cell v
 hok:HOk X.prog X.w H s.heap
 len:σ.length=X.N.length
section
variable {X:Cx}{pins:List (Addr×Obj)}{σ:List (Option V)}{H H':Hp}{s:Shared}{h':Heap}
theorem Cx.Ok.nofr (ok:X.Ok) {b:Addr}{o:Obj}(e:X.base.get? b=some o):b∉X.fs:=fun hb=>by
 have:=(ok.funs.mem hb).1
 rw [e] at this;cases this
theorem Inv.bs (I:Inv X pins σ H s):∀ b o,X.base.get? b=some o->s.heap.get? b=some o/\H b=none:=fun b o e =>
 ⟨I.base.keep b o (I.ok.bs b o e).1 (I.ok.bs b o e).2 (I.ok.nofr e) (I.ok.noex b o e),I.base.free b o (I.ok.bs b o e).1 (I.ok.bs b o e).2 (I.ok.noex b o e)⟩
theorem Inv.bk (I:Inv X pins σ H s):∀ b o,X.base.get? b=some o->s.heap.get? b=some o:=fun b o e=>(I.bs b o e).1
theorem Inv.mod (I:Inv X pins σ H s):Mod X.K X.mg X.base:=I.ok.mod
theorem Inv.kIn (I:Inv X pins σ H s):X.K.In s.heap:=I.ok.mod.kin.keeps I.bk
theorem Inv.lt (I:Inv X pins σ H s):X.env.locals<s.heap.objs.size:=let ⟨_,hn,_⟩:=I.loc;hn.lt
theorem Inv.sz (I:Inv X pins σ H s):X.s₀.heap.objs.size<=s.heap.objs.size:=Nat.le_trans I.ok.above (le_of_lt I.lt)
theorem Inv.nofs (I:Inv X pins σ H s) {a:Addr}(h:s.heap.objs.size<=a):a∉X.fs:=fun hb=>by
 obtain ⟨_,o,ho,_⟩:=I.ok.funs.mem hb
 exact absurd (lt_of_lt_of_le (Heap.lt_size ho) (Nat.le_trans I.sz h)) (lt_irrefl _)
theorem Inv.cne (I:Inv X pins σ H s):∀ x c,X.env.cells.lookup x=some c->c≠X.env.locals:=fun x c e z=>by
 obtain ⟨v,o,ho,hd⟩:=I.cell x c e
 obtain ⟨m,⟨o',es,ep,ho',hd',_⟩,_⟩:=I.loc
 rw [z,ho'] at ho;cases ho;rw [hd'] at hd;cases hd
theorem Inv.funs (I:Inv X pins σ H s):s.heap.FunFrames X.base X.outer:=by
 have all:∀ (l:List Env),(∀ b∈frs l,b∈X.fs)->X.s₀.heap.FunFrames X.base l->s.heap.FunFrames X.base l:=by
  intro l
  induction l with
  | nil=>intro _ _;trivial
  | cons env r ih =>
   intro hs hl
   obtain ⟨hk,⟨L,o,hf,hn,ho,hd⟩,hr⟩:=hl
   have hL:L∈X.fs:=hs L (by unfold frs;rw [List.filterMap_cons,hf];exact mem_cons_self)
   obtain ⟨sl,e⟩:=I.base.slot L o ho (I.ok.frf L hL) hL fun z=>I.ok.exfs L z hL
   exact ⟨hk,⟨L,_,hf,hn,e,hd⟩,ih (fun b hb=>hs b (by unfold frs;rw [List.filterMap_cons,hf];exact mem_cons_of_mem _ hb)) hr⟩
 exact all X.outer (fun _ hb=>hb) I.ok.funs
theorem Inv.stack (I:Inv X pins σ H s):s.heap.FunFrames X.base X.stack:=by
 rcases I.ok.stk with e|⟨e,hf⟩
 .rw [e];exact I.funs
 .rw [e]
  obtain ⟨m,hn,_⟩:=I.loc
  refine .cons (by rw [I.ok.kind];decide) hf hn ?_ I.funs
  exact Heap.get?_none_of_le (Nat.le_trans I.ok.bsz I.ok.above)
theorem Inv.stkSub (I:Inv X pins σ H s):∀ b∈frs X.stack,b∈X.env.locals::X.fs:=fun b hb=>by
 rcases I.ok.stk with e|⟨e,hf⟩
 .rw [e] at hb;exact mem_cons_of_mem _ hb
 .rw [e] at hb
  unfold frs at hb
  rw [List.filterMap_cons,hf] at hb
  exact hb
theorem Inv.stkFree (I:Inv X pins σ H s):∀ b∈frs X.stack,H b=none:=fun b hb=>by
 rcases mem_cons.mp (I.stkSub b hb) with e|hb
 .rw [e];exact I.free
 .obtain ⟨_,o,ho,_⟩:=I.ok.funs.mem hb
  exact I.base.free b o ho (I.ok.frf b hb) fun z=>I.ok.exfs b z hb
theorem Inv.step {g':Array GenState}{t':Nat}{d':Drawn}{ch:List Addr}(I:Inv X pins σ H s)
  (hch:∀ b∈ch,(b∈X.ex\/X.s₀.heap.objs.size<=b)/\b≠X.env.locals/\(∀ x c,X.env.cells.lookup x=some c->c≠b)/\∀ p∈X.pn++pins,p.1≠b)
  (keep:∀ b o,b≠X.env.locals->b∉X.fs->b∉ch->s.heap.get? b=some o->H b=none->h'.get? b=some o)
  (slot:∀ b o,b≠X.env.locals->b∈X.fs->b∉ch->s.heap.get? b=some o->H b=none->∃ sl,h'.get? b=some { o with slots:=sl }) (free:∀ b o,b∉ch->s.heap.get? b=some o->H b=none->H' b=none)
  (there:∀ b o,b∉ch->s.heap.get? b=some o->∃ o',h'.get? b=some o')
  (tups:∀ b xs,H b=some (.tup xs)->H' b=some (.tup xs)) (frzs:∀ b o u,H b=some (.frz o u)->H' b=some (.frz o u)) (tbls:∀ b ps,H b=some (.tbl ps)->∃ more,H' b=some (.tbl (ps++more)))
  (ns:∀ m,s.heap.Ns X.env.locals m->h'.Ns X.env.locals m) (hok:HOk X.prog X.w H' h') (hg:AllBare g') :
  Inv X pins σ H' { s with heap:=h',gens:=g',drawn:=d',toks:=t' }:=by
 have neL:∀ b o,X.s₀.heap.get? b=some o->b≠X.env.locals:=fun b o e=>ne_of_lt (lt_of_lt_of_le (Heap.lt_size e) I.ok.above)
 have neC:∀ b o,X.s₀.heap.get? b=some o->b∉X.ex->b∉ch:=fun b o e hx hb=>by
  rcases (hch b hb).1 with z|z
  .exact hx z
  .exact absurd (lt_of_lt_of_le (Heap.lt_size e) z) (lt_irrefl _)
 have cellK:∀ x c,X.env.cells.lookup x=some c->∀ v,s.heap.IsCell c v->h'.IsCell c v:=fun x c e v ⟨o,ho,hd⟩=>by
  have nch:c∉ch:=fun z=>(hch c z).2.2.1 x c e rfl
  by_cases hc:c∈X.fs
  .obtain ⟨sl,q⟩:=slot c o (I.cne x c e) hc nch ho (I.freeC x c e)
   exact ⟨_,q,hd⟩
  .exact ⟨o,keep c o (I.cne x c e) hc nch ho (I.freeC x c e),hd⟩
 refine ⟨I.ok,I.os,hg,⟨fun b o e n hb hx=>?_,fun b o e n hb hx=>?_,fun b o e n hx=>?_,fun b o e hx=>?_,fun b xs e=>tups b xs (I.base.tups b xs e),fun b o xs e=>frzs b o xs (I.base.frzs b o xs e),fun b ps e=>?_⟩,?_,fun x c e=>?_,?_,fun x c e=>?_,fun p hp=>?_,hok,I.len⟩
 .exact keep b o (neL b o e) hb (neC b o e hx) (I.base.keep b o e n hb hx) (I.base.free b o e n hx)
 .obtain ⟨sl,e1⟩:=I.base.slot b o e n hb hx
  obtain ⟨sl',e2⟩:=slot b _ (neL b o e) hb (neC b o e hx) e1 (I.base.free b o e n hx)
  exact ⟨sl',e2⟩
 .obtain ⟨o',e1⟩:=I.base.there b o e hx
  exact free b o' (neC b o e hx) e1 (I.base.free b o e n hx)
 .obtain ⟨o',e1⟩:=I.base.there b o e hx
  exact there b o' (neC b o e hx) e1
 .obtain ⟨m1,e1⟩:=I.base.tbls b ps e
  obtain ⟨m2,e2⟩:=tbls b _ e1
  exact ⟨m1++m2,by rw [e2,Array.append_assoc]⟩
 .obtain ⟨m,hn,hl⟩:=I.loc
  refine ⟨m,ns m hn,fun i x v e1 e2 e3=>?_⟩
  obtain ⟨u,r,l⟩:=hl i x v e1 e2 e3
  refine ⟨u,r,?_⟩
  rcases l with l|⟨k,c,e,z⟩
  .exact .inl l
  .exact .inr ⟨k,c,e,cellK x c e _ z⟩
 .obtain ⟨v,z⟩:=I.cell x c e
  exact ⟨v,cellK x c e v z⟩
 .obtain ⟨m,⟨o,_,_,ho,_⟩,_⟩:=I.loc
  exact free _ o (fun z=>(hch _ z).2.1 rfl) ho I.free
 .obtain ⟨v,o,ho,hd⟩:=I.cell x c e
  exact free c o (fun z=>(hch c z).2.2.1 x c e rfl) ho (I.freeC x c e)
 .obtain ⟨e,n,ne,nf,d⟩:=I.pin p hp
  have nch:p.1∉ch:=fun z=>(hch p.1 z).2.2.2 p hp rfl
  exact ⟨keep p.1 p.2 ne nf nch e n,free p.1 p.2 nch e n,ne,nf,d⟩
theorem Inv.un {t':Nat}(I:Inv X pins σ H s) (u:Un X.fs [] H H' s.heap h') (hok:HOk X.prog X.w H' h'):Inv X pins σ H' { s with heap:=h',toks:=t' }:=by
 obtain ⟨m,⟨o,es,ep,ho,r⟩,_⟩:=id I.loc
 obtain ⟨sl,hL⟩:=u.any ho I.free (by simp)
 exact I.step (g':=s.gens) (d':=s.drawn) (ch:=[]) (fun _ z=>nomatch z) (fun b o _ hb _ e n=>u.keep b o e n hb (by simp)) (fun b o _ hb _ e n=>u.slot b o e n hb (by simp)) (fun b o _ e n=>u.free b o e n (by simp)) (fun b o _ e=>u.there b o e (by simp)) u.tups u.frzs u.tbls (fun m' hm=>by
  obtain ⟨o',es',ep',ho',r'⟩:=hm
  rw [ho] at ho';cases ho'
  exact ⟨_,es',ep',hL,r'⟩) hok I.bare
theorem Inv.call {g':Array GenState}{t':Nat}{d':Drawn}{ch:List Addr}(I:Inv X pins σ H s) (u:Un (frs X.stack) ch H H' s.heap h') (hok:HOk X.prog X.w H' h') (hg:AllBare g')
  (hch:∀ b∈ch,(b∈X.ex\/X.s₀.heap.objs.size<=b)/\b≠X.env.locals/\(∀ x c,X.env.cells.lookup x=some c->c≠b)/\∀ p∈X.pn++pins,p.1≠b) :
  Inv X pins σ H' { s with heap:=h',gens:=g',drawn:=d',toks:=t' }:=by
 obtain ⟨m,⟨o,es,ep,ho,r⟩,_⟩:=id I.loc
 obtain ⟨sl,hL⟩:=u.any ho I.free fun z=>(hch _ z).2.1 rfl
 exact I.step (ch:=ch) hch (fun b o hL hb hc e n=>u.keep b o e n (fun z=>(mem_cons.mp (I.stkSub b z)).elim hL hb) hc) (fun b o _ _ hc e n=>u.any e n hc) (fun b o hc e n=>u.free b o e n hc) (fun b o hc e=>u.there b o e hc) u.tups u.frzs u.tbls (fun m' hm=>by
  obtain ⟨o',es',ep',ho',r'⟩:=hm
  rw [ho] at ho';cases ho'
  exact ⟨_,es',ep',hL,r'⟩) hok hg
theorem Inv.turned {t':Nat}{it:Addr}(I:Inv X pins σ H s) (k:∀ b o,b≠it->s.heap.get? b=some o->h'.get? b=some o) (hn:H it=none) (hL:it≠X.env.locals)
  (h1:it∈X.ex\/X.s₀.heap.objs.size<=it) (h2:∀ x c,X.env.cells.lookup x=some c->c≠it) (h3:∀ p∈X.pn++pins,p.1≠it):Inv X pins σ H { s with heap:=h',toks:=t' }:=by
 have nit:∀ b u,H b=some u->b≠it:=fun b u e z=>by rw [z,hn] at e;cases e
 refine I.step (g':=s.gens) (d':=s.drawn) (ch:=[it]) (fun b hb=>?_) (fun b o _ _ hc e _=>k b o (fun z=>hc (by simp [z])) e) (fun b o _ _ hc e _=>⟨o.slots,k b o (fun z=>hc (by simp [z])) e⟩) (fun _ _ _ _ n=>n)
  (fun b o hc e=>⟨o,k b o (fun z=>hc (by simp [z])) e⟩) (fun _ _ e=>e) (fun _ _ _ e=>e) (fun b ps e=>⟨#[],by rw [e];simp⟩) (fun m hm=>?_) (fun b u e=>?_) I.bare
 .have e:b=it:=by simpa using hb
  subst e
  exact ⟨h1,hL,h2,h3⟩
 .obtain ⟨o,es,ep,ho,r⟩:=hm
  exact ⟨o,es,ep,k _ o (Ne.symm hL) ho,r⟩
 .refine (I.hok b u e).stay (fun c v hc q=>k c v ?_ q) (fun _ q=>q) fun _ _ q=>q
  rcases hc with z|z
  .rw [z];exact nit b u e
  .exact nit c _ z
theorem Inv.tok (I:Inv X pins σ H s) (t:Nat):Inv X pins σ H { s with toks:=t }:=I.un (h':=s.heap) (t':=t) Un.refl I.hok
theorem Inv.kept {t':Nat}(I:Inv X pins σ H s) (k:∀ b u,s.heap.get? b=some u->h'.get? b=some u):Inv X pins σ H { s with heap:=h',toks:=t' }:=I.un (Un.kept k) (I.hok.kept k)
theorem Inv.laid {a:Addr}{o:HO}{t':Nat}(I:Inv X pins σ H s) (k:∀ b u,s.heap.get? b=some u->h'.get? b=some u) (hp:s.heap.objs.size<=a) (new:ObjOk X.prog X.w (upd H a o) h' a o) :
  Inv X pins σ (upd H a o) { s with heap:=h',toks:=t' }:=I.un (Un.laid k hp (I.hok.fresh hp)) (I.hok.laid k hp new)
theorem Inv.write {x e:Addr}{o:HO}{t':Nat}(I:Inv X pins σ H s) (mu:Mut (H x)) (he:e=x\/H e=some (.own x)) (k:∀ b u,b≠e->s.heap.get? b=some u->h'.get? b=some u) (heo:∃ u,h'.get? e=some u)
  (new:ObjOk X.prog X.w (upd H x o) h' x o):Inv X pins σ (upd H x o) { s with heap:=h',toks:=t' }:=I.un (Un.write mu he k heo) (I.hok.write mu he k heo new)
theorem Inv.pins_of {pins':List (Addr×Obj)}(I:Inv X pins σ H s) (h:∀ p∈pins',s.heap.get? p.1=some p.2/\H p.1=none/\p.1≠X.env.locals/\p.1∉X.fs/\∀ v,p.2.data≠.cell v):Inv X pins' σ H s :=
 ⟨I.ok,I.os,I.bare,I.base,I.loc,I.cell,I.free,I.freeC,fun p hp=>(List.mem_append.mp hp).elim (fun z=>I.pin p (mem_append_left _ z)) (h p),I.hok,I.len⟩
theorem yiJ {N:List Str}(hN:N.Nodup) {i j:Nat}{x:Str}(a:N[i]?=some x) (b:N[j]?=some x):i=j:=by
 obtain ⟨h1,e1⟩:=List.getElem?_eq_some_iff.mp a
 obtain ⟨h2,e2⟩:=List.getElem?_eq_some_iff.mp b
 exact (List.getElem_inj hN).mp (e1.trans e2.symm)
theorem yoo {M:Model}{A:Around}{E:Value->Shared->Prop}{i:Nat}{x:Str}{v:V}{u:Value}{Q:Unit->Shared->Prop}(I:Inv X pins σ H s) (hN:X.N.Nodup) (hi:X.N[i]?=some x) (hx:Loc X.env.scope x) (r:RelV v u)
  (h:∀ s',Inv X pins (σ.set i (some v)) H s'->(∃ a,Heap.SameBut a s.heap s'.heap/\(a=X.env.locals\/X.env.cells.lookup x=some a))->Q () s') (hf:X.fn x=true\/X.env.scope.names.lookup x=some .local:=by first|exact .inl rfl|exact .inr rfl|assumption):wpAny M A (storeName X.env x u) Q E s:=by
 obtain ⟨m,hn,hl⟩:=id I.loc
 have hcls:(X.env.scope.kind == .class || (X.env.scope.kind == .module && X.env.locals != X.env.globals))=false:=by rw [I.ok.kind];rfl
 have hiσ:i<σ.length:=by rw [I.len];exact (List.getElem?_eq_some_iff.mp hi).1
 have cne:=I.cne
 have tracked:∀ {a:Addr}{h':Heap},(∃ o,s.heap.get? a=some o/\H a=none)->Heap.SameBut a s.heap h'->HOk X.prog X.w H h':=fun {a h'} ha hs b ob e=>by
  obtain ⟨_,_,hfree⟩:=ha
  refine (I.hok b ob e).stay (fun c w' hc q=>(hs.2 c ?_).trans q) (fun _ q=>q) fun _ _ q=>q
  rintro rfl
  rcases hc with rfl|hc
  .rw [hfree] at e;cases e
  .rw [hfree] at hc;cases hc
 rcases hx with hk|hk
 .refine wpAny_storeName_local hk hn (fun h' hn' hs=>?_) hcls
  obtain ⟨oL,_,_,hoL,_⟩:=id hn
  refine h _ ⟨I.ok,I.os,I.bare,⟨fun b o e n hb hx=>?_,fun b o e n hb hx=>?_,I.base.free,fun b o e hx=>?_,I.base.tups,I.base.frzs,I.base.tbls⟩,⟨_,hn',fun j y v' e1 e2 e3=>?_⟩,fun y c e=>?_,I.free,I.freeC,fun p hp=>?_,tracked ⟨oL,hoL,I.free⟩ hs,by simpa using I.len⟩ ⟨_,hs,.inl rfl⟩
  .exact (hs.2 b (ne_of_lt (lt_of_lt_of_le (Heap.lt_size e) I.ok.above))).trans (I.base.keep b o e n hb hx)
  .obtain ⟨sl,e1⟩:=I.base.slot b o e n hb hx
   exact ⟨sl,(hs.2 b (ne_of_lt (lt_of_lt_of_le (Heap.lt_size e) I.ok.above))).trans e1⟩
  .obtain ⟨o',e1⟩:=I.base.there b o e hx
   exact ⟨o',(hs.2 b (ne_of_lt (lt_of_lt_of_le (Heap.lt_size e) I.ok.above))).trans e1⟩
  .by_cases hj:j=i
   .subst hj
    rw [hi] at e1;cases e1
    rw [getElem?_set_self hiσ] at e2
    cases e2
    exact ⟨u,r,.inl ⟨hk,by simp⟩⟩
   .rw [getElem?_set_ne (Ne.symm hj)] at e2
    obtain ⟨u',r',q⟩:=hl j y v' e1 e2 e3
    refine ⟨u',r',?_⟩
    rcases q with ⟨k,e⟩|⟨k,c,e,z⟩
    .refine .inl ⟨k,?_⟩
     have:y≠x:=fun e=>hj (yiJ hN e1 (e ▸ hi))
     simp [this,e]
    .exact .inr ⟨k,c,e,z.sameBut hs (cne y c e)⟩
  .obtain ⟨w',z⟩:=I.cell y c e
   exact ⟨w',z.sameBut hs (cne y c e)⟩
  .obtain ⟨e,n,ne,nf,d⟩:=I.pin p hp
   exact ⟨(hs.2 p.1 ne).trans e,n,ne,nf,d⟩
 .have hfn:X.fn x=true:=by
   rcases hf with z|z
   .exact z
   .rw [z] at hk;cases hk
  obtain ⟨c,hc⟩:=I.ok.has x (.inl hk)
  obtain ⟨w',z⟩:=I.cell x c hc
  refine wpAny_storeName_cell I.ok.kind hk hc z (fun h' hc' hs=>?_)
  obtain ⟨oc,hoc,hocd⟩:=id z
  refine h { s with heap:=h' } ⟨I.ok,I.os,I.bare,⟨fun b o e n hb hx=>?_,fun b o e n hb hx=>?_,I.base.free,fun b o e hx=>?_,I.base.tups,I.base.frzs,I.base.tbls⟩,⟨m,hn.sameBut hs (Ne.symm (cne x c hc)),fun j y v' e1 e2 e3=>?_⟩,fun y c' e=>?_,I.free,I.freeC,fun p hp=>?_,tracked ⟨oc,hoc,I.freeC x c hc⟩ hs,by simpa using I.len⟩ ⟨c,hs,.inr hc⟩
  .exact (hs.2 b (ne_of_lt (lt_of_lt_of_le (Heap.lt_size e) (I.ok.cab x c hfn hc)))).trans (I.base.keep b o e n hb hx)
  .obtain ⟨sl,e1⟩:=I.base.slot b o e n hb hx
   exact ⟨sl,(hs.2 b (ne_of_lt (lt_of_lt_of_le (Heap.lt_size e) (I.ok.cab x c hfn hc)))).trans e1⟩
  .obtain ⟨o',e1⟩:=I.base.there b o e hx
   exact ⟨o',(hs.2 b (ne_of_lt (lt_of_lt_of_le (Heap.lt_size e) (I.ok.cab x c hfn hc)))).trans e1⟩
  .by_cases hj:j=i
   .subst hj
    rw [hi] at e1;cases e1
    rw [getElem?_set_self hiσ] at e2
    cases e2
    exact ⟨u,r,.inr ⟨.inl hk,c,hc,hc'⟩⟩
   .rw [getElem?_set_ne (Ne.symm hj)] at e2
    obtain ⟨u',r',q⟩:=hl j y v' e1 e2 e3
    refine ⟨u',r',?_⟩
    rcases q with q|⟨k,c',e,z'⟩
    .exact .inl q
    .refine .inr ⟨k,c',e,z'.sameBut hs ?_⟩
     rintro rfl
     exact hj (yiJ hN e1 (I.ok.inj _ _ _ e hc ▸ hi))
  .by_cases hcc:c'=c
   .subst hcc;exact ⟨_,hc'⟩
   .obtain ⟨w2,z2⟩:=I.cell y c' e
    exact ⟨w2,z2.sameBut hs hcc⟩
  .obtain ⟨e,n,ne,nf,d⟩:=I.pin p hp
   refine ⟨(hs.2 p.1 ?_).trans e,n,ne,nf,d⟩
   intro q
   rw [q,hoc] at e
   have q':oc=p.2:=Option.some.inj e
   exact d w' (by rw [<- q'];exact hocd)
theorem yiK {M:Model}{A:Around}{E:Value->Shared->Prop}{i:Nat}{x:Str}{v:V}{u:Value}{Q:Unit->Shared->Prop}(I:Inv X pins σ H s) (hN:X.N.Nodup) (hi:X.N[i]?=some x) (hx:Loc X.env.scope x) (r:RelV v u)
  (h:∀ s',Inv X pins (σ.set i (some v)) H s'->Q () s') (hf:X.fn x=true\/X.env.scope.names.lookup x=some .local:=by first|exact .inl rfl|exact .inr rfl|assumption):wpAny M A (storeName X.env x u) Q E s :=
 yoo I hN hi hx r (fun s' I' _=>h s' I') hf
theorem Inv.call' {s':Shared}{ch:List Addr}(I:Inv X pins σ H s) (ho:s'.os=s.os) (u:Un (frs X.stack) ch H H' s.heap s'.heap) (hok:HOk X.prog X.w H' s'.heap) (hg:AllBare s'.gens)
  (hch:∀ b∈ch,(b∈X.ex\/X.s₀.heap.objs.size<=b)/\b≠X.env.locals/\(∀ x c,X.env.cells.lookup x=some c->c≠b)/\∀ p∈X.pn++pins,p.1≠b):Inv X pins σ H' s':=by
 obtain ⟨h',g',d',t',o'⟩:=s'
 have e:o'=s.os:=ho
 subst e
 exact I.call (g':=g') (t':=t') (d':=d') u hok hg hch
end
abbrev XK:=Value->Option Addr->Hp->Prop
abbrev St:=List (Option V)
abbrev VK:=V->Hp->Prop
abbrev TE:=St->Hp->VK->Prop
abbrev TT:=St->Hp->(Bool->Hp->Prop)->Prop
abbrev TA:=St->Hp->(List V->Hp->Prop)->Prop
structure Ends where
 nx:St->Hp->Prop
 rt:VK
 bk:St->Hp->Prop:=fun _ _=>False
 ct:St->Hp->Prop:=fun _ _=>False
abbrev TS:=Ends->St->Hp->Prop
def EP (X:Cx) (pins:List (Addr×Obj)) (σ:St) (Q:VK) (u:Value) (s':Shared):Prop:=∃ v H',Inv X pins σ H' s'/\RelV v u/\Q v H'
noncomputable def TP (X:Cx) (pins:List (Addr×Obj)) (σ:St) (Q:Bool->Hp->Prop) (b:Bool) (s':Shared):Prop:=∃ H',Inv X pins σ H' s'/\Q b H'
def AP (X:Cx) (pins:List (Addr×Obj)) (σ:St) (Q:List V->Hp->Prop) (us:List Value) (s':Shared):Prop:=∃ vs H',Inv X pins σ H' s'/\Vals vs us/\Q vs H'
def SP (X:Cx) (pins:List (Addr×Obj)) (D:Ends) (f:Flow) (s':Shared):Prop :=
 match f with
 | .next=>∃ σ' H',Inv X pins σ' H' s'/\D.nx σ' H'
 | .brk=>∃ σ' H',Inv X pins σ' H' s'/\D.bk σ' H'
 | .cont=>∃ σ' H',Inv X pins σ' H' s'/\D.ct σ' H'
 | .ret u=>∃ v σ' H',Inv X pins σ' H' s'/\RelV v u/\D.rt v H'
def PE (X:Cx) (e:Expr) (t:TE):Prop :=
 ∀ (pins:List (Addr×Obj)) (s:Shared) (σ:St) (H:Hp) (Q:VK),Inv X pins σ H s->t σ H Q->wpAny (model X.prog X.w) X.A (eval e X.env) (EP X pins σ Q) X.xe s
def PT (X:Cx) (e:Expr) (t:TT):Prop :=
 ∀ (pins:List (Addr×Obj)) (s:Shared) (σ:St) (H:Hp) (Q:Bool->Hp->Prop),Inv X pins σ H s->t σ H Q->wpAny (model X.prog X.w) X.A (isTrue e X.env (eval e X.env)) (TP X pins σ Q) X.xe s
def PW (X:Cx) (e:Expr) (t:TT):Prop :=
 ∀ (whole:Sem Value) (pins:List (Addr×Obj)) (s:Shared) (σ:St) (H:Hp) (Q:Bool->Hp->Prop),Inv X pins σ H s->t σ H Q->wpAny (model X.prog X.w) X.A (isTrue e X.env whole) (TP X pins σ Q) X.xe s
theorem PW.pt {X:Cx}{e:Expr}{t:TT}(h:PW X e t):PT X e t:=h _
def PA (X:Cx) (es:List Expr) (t:TA):Prop :=
 ∀ (pos:Pos) (pins:List (Addr×Obj)) (s:Shared) (σ:St) (H:Hp) (Q:List V->Hp->Prop),Inv X pins σ H s->t σ H Q->wpAny (model X.prog X.w) X.A (spliced (backTo pos (starEach es X.env))) (AP X pins σ Q) X.xe s
def PS (X:Cx) (st:Stmt) (t:TS):Prop :=
 ∀ (pins:List (Addr×Obj)) (s:Shared) (σ:St) (H:Hp) (D:Ends),Inv X pins σ H s->t D σ H->wpAny (model X.prog X.w) X.A (exec st X.env) (SP X pins D) X.xe s
def PSs (X:Cx) (st:List Stmt) (t:TS):Prop :=
 ∀ (pins:List (Addr×Obj)) (s:Shared) (σ:St) (H:Hp) (D:Ends),Inv X pins σ H s->t D σ H->wpAny (model X.prog X.w) X.A (execs st X.env) (SP X pins D) X.xe s
theorem thn {α:Type}{t:Sem α}{Q Q':α->Shared->Prop}{M:Model}{A:Around}{E:Value->Shared->Prop}{s:Shared}(h:wpAny M A t Q E s) (hQ:∀ a s,Q a s->Q' a s):wpAny M A t Q' E s:=wpAny_mono h hQ fun _ _ x=>x
end L2
namespace L2
open PySem PySem.Spec PyProof.Rows
section
variable {X:Cx}
def yny (i:Nat):TE:=fun σ H Q=>∃ v,σ[i]?=some (some v)/\Q v H
def tC (v:V):TE:=fun _ H Q=>Q v H
theorem yhn {i:Nat}{x:Str}{pos:Pos}(hN:X.N[i]?=some x) (hv:Vis X.env.scope x) (hd:(x == ("__debug__":Str))=false:=by decide) (hcd:(x == ("__classdict__":Str))=false:=by decide):PE X (.Name x pos) (yny i):=by
 intro pins s σ H Q I h
 obtain ⟨v,e,h⟩:=h
 obtain ⟨m,hn,hl⟩:=I.loc
 obtain ⟨u,r,l⟩:=hl i x v hN e hv
 have fin:EP X pins σ Q u s:=⟨v,H,I,r,h⟩
 rcases l with ⟨hk,hm⟩|⟨hk,c,hc,hcell⟩
 .exact wpAny_Name (wpAny_loadName_local I.ok.kind hk hn hm fin) hd
 .rcases hk with hk|hk
  .exact wpAny_Name (wpAny_loadName_cell I.ok.kind hk hc hcell fin) hd
  .exact wpAny_Name (wpAny_loadName_free I.ok.kind hk hc hcell fin hcd) hd
theorem yvJ {i j pos}:PE X (.Constant (.int i) j pos) (tC (.int i)):=fun _ _ _ H _ I h=>wpAny_Constant_int ⟨.int i,H,I.tok _,⟨_,rfl⟩,h⟩
theorem yyt {b j pos}:PE X (.Constant (.bool b) j pos) (tC (.bl b)):=fun _ _ _ H _ I h=>Constant_bool ⟨.bl b,H,I,rfl,h⟩
theorem yvK {j pos}:PE X (.Constant .none j pos) (tC .non):=fun _ _ _ H _ I h=>Constant_none ⟨.non,H,I,rfl,h⟩
theorem yvL {x j pos}:PE X (.Constant (.str x) j pos) (tC (.str x)):=fun _ _ _ H _ I h=>Calls.Constant_str ⟨.str x,H,I.tok _,⟨_,rfl⟩,h⟩
def Gl (X:Cx) (x:Str):Prop:=X.env.kindOf x=some .globalImplicit
theorem yeS {E:Value->Shared->Prop}{pins:List (Addr×Obj)}{s:Shared}{σ:St}{H:Hp}{x:Str}{u:Value}{pos:Pos}{Q:Value->Shared->Prop}(I:Inv X pins σ H s) (hg:Gl X x) (hm:X.mg x=some u) (h:Q u s)
  (hd:(x == ("__debug__":Str))=false:=by decide):wpAny (model X.prog X.w) X.A (eval (.Name x pos) X.env) Q E s :=
 Calls.Name_function_global I.ok.kind hg (Calls.loadGlobal_global (by rw [I.ok.glob];exact I.mod.glob.keeps I.bk) hm h) hd
theorem ymD {E:Value->Shared->Prop}{pins:List (Addr×Obj)}{s:Shared}{σ:St}{H:Hp}{x:Str}{u:Value}{pos:Pos}{Q:Value->Shared->Prop}(I:Inv X pins σ H s) (hg:Gl X x) (hm:X.mg x=none) (hv:bootBuiltins x=some u) (h:Q u s)
  (hn:x≠"__name__":=by decide) (hd:(x == ("__debug__":Str))=false:=by decide):wpAny (model X.prog X.w) X.A (eval (.Name x pos) X.env) Q E s:=by
 obtain ⟨mb,h1,h2⟩:=I.mod.blt
 exact Calls.Name_function_global I.ok.kind hg (Calls.loadGlobal_builtin (by rw [I.ok.glob];exact I.mod.glob.keeps I.bk) hm (by rw [I.ok.blt];exact h1.keeps I.bk) ((h2 x hn).trans hv) h) hd
theorem yiL {x:Str}{v:V}{u:Value}{pos:Pos}(hg:Gl X x) (hm:X.mg x=some u) (r:RelV v u) (hd:(x == ("__debug__":Str))=false:=by decide):PE X (.Name x pos) (tC v) :=
 fun _ _ _ H _ I h=>yeS I hg hm ⟨v,H,I,r,h⟩ hd
theorem ytD {x:Str}{v:V}{u:Value}{pos:Pos}(hg:Gl X x) (hm:X.mg x=none) (hv:bootBuiltins x=some u) (r:RelV v u) (hn:x≠"__name__":=by decide) (hd:(x == ("__debug__":Str))=false:=by decide):PE X (.Name x pos) (tC v) :=
 fun _ _ _ H _ I h=>ymD I hg hm hv ⟨v,H,I,r,h⟩ hn hd
variable {a b:Expr}{ta tb:TE}{pos:Pos}
def tB (t:TE):TT:=fun σ H Q=>t σ H fun x H1=>∃ c,x=.bl c/\Q c H1
theorem yvM {e:Expr}{t:TE}(h:PE X e t) (he:∀ whole,isTrue e X.env whole=(do let v <- whole;standAt e.pos;holding [v] (truthy v)):=by intro _;rfl):PT X e (tB t):=by
 intro pins s σ H Q I hw
 refine isTrue_plain (thn (h pins s σ H _ I hw) fun v s1 ⟨x,H1,I1,r1,q1⟩=>?_) (he _)
 obtain ⟨d,rfl,q⟩:=q1
 cases r1
 exact wpAny_truthy_bool ⟨H1,I1,q⟩
variable {tA tB':TT}{rest:List Expr}
def yAj (t u:TT):TT:=fun σ H Q=>t σ H fun c H1=>if c=true then u σ H1 Q else Q false H1
def tOr (t u:TT):TT:=fun σ H Q=>t σ H fun c H1=>if c=true then Q true H1 else u σ H1 Q
def yyu (t:TT):TT:=fun σ H Q=>t σ H fun c H1=>Q (!c) H1
theorem ytE (ha:PT X a tA):PW X (.BoolOp .And [a] pos) tA:=by
 intro wh pins s σ H Q I h
 refine isTrue_and (thn (ha pins s σ H Q I h) fun c s1 e=>?_)
 cases c with
 | true=>exact isTrue_and_nil e
 | false=>exact e
theorem yvN (ha:PT X a tA):PW X (.BoolOp .Or [a] pos) tA:=by
 intro wh pins s σ H Q I h
 refine isTrue_or (thn (ha pins s σ H Q I h) fun c s1 e=>?_)
 cases c with
 | false=>exact isTrue_or_nil e
 | true=>exact e
theorem yvO (ha:PT X a tA) (hb:PW X (.BoolOp .And (b::rest) pos) tB'):PW X (.BoolOp .And (a::b::rest) pos) (yAj tA tB'):=by
 intro wh pins s σ H Q I h
 refine isTrue_and (thn (ha pins s σ H _ I h) fun c s1 ⟨H1,I1,q1⟩=>?_)
 cases c with
 | true=>exact hb wh pins s1 σ H1 Q I1 q1
 | false=>exact ⟨H1,I1,q1⟩
theorem yyv (ha:PT X a tA) (hb:PW X (.BoolOp .Or (b::rest) pos) tB'):PW X (.BoolOp .Or (a::b::rest) pos) (tOr tA tB'):=by
 intro wh pins s σ H Q I h
 refine isTrue_or (thn (ha pins s σ H _ I h) fun c s1 ⟨H1,I1,q1⟩=>?_)
 cases c with
 | true=>exact ⟨H1,I1,q1⟩
 | false=>exact hb wh pins s1 σ H1 Q I1 q1
theorem yvP (ha:PT X a tA):PT X (.UnaryOp .Not a pos) (yyu tA):=by
 intro pins s σ H Q I h
 exact isTrue_not (ha pins s σ H (fun c H1=>Q (!c) H1) I h)
def yvQ (ta tb:TE):TE:=fun σ H Q=>ta σ H fun x H1=>∃ c,x=.bl c/\if c=true then tb σ H1 Q else Q (.bl false) H1
def yvR (ta:TE):TE:=fun σ H Q=>ta σ H fun x H1=>∃ c,x=.bl c/\Q (.bl (!c)) H1
theorem yvS {op} {t:TE}(h:PE X a t):PE X (.BoolOp op [a] pos) t:=fun pins s σ H Q I hw=>BoolOp_one (h pins s σ H Q I hw)
theorem yvT (ha:PE X a ta) (hb:PE X (.BoolOp .And (b::rest) pos) tb):PE X (.BoolOp .And (a::b::rest) pos) (yvQ ta tb):=by
 intro pins s σ H Q I h
 refine BoolOp_and (thn (ha pins s σ H _ I h) fun v s1 ⟨x,H1,I1,r1,q1⟩=>?_)
 obtain ⟨c,rfl,q1⟩:=q1
 cases r1
 refine wpAny_truthy_bool ?_
 cases c with
 | true=>exact hb pins s1 σ H1 Q I1 q1
 | false=>exact ⟨.bl false,H1,I1,rfl,q1⟩
theorem yvU (ha:PE X a ta):PE X (.UnaryOp .Not a pos) (yvR ta):=by
 intro pins s σ H Q I h
 refine UnaryOp_ (thn (ha pins s σ H _ I h) fun v s1 ⟨x,H1,I1,r1,q1⟩=>?_)
 obtain ⟨c,rfl,q1⟩:=q1
 cases r1
 exact not_of (wpAny_truthy_bool ⟨.bl (!c),H1,I1,rfl,q1⟩)
def tIf (t:TT) (ta tb:TE):TE:=fun σ H Q=>t σ H fun c H1=>if c=true then ta σ H1 Q else tb σ H1 Q
theorem yqJ {c:Expr}(hc:PT X c tA) (ha:PE X a ta) (hb:PE X b tb):PE X (.IfExp c a b pos) (tIf tA ta tb):=by
 intro pins s σ H Q I h
 refine wpAny_IfExp (thn (hc pins s σ H _ I h) fun d s1 ⟨H1,I1,q1⟩=>?_)
 cases d with
 | true=>exact ha pins s1 σ H1 Q I1 q1
 | false=>exact hb pins s1 σ H1 Q I1 q1
end
end L2
namespace L2
open PySem PySem.Spec PyProof.Rows
def SqL (K:PySem.W.Frag) (H:Hp) (a:Addr) (xs:List V):Prop :=
 Rd H a (.lst xs) \/
  ∃ (o:Obj) (its:Array Value) (n:Nat),K.lookup a=some o/\o.cls=.type "list"/\o.dict=none/\o.data=.seq its n/\its.size<=sizeLine/\Vals xs its.toList
def SqT (K:PySem.W.Frag) (H:Hp) (a:Addr) (xs:List V):Prop :=
 Rd H a (.tup xs) \/
  ∃ (o:Obj) (its:Array Value) (n:Nat),K.lookup a=some o/\o.cls=.type "tuple"/\o.data=.seq its n/\its.size<=sizeLine/\Vals xs its.toList
noncomputable def yAT:Value->Option V
 | .none=>some .non
 | .bool b=>some (.bl b)
 | .int i _=>some (.int i)
 | .str x _=>some (.str x)
 | .bytes b _=>some (.byt b)
 | .float b _=>some (.flt b)
 | .ref a=>some (.ref a)
 | .type n=>some (.ty n)
 | _=>none
theorem RelV.abs {x:V}{u:Value}(r:RelV x u):yAT u=some x:=by
 cases x with
 | non=>cases r;rfl
 | bl _=>cases r;rfl
 | int _=>obtain ⟨t,rfl⟩:=r;rfl
 | str _=>obtain ⟨t,rfl⟩:=r;rfl
 | byt _=>obtain ⟨t,rfl⟩:=r;rfl
 | flt _=>obtain ⟨t,rfl⟩:=r;rfl
 | ref _=>cases r;rfl
 | ty _=>cases r;rfl
theorem RelV.inj {x y:V}{u:Value}(r:RelV x u) (q:RelV y u):x=y:=Option.some.inj (r.abs.symm.trans q.abs)
theorem Vals.inj:∀ {xs ys:List V}{us:List Value},Vals xs us->Vals ys us->xs=ys
 | _,_,_,.nil,.nil=>rfl
 | _,_,_,.cons r t,.cons r' t'=>by rw [r.inj r',Vals.inj t t']
section
variable {X:Cx}{pins:List (Addr×Obj)}{σ:St}{H:Hp}{s:Shared}{a:Addr}{xs ys:List V}
theorem SqL.of {K:PySem.W.Frag}(h:H a=some (.lst xs)):SqL K H a xs:=.inl (.inl h)
theorem SqT.of {K:PySem.W.Frag}(h:H a=some (.tup xs)):SqT K H a xs:=.inl (.inl h)
theorem Inv.list (I:Inv X pins σ H s) (h:SqL X.K H a xs):∃ its:List Value,Vals xs its/\PlainL s.heap a its.toArray/\xs.length<=sizeLine:=by
 rcases h with h|⟨o,its,n,hk,hc,hd,hs,hz,r⟩
 .obtain ⟨z,its,n,r,e⟩:=h.ok I.hok
  exact ⟨its,r,⟨_,n,e,rfl,rfl,rfl⟩,z⟩
 .refine ⟨its.toList,r,⟨o,n,I.kIn a o hk,hc,hd,by simpa using hs⟩,?_⟩
  have e:=r.length
  simp only [Array.length_toList] at e
  omega
theorem Inv.tuple (I:Inv X pins σ H s) (h:SqT X.K H a xs):∃ its:List Value,Vals xs its/\IsTup s.heap a its.toArray/\xs.length<=sizeLine:=by
 rcases h with h|⟨o,its,n,hk,hc,hs,hz,r⟩
 .obtain ⟨z,its,r,p⟩:=h.ok I.hok
  exact ⟨its,r,p,z⟩
 .refine ⟨its.toList,r,⟨o,I.kIn a o hk,hc,n,by simpa using hs⟩,?_⟩
  have e:=r.length
  simp only [Array.length_toList] at e
  omega
theorem Inv.list_inj (I:Inv X pins σ H s) (h:SqL X.K H a xs) (h':SqL X.K H a ys):xs=ys:=by
 obtain ⟨its,r,⟨o,n,e,_,_,d⟩,_⟩:=I.list h
 obtain ⟨its',r',⟨o',n',e',_,_,d'⟩,_⟩:=I.list h'
 rw [e] at e';cases e'
 rw [d] at d'
 injection d' with d1 _
 have:its=its':=by simpa using congrArg Array.toList d1
 subst this
 exact r.inj r'
end
abbrev Cx.wish (X:Cx) (E:Value->Shared->Prop):Cx:={ X with xe:=E }
abbrev Cx.nox (X:Cx):Cx:=X.wish fun _ _=>False
theorem Cx.Ok.wish {X:Cx}(ok:X.Ok) (E:Value->Shared->Prop):(X.wish E).Ok :=
 ⟨ok.mod,ok.kind,ok.glob,ok.blt,ok.above,ok.inj,ok.has,ok.cab,ok.hd,ok.frames,ok.stk,ok.exf,ok.bs,ok.bsz,ok.noex,ok.exfs,ok.funs,ok.frf⟩
theorem Cx.Ok.unwish {X:Cx}{E:Value->Shared->Prop}(ok:(X.wish E).Ok):X.Ok :=
 ⟨ok.mod,ok.kind,ok.glob,ok.blt,ok.above,ok.inj,ok.has,ok.cab,ok.hd,ok.frames,ok.stk,ok.exf,ok.bs,ok.bsz,ok.noex,ok.exfs,ok.funs,ok.frf⟩
section
variable {X:Cx}{pins:List (Addr×Obj)}{σ:St}{H:Hp}{s:Shared}{E:Value->Shared->Prop}
theorem Inv.wish (I:Inv X pins σ H s) (E:Value->Shared->Prop):Inv (X.wish E) pins σ H s:=⟨I.ok.wish E,I.os,I.bare,I.base,I.loc,I.cell,I.free,I.freeC,I.pin,I.hok,I.len⟩
theorem Inv.unwish (I:Inv (X.wish E) pins σ H s):Inv X pins σ H s:=⟨I.ok.unwish,I.os,I.bare,I.base,I.loc,I.cell,I.free,I.freeC,I.pin,I.hok,I.len⟩
theorem SP.unwish {D:Ends}{f:Flow}{s':Shared}(h:SP (X.wish E) pins D f s'):SP X pins D f s':=by
 cases f with
 | next=>obtain ⟨σ',H',I,q⟩:=h;exact ⟨σ',H',I.unwish,q⟩
 | brk=>obtain ⟨σ',H',I,q⟩:=h;exact ⟨σ',H',I.unwish,q⟩
 | cont=>obtain ⟨σ',H',I,q⟩:=h;exact ⟨σ',H',I.unwish,q⟩
 | ret u=>obtain ⟨v,σ',H',I,r,q⟩:=h;exact ⟨v,σ',H',I.unwish,r,q⟩
theorem PSs.nox {st:List Stmt}{t:TS}(h:PSs X.nox st t):PSs X st t:=fun pins s σ H D I hw =>
 wpAny_mono (h pins s σ H D (I.wish _) hw) (fun _ _ q=>q.unwish) fun _ _ z=>False.elim z
end
section
variable {X:Cx}{st:Stmt}{rest:List Stmt}{t u:TS}{e:Expr}{te:TE}{pos:Pos}
def yvV:TS:=fun D σ H=>D.nx σ H
def yyw (t u:TS):TS:=fun D σ H=>t { D with nx:=u D } σ H
theorem yop:PSs X [] yvV:=fun _ _ σ H _ I h=>wpAny_execs_nil ⟨σ,H,I,h⟩
theorem ygb (h1:PS X st t) (h2:PSs X rest u):PSs X (st::rest) (yyw t u):=by
 intro pins s σ H D I h
 refine wpAny_execs_cons (thn (h1 pins s σ H { D with nx:=u D } I h) fun f s1 q=>?_)
 cases f with
 | next =>
  obtain ⟨σ',H',I',q⟩:=q
  exact h2 pins s1 σ' H' D I' q
 | ret v=>exact q
 | brk=>exact q
 | cont=>exact q
theorem yoq (h1:PS X st t):PSs X [st] t:=by
 intro pins s σ H D I h
 refine wpAny_execs_cons (thn (h1 pins s σ H D I h) fun f s1 q=>?_)
 cases f with
 | next=>exact wpAny_execs_nil q
 | ret v=>exact q
 | brk=>exact q
 | cont=>exact q
theorem Inv.quiet {pins:List (Addr×Obj)}{σ:St}{H:Hp}{s:Shared}(I:Inv X pins σ H s):interactive X.env=false:=by simp [interactive,I.ok.kind]
def yor (te:TE):TS:=fun D σ H=>te σ H fun _ H1=>D.nx σ H1
theorem ygA (he:PE X e te) (hs:swapsWith e none pos.line X.env=pure false:=by rfl):PS X (.Expr e pos) (yor te):=by
 intro pins s σ H D I h
 exact wpAny_Expr_any (thn (he pins s σ H _ I h) fun v s1 ⟨x,H1,I1,r1,q1⟩=>⟨σ,H1,I1,q1⟩) I.quiet hs
def yAk (te:TE):TS:=fun D σ H=>te σ H D.rt
theorem ysL (he:PE X e te):PS X (.Return (some e) pos) (yAk te):=by
 intro pins s σ H D I h
 exact wpAny_Return_some (thn (he pins s σ H _ I h) fun v s1 ⟨x,H1,I1,r1,q1⟩=>⟨x,σ,H1,I1,r1,q1⟩)
def yAl (c:TT) (t u:TS):TS:=fun D σ H=>c σ H fun b H1=>if b=true then t D σ H1 else u D σ H1
theorem yvW {c:Expr}{a b:List Stmt}{tc:TT}(hc:PT X c tc) (ha:PSs X a t) (hb:PSs X b u):PS X (.If c a b pos) (yAl tc t u):=by
 intro pins s σ H D I h
 refine wpAny_If (thn (hc pins s σ H _ I h) fun d s1 ⟨H1,I1,q1⟩=>?_)
 cases d with
 | true=>exact ha pins s1 σ H1 D I1 q1
 | false=>exact hb pins s1 σ H1 D I1 q1
def yos:TS:=fun _ _ _=>False
theorem yqK:PS X st yos:=fun _ _ _ _ _ _ h=>h.elim
theorem yot {sts:List Stmt}:PSs X sts yos:=fun _ _ _ _ _ _ h=>h.elim
end
abbrev TG:=V->St->Hp->(St->Hp->Prop)->Prop
abbrev TGs:=List V->St->Hp->(St->Hp->Prop)->Prop
def PG (X:Cx) (target:Expr) (t:TG):Prop :=
 ∀ (pins:List (Addr×Obj)) (s:Shared) (σ:St) (H:Hp) (v:V) (u:Value) (Q:St->Hp->Prop),Inv X pins σ H s->RelV v u->t v σ H Q ->
  wpAny (model X.prog X.w) X.A (assign target X.env u) (fun _ s'=>∃ σ' H',Inv X pins σ' H' s'/\Q σ' H') X.xe s
def PGs (X:Cx) (ts:List Expr) (t:TGs):Prop :=
 ∀ (pins:List (Addr×Obj)) (s:Shared) (σ:St) (H:Hp) (vs:List V) (us:List Value) (Q:St->Hp->Prop),Inv X pins σ H s->Vals vs us->t vs σ H Q ->
  wpAny (model X.prog X.w) X.A (assignInOrder ((assignEach ts X.env).map (·.2)) us) (fun _ s'=>∃ σ' H',Inv X pins σ' H' s'/\Q σ' H') X.xe s
abbrev yyx:=V->V->V->Hp->(Hp->Prop)->Prop
def yAm (X:Cx) (t:yyx):Prop :=
 ∀ (pins:List (Addr×Obj)) (s:Shared) (σ:St) (H:Hp) (o i v:V) (ov iv u:Value) (Q:Hp->Prop),Inv X pins σ H s->RelV o ov->RelV i iv->RelV v u->t o i v H Q ->
  wpAny (model X.prog X.w) X.A (setItem ov iv u) (fun _ s'=>∃ H',Inv X pins σ H' s'/\Q H') X.xe s
section
variable {X:Cx}{pos:Pos}
def ynz (i:Nat):TG:=fun v σ H Q=>Q (σ.set i (some v)) H
theorem yfO {i:Nat}{x:Str}(hN:X.N.Nodup) (hi:X.N[i]?=some x) (hx:Loc X.env.scope x) (hf:X.fn x=true\/X.env.scope.names.lookup x=some .local:=by first|exact .inl rfl|exact .inr rfl|assumption):PG X (.Name x pos) (ynz i):=by
 intro pins s σ H v u Q I r h
 exact wpAny_assign_Name (yiK I hN hi hx r (fun s' I'=>⟨_,H,I',h⟩) hf)
def yAn:TGs:=fun vs σ H Q=>vs=[]/\Q σ H
def yvX (t:TG) (u:TGs):TGs:=fun vs σ H Q=>∃ v r,vs=v::r/\t v σ H fun σ' H'=>u r σ' H' Q
theorem you:PGs X [] yAn:=by
 intro pins s σ H vs us Q I r h
 obtain ⟨e,h⟩:=h
 subst e
 cases r
 exact assignInOrder_nil ⟨σ,H,I,h⟩
theorem yiM {e:Expr}{es:List Expr}{t:TG}{u:TGs}(h1:PG X e t) (h2:PGs X es u)
  (hs:(assignEach (e::es) X.env).map (·.2)=assign e X.env::(assignEach es X.env).map (·.2):=by rfl):PGs X (e::es) (yvX t u):=by
 intro pins s σ H vs us Q I r h
 obtain ⟨v,vr,e1,h⟩:=h
 subst e1
 cases r with
 | cons r rr =>
  rw [hs]
  refine assignInOrder_cons (thn (h1 pins s σ H _ _ _ I r h) fun _ s1 ⟨σ1,H1,I1,q1⟩=>?_)
  exact h2 pins s1 σ1 H1 _ _ Q I1 rr q1
def yAo (K:PySem.W.Frag) (n:Nat) (t:TGs):TG:=fun v σ H Q=>∃ a xs,v=.ref a/\SqT K H a xs/\xs.length=n/\t xs σ H Q
theorem ysM {es:List Expr}{k:Nat}{t:TGs}{n:Nat}(hc:X.calm=true) (h:PGs X es t)
  (hn:(assignEach es X.env).length=n:=by rfl) (hst:(assignEach es X.env).findIdx? (·.1)=none:=by rfl):PG X (.Tuple es k pos) (yAo X.K n t):=by
 intro pins s σ H v u Q I r hw
 obtain ⟨a,xs,e1,hq,hl,hw⟩:=hw
 subst e1
 cases r
 obtain ⟨its,rv,ht,hz⟩:=I.tuple hq
 refine assign_Tuple_tuple (I.ok.hd hc) ht (by simp [hn,<- hl,rv.length]) hst fun h' hx=>?_
 have I1:Inv X pins σ H { s with heap:=h' }:=I.kept (t':=s.toks) fun b o e=>hx b o (ne_of_lt (Heap.lt_size e)) e
 exact h pins _ σ H xs _ Q I1 (by simpa using rv) hw
def yAp (to ti:TE) (t:yyx):TG:=fun v σ H Q=>to σ H fun o H1=>ti σ H1 fun i H2=>t o i v H2 fun H3=>Q σ H3
theorem yvY {o i:Expr}{to ti:TE}{t:yyx}(ho:PE X o to) (hi:PE X i ti) (hs:yAm X t)
  (ha:∀ v,assign (.Subscript o i pos) X.env v=(do
   let ov <- holding [v] (eval o X.env)
   let iv <- holding [v,ov] (eval i X.env)
   standAt pos
   holding [v,ov,iv] (setItem ov iv v)
   release [v,ov,iv] []):=by intro _;rfl):PG X (.Subscript o i pos) (yAp to ti t):=by
 intro pins s σ H v u Q I r h
 rw [ha]
 refine wpAny_bind (wpAny_holding (thn (ho pins s σ H _ I h) fun ov s1 ⟨x,H1,I1,r1,q1⟩=>?_))
 refine wpAny_bind (wpAny_holding (thn (hi pins s1 σ H1 _ I1 q1) fun iv s2 ⟨y,H2,I2,r2,q2⟩=>?_))
 refine wpAny_bind (wpAny_standAt (wpAny_bind (wpAny_holding (thn (hs pins s2 σ H2 x y v ov iv u _ I2 r1 r2 r q2) fun _ s3 ⟨H3,I3,q3⟩=>?_))))
 exact wpAny_release ⟨σ,H3,I3,q3⟩
def ysN (te:TE) (g:TG):TS:=fun D σ H=>te σ H fun x H1=>g x σ H1 D.nx
theorem ysO {tg e:Expr}{te:TE}{g:TG}(he:PE X e te) (hg:PG X tg g) (hs:swapsWithSole [tg] e pos.line X.env=pure false:=by rfl) (hw:swappedStores [tg] e X.env=pure none:=by rfl)
  (h1:(assignEach [tg] X.env).map (·.2)=[assign tg X.env]:=by rfl):PS X (.Assign [tg] e pos) (ysN te g):=by
 intro pins s σ H D I h
 refine wpAny_Assign_stores (thn (he pins s σ H _ I h) fun v s1 ⟨x,H1,I1,r1,q1⟩=>?_) hs hw
 rw [h1]
 exact thn (hg pins s1 σ H1 x v _ I1 r1 q1) fun _ s2 q=>q
theorem yov {i:Nat}{x:Str}{e:Expr}{te:TE}{pos':Pos}(hN:X.N.Nodup) (hi:X.N[i]?=some x) (hx:Loc X.env.scope x) (he:PE X e te) (hs:swapsWith e (some (.Name x pos')) pos.line X.env=pure false:=by rfl) (hf:X.fn x=true\/X.env.scope.names.lookup x=some .local:=by first|exact .inl rfl|exact .inr rfl|assumption) :
  PS X (.Assign [.Name x pos'] e pos) (ysN te (ynz i)):=by
 intro pins s σ H D I h
 refine wpAny_Assign_Name (thn (he pins s σ H _ I h) fun v s1 ⟨y,H1,I1,r1,q1⟩=>?_) hs
 exact yiK I1 hN hi hx r1 (fun s2 I2=>⟨_,H1,I2,q1⟩) hf
end
section
variable {X:Cx}{pos:Pos}
noncomputable def ysP (c:TT) (tb:TS):TS:=fun D σ H=>∃ W:Nat->St->Hp->Prop,(∃ m,W m σ H)/\∀ m σ H,W m σ H ->
 c σ H fun b H1=>if b=true then ∃ N:St->Hp->Prop,(∀ σ' H',N σ' H'->∃ m',m'<m/\W m' σ' H')/\tb { D with nx:=N,ct:=N,bk:=D.nx } σ H1 else D.nx σ H1
theorem ymE {c:Expr}{body:List Stmt}{tc:TT}{tb:TS}(hp:PassesOwn (model X.prog X.w) X.A X.env X.xe) (hc:PT X c tc) (hb:PSs X body tb):PS X (.While c body [] pos) (ysP tc tb):=by
 intro pins s σ H D I h
 obtain ⟨W,⟨m0,w0⟩,turn⟩:=h
 refine wpAny_While (codeAny_whileLoop (fun n s'=>∃ σ' H',Inv X pins σ' H' s'/\W n σ' H') ?_ m0 ⟨σ,H,I,w0⟩)
 rintro n s1 ⟨σ1,H1,I1,w1⟩
 refine wpAny_passesOwn hp (thn (hc pins s1 σ1 H1 _ I1 (turn n σ1 H1 w1)) fun b s2 ⟨H2,I2,q2⟩=>?_)
 cases b with
 | true =>
  obtain ⟨N,hN,q2⟩:=q2
  rw [if_pos rfl]
  refine wpAny_passesOwn hp (thn (hb pins s2 σ1 H2 _ I2 q2) fun f s3 q3=>?_)
  cases f with
  | next =>
   obtain ⟨σ3,H3,I3,n3⟩:=q3
   obtain ⟨m',hm,w3⟩:=hN σ3 H3 n3
   exact ⟨m',hm,σ3,H3,I3,w3⟩
  | cont =>
   obtain ⟨σ3,H3,I3,n3⟩:=q3
   obtain ⟨m',hm,w3⟩:=hN σ3 H3 n3
   exact ⟨m',hm,σ3,H3,I3,w3⟩
  | brk=>exact q3
  | ret v=>exact q3
 | false =>
  rw [if_neg Bool.false_ne_true]
  exact wpAny_execs_nil ⟨σ1,H2,I2,q2⟩
end
structure It where
 go:Nat->Hp->Prop
 yld:Nat->Hp->V->Hp->Prop
 stop:Nat->Hp->Prop
noncomputable def yll (X:Cx) (pins:List (Addr×Obj)) (H:Hp) (b:Addr):Prop :=
 H b=none/\b≠X.env.locals/\b∉X.fs/\(b∈X.ex\/X.s₀.heap.objs.size<=b)/\(∀ x c,X.env.cells.lookup x=some c->c≠b)/\∀ p∈X.pn++pins,p.1≠b
theorem Inv.fpOk {X:Cx}{pins:List (Addr×Obj)}{σ:St}{H H':Hp}{s:Shared}{b:Addr}(I:Inv X pins σ H s) (hb:s.heap.objs.size<=b) (hn:H' b=none):yll X pins H' b:=by
 refine ⟨hn,Nat.ne_of_gt (lt_of_lt_of_le I.lt hb),I.nofs hb,.inr (Nat.le_trans I.sz hb),fun x c e z=>?_,fun p hp z=>?_⟩
 .obtain ⟨v,q⟩:=I.cell x c e
  exact absurd (lt_of_lt_of_le q.lt (by rw [z];exact hb)) (lt_irrefl _)
 .exact absurd (lt_of_lt_of_le (Heap.lt_size (I.pin p hp).1) (by rw [z];exact hb)) (lt_irrefl _)
structure Turn (P:Program) (w:World) (K:PySem.W.Frag) (tg:Expr) (J:It) (fp:List Addr) (it:Addr) (tn:Nat->Heap->Prop):Prop where
 mem:it∈fp
 obj:∀ i h,tn i h->∀ b∈fp,∃ o,h.get? b=some o/\∀ v,o.data≠.cell v
 keep:∀ i h h',tn i h->(∀ b∈fp,∀ o,h.get? b=some o->h'.get? b=some o)->tn i h'
 item:∀ (X:Cx),X.prog=P->X.w=w->X.K=K->X.calm=true->∀ (i:Nat) (pins:List (Addr×Obj)) (s:Shared) (σ:St) (H:Hp) (E:Value->Shared->Prop),Inv X pins σ H s->(∀ b∈fp,yll X pins H b)->tn i s.heap->J.go i H ->
  wpAny (model P w) X.A (pyNext (.ref it)) (fun r s1=>∃ u,r=some u /\
   wpAny (model P w) X.A (letOwnedTupleGo tg (.ref it) u) (fun _ s2=>∃ x H',Inv X pins σ H' s2/\RelV x u/\J.yld i H x H'/\tn (i+1) s2.heap/\∀ b∈fp,H' b=none) E s1) E s
 done:∀ (X:Cx),X.prog=P->X.w=w->X.K=K->X.calm=true->∀ (i:Nat) (pins:List (Addr×Obj)) (s:Shared) (σ:St) (H:Hp) (E:Value->Shared->Prop),Inv X pins σ H s->(∀ b∈fp,yll X pins H b)->tn i s.heap->J.stop i H ->
  wpAny (model P w) X.A (pyNext (.ref it)) (fun r s1=>r=none/\Inv X pins σ H s1) E s
 self:∀ (A:Around) (i:Nat) (s:Shared) (Q:Value->Shared->Prop) (E:Value->Shared->Prop),tn i s.heap->Q (.ref it) s->wpAny (model P w) A (pyIter (.ref it)) Q E s
abbrev TI:=St->Hp->(It->Hp->Prop)->Prop
def PIE (X:Cx) (pins:List (Addr×Obj)) (σ:St) (tg:Expr) (R:It->Hp->Prop) (itv:Value) (s2:Shared):Prop :=
 ∃ (it:Addr) (fp:List Addr) (tn:Nat->Heap->Prop) (J:It) (H':Hp),itv=.ref it/\Inv X pins σ H' s2/\Turn X.prog X.w X.K tg J fp it tn/\tn 0 s2.heap/\(∀ b∈fp,yll X pins H' b)/\R J H'
def PI (X:Cx) (tg iter:Expr) (wi:TI):Prop :=
 ∀ (pins:List (Addr×Obj)) (s:Shared) (σ:St) (H:Hp) (R:It->Hp->Prop),Inv X pins σ H s->wi σ H R ->
  wpAny (model X.prog X.w) X.A (eval iter X.env) (fun v s1=>wpAny (model X.prog X.w) X.A (pyIter v) (PIE X pins σ tg R) X.xe s1) X.xe s
theorem ytF {M:Model}{A:Around}{E:Value->Shared->Prop}{s:Shared}{tg:Expr}{it:Addr}{u:Value}{o:Obj}{n:String}{vs:Array Value}{Q:Unit->Shared->Prop}(ho:s.heap.get? it=some o) (hc:o.cls=.type n) (hd:o.data=.fields vs)
    (hn:["enumerate","zip","dict_itemiterator","dict_reverseitemiterator","odict_iterator","itertools.zip_longest","itertools.pairwise"].contains n=false) (hQ:Q () s):wpAny M A (letOwnedTupleGo tg (.ref it) u) Q E s:=by
  unfold letOwnedTupleGo
  cases tg<;>first
    | exact wpAny_pure hQ
    | (cases u<;>first
        | exact wpAny_pure hQ
        | (refine wpAny_bind (wpAny_load ho ?_)
           rw [hc,hd]
           show wpAny M A (if (["enumerate","zip","dict_itemiterator","dict_reverseitemiterator","odict_iterator","itertools.zip_longest","itertools.pairwise"].contains n && vs[0]? == some (rawInt _))=true then _ else _) Q E s
           rw [if_neg (by intro h;rw [hn,Bool.false_and] at h;cases h)]
           exact wpAny_pure hQ))
def Itl (K:PySem.W.Frag) (a:Addr):It :=
 ⟨fun i H=>∃ xs x,SqL K H a xs/\xs[i]?=some x,fun i H x H'=>H'=H/\∀ xs,SqL K H a xs->xs[i]?=some x,fun i H=>∃ xs,SqL K H a xs/\xs.length<=i⟩
def Itr (lo:Int) (n:Nat):It:=⟨fun i _=>i<n,fun i H x H'=>H'=H/\x=.int (lo+i),fun i _=>n<=i⟩
theorem yow {P:Program}{w:World}{K:PySem.W.Frag}{tg:Expr}(a it:Addr):Turn P w K tg (Itl K a) [it] it (fun i h=>h.IsListIter it a i) where
 mem:=by simp
 obj:=fun i h st b hb=>by
  have e:b=it:=by simpa using hb
  subst e
  obtain ⟨o,e,c,d⟩:=st
  exact ⟨o,e,fun v z=>by rw [d] at z;cases z⟩
 keep:=fun i h h' st k=>st.at fun o e=>k it (by simp) o e
 item:=by
  intro X hP hw hK hc i pins s σ H E I hf st hg
  subst hP hw hK
  obtain ⟨xs,x,hq,hx⟩:=hg
  obtain ⟨its,rv,p,hz⟩:=I.list hq
  obtain ⟨u,hu,ru⟩:=rv.get hx
  obtain ⟨f0,f1,f2,f3,f4,f5⟩:=hf it (by simp)
  refine wpAny_pyNext_list_item st p.isList (x:=u) (by simpa using hu) fun h' st' sb=>?_
  have I1:Inv X pins σ H { s with heap:=h' }:=I.turned (t':=s.toks) (fun b o hb e=>(sb.2 b hb).trans e) f0 f1 f3 f4 f5
  obtain ⟨o,e,c,d⟩:=id st'
  exact ⟨u,rfl,ytF (s:={ s with heap:=h' }) e c d (by decide) ⟨x,H,I1,ru,⟨rfl,fun ys hy=>by rw [I.list_inj hy hq];exact hx⟩,st',fun b hb=>(hf b hb).1⟩⟩
 done:=by
  intro X hP hw hK hc i pins s σ H E I hf st hg
  subst hP hw hK
  obtain ⟨xs,hq,hx⟩:=hg
  obtain ⟨its,rv,p,hz⟩:=I.list hq
  obtain ⟨f0,f1,f2,f3,f4,f5⟩:=hf it (by simp)
  have hl:=rv.length
  exact wpAny_pyNext_list_end (I.ok.hd hc) st p.isList (by simp;omega) fun h' eb=>⟨rfl,I.turned (t':=s.toks) (fun b o hb e=>eb b o hb e) f0 f1 f3 f4 f5⟩
 self:=fun _ _ _ _ _ st h=>wpAny_pyIter_listiter st h
theorem ynA {P:Program}{w:World}{K:PySem.W.Frag}{tg:Expr}(it:Addr) (lo:Int) (n:Nat):Turn P w K tg (Itr lo n) [it] it (fun i h=>IsRangeIter h it (lo+(i:Nat)*1) ((n:Int)-(i:Nat)) 1) where
 mem:=by simp
 obj:=fun i h st b hb=>by
  have e:b=it:=by simpa using hb
  subst e
  exact ⟨_,st,fun v z=>by
   have z':Data.fields _=Data.cell v:=z
   cases z'⟩
 keep:=fun i h h' st k=>k it (by simp) _ st
 item:=by
  intro X hP hw hK hc i pins s σ H E I hf st hg
  subst hP hw hK
  obtain ⟨f0,f1,f2,f3,f4,f5⟩:=hf it (by simp)
  have W:=Walks.range (prog:=X.prog) (w:=X.w) (I.ok.hd hc) it lo 1 n
  refine W.item i s _ _ hg st fun v h' tk hv st' kk=>?_
  obtain ⟨t,rfl⟩:=hv
  have I1:Inv X pins σ H { s with heap:=h',toks:=tk }:=I.turned (fun b o hb e=>kk b o (by simpa using hb) e) f0 f1 f3 f4 f5
  refine ⟨_,rfl,ytF (s:={ s with heap:=h',toks:=tk }) (n:="range_iterator") st' rfl rfl (by decide) ⟨.int (lo+i),H,I1,⟨t,?_⟩,⟨rfl,rfl⟩,st',fun b hb=>(hf b hb).1⟩⟩
  rw [Int.mul_one]
 done:=by
  intro X hP hw hK hc i pins s σ H E I hf st hg
  subst hP hw hK
  obtain ⟨f0,f1,f2,f3,f4,f5⟩:=hf it (by simp)
  exact wpAny_pyNext_range_end (I.ok.hd hc) st (by have:n<=i:=hg;omega) fun h' eb=>⟨rfl,I.turned (t':=s.toks) (fun b o hb e=>eb b o hb e) f0 f1 f3 f4 f5⟩
 self:=fun _ _ _ _ _ st h=>wpAny_pyIter_rangeiter st h
end L2
namespace L2
open PySem PySem.Spec PyProof.Rows
section
variable {X:Cx}{tg:Expr}
def yqL (K:PySem.W.Frag) (tl:TE):TI:=fun σ H R=>tl σ H fun x H1=>∃ a,x=.ref a/\(∃ xs,SqL K H1 a xs)/\R (Itl K a) H1
theorem yho {l:Expr}{tl:TE}(hl:PE X l tl):PI X tg l (yqL X.K tl):=by
 intro pins s σ H R I h
 refine thn (hl pins s σ H _ I h) fun v s1 ⟨x,H1,I1,r1,q1⟩=>?_
 obtain ⟨a,e,⟨xs,hq⟩,q⟩:=q1
 subst e
 cases r1
 obtain ⟨its,rv,p,hz⟩:=I1.list hq
 refine wpAny_pyIter_list p.isList ?_
 refine ⟨s1.heap.objs.size,[s1.heap.objs.size],_,_,H1,rfl,I1.kept (t':=s1.toks) fun b o e=>Heap.get?_push_of_some _ e,yow a _,⟨_,Heap.get?_push_size _ rfl,rfl,rfl⟩,fun b hb=>?_,q⟩
 have e:b=s1.heap.objs.size:=by simpa using hb
 subst e
 exact I1.fpOk (Nat.le_refl _) (I1.hok.fresh (Nat.le_refl _))
theorem yqM {pins:List (Addr×Obj)}{σ:St}{H:Hp}{s:Shared}{R:It->Hp->Prop}{E:Value->Shared->Prop}{lo hi:Int}{t u v:Tok}{tk:Nat}(I:Inv X pins σ H s) (h1:-(2 ^ 62)<=lo) (h2:lo<2 ^ 62) (h3:-(2 ^ 62)<=hi) (h4:hi<2 ^ 62)
  (q:R (Itr lo (hi-lo).toNat) H):wpAny (model X.prog X.w) X.A (pyIter (.ref s.heap.objs.size)) (PIE X pins σ tg R) E { s with heap:=s.heap.push { cls:=.type "range",data:=.fields #[.int lo t,.int hi u,.int 1 v] },toks:=tk }:=by
 refine wpAny_pyIter_range (IsRange.new ..) (small_one h1 h2 h3 h4) ?_
 have I1:Inv X pins σ H { s with heap:=s.heap.push { cls:=.type "range",data:=.fields #[.int lo t,.int hi u,.int 1 v] },toks:=tk }:=I.kept fun b o e=>Heap.get?_push_of_some _ e
 refine ⟨(s.heap.push { cls:=.type "range",data:=.fields #[.int lo t,.int hi u,.int 1 v] }).objs.size,[(s.heap.push { cls:=.type "range",data:=.fields #[.int lo t,.int hi u,.int 1 v] }).objs.size],_,_,H,rfl,
  I1.kept (t':=tk) fun b o e=>Heap.get?_push_of_some _ e,ynA _ lo (hi-lo).toNat,?_,fun b hb=>?_,q⟩
 .have e1:lo+((0:Nat):Int)*1=lo:=by simp
  have e2:(((hi-lo).toNat:Nat):Int)-((0:Nat):Int)=Builtin.Range.rangeSize lo hi 1:=by rw [rangeSize_one];split<;>omega
  show IsRangeIter _ _ (lo+((0:Nat):Int)*1) ((((hi-lo).toNat:Nat):Int)-((0:Nat):Int)) 1
  rw [e1,e2]
  exact Heap.get?_push_size _ rfl
 .have e:b=(s.heap.push { cls:=.type "range",data:=.fields #[.int lo t,.int hi u,.int 1 v] }).objs.size:=by simpa using hb
  subst e
  exact I1.fpOk (Nat.le_refl _) (I1.hok.fresh (Nat.le_refl _))
def yvZ (ta:TA):TI:=fun σ H R=>ta σ H fun vs H1=>∃ j:Int,vs=[.int j]/\-(2 ^ 62)<=j/\j<2 ^ 62/\R (Itr 0 j.toNat) H1
theorem yox {a:Expr}{ta:TA}{p pos:Pos}(hg:Gl X "range") (hm:X.mg "range" = none) (ha:PA X [a] ta) (hs:starEach [a] X.env=[(false,eval a X.env)]:=by rfl):PI X tg (.Call (.Name "range" p) [a] [] pos) (yvZ ta):=by
 intro pins s σ H R I h
 refine Call_ (ymD I hg hm boot_range (PyProof.Rows.callWith_type1 (thn (ha pos pins s σ H _ I h) fun us s1 ⟨vs,H1,I1,r1,q1⟩=>?_) hs rfl))
 obtain ⟨j,e,q1,q2,q⟩:=q1
 subst e
 cases r1 with
 | cons r rr =>
  cases rr
  obtain ⟨t,rfl⟩:=r
  exact call_range_1 (yqM I1 (by omega) (by omega) q1 q2 (by simpa using q))
noncomputable def yyy (wi:TI) (g:TG) (tb:TS):TS:=fun D σ H=>wi σ H fun J H1=>∃ W:Nat->Nat->St->Hp->Prop,(∃ m,W 0 m σ H1)/\∀ i m σ H,W i m σ H ->
 (J.stop i H/\D.nx σ H)\/(J.go i H/\∃ N:St->Hp->Prop,(∀ σ' H',N σ' H'->∃ m',m'<m/\W (i+1) m' σ' H')/\∀ x H',J.yld i H x H'->g x σ H' fun σ2 H2=>tb { D with nx:=N,ct:=N,bk:=D.nx } σ2 H2)
def yij (fp:List Addr) (h:Heap):List (Addr×Obj):=fp.filterMap fun b=>(h.get? b).map fun o=>(b,o)
theorem yba {fp:List Addr}{h:Heap}{b:Addr}{o:Obj}(hb:b∈fp) (e:h.get? b=some o):(b,o)∈yij fp h:=List.mem_filterMap.mpr ⟨b,hb,by rw [e];rfl⟩
theorem yoy {fp:List Addr}{h:Heap}{p:Addr×Obj}(hp:p∈yij fp h):p.1∈fp/\h.get? p.1=some p.2:=by
 obtain ⟨b,hb,e⟩:=List.mem_filterMap.mp hp
 cases q:h.get? b with
 | none=>rw [q] at e;cases e
 | some o =>
  rw [q] at e
  have e':(b,o)=p:=Option.some.inj e
  subst e'
  exact ⟨hb,q⟩
theorem Inv.pinned {pins:List (Addr×Obj)}{σ:St}{H:Hp}{s:Shared}{fp:List Addr}(I:Inv X pins σ H s) (hf:∀ b∈fp,yll X pins H b) (ho:∀ b∈fp,∃ o,s.heap.get? b=some o/\∀ v,o.data≠.cell v):Inv X (pins++yij fp s.heap) σ H s :=
 I.pins_of fun p hp=>(List.mem_append.mp hp).elim (fun z=>I.pin p (mem_append_right _ z)) fun z=>by
  obtain ⟨hb,e⟩:=yoy z
  obtain ⟨f0,f1,f2,_⟩:=hf p.1 hb
  obtain ⟨o,e',d⟩:=ho p.1 hb
  rw [e] at e';cases e'
  exact ⟨e,f0,f1,f2,d⟩
theorem Inv.unpinned {pins pl:List (Addr×Obj)}{σ:St}{H:Hp}{s:Shared}(I:Inv X (pins++pl) σ H s):Inv X pins σ H s:=I.pins_of fun p hp=>I.pin p (mem_append_right _ (mem_append_left _ hp))
theorem ysQ {iter:Expr}{body:List Stmt}{wi:TI}{g:TG}{tb:TS}{pos:Pos}(hp:PassesOwn (model X.prog X.w) X.A X.env X.xe) (hc:X.calm=true) (hi:PI X tg iter wi) (hg:PG X tg g) (hb:PSs X body tb)
  (hs:∀ x,foldedSetIterable iter X.env x=pure x:=by intro _;rfl):PS X (.For tg iter body [] pos) (yyy wi g tb):=by
 intro pins s σ H D I h
 refine wpAny_For (thn (hi pins s σ H _ I h) fun v s1 h1=>thn h1 fun itv s2 h2=>?_) hs
 obtain ⟨it,fp,tn,J,H2,e,I2,T,st2,f2,W,⟨m0,w0⟩,turn⟩:=h2
 subst e
 have stat:∀ {H':Hp},(∀ b∈fp,H' b=none)->∀ b∈fp,yll X pins H' b:=fun hn b hb=>⟨hn b hb,(f2 b hb).2⟩
 refine codeAny_forLoop_any (fun n s'=>∃ i σ' H',Inv X pins σ' H' s'/\tn i s'.heap/\(∀ b∈fp,H' b=none)/\W i n σ' H') ?_ m0 ⟨0,σ,H2,I2,st2,fun b hb=>(f2 b hb).1,w0⟩
 rintro n s3 ⟨i,σ3,H3,I3,st3,fr3,w3⟩
 rcases turn i n σ3 H3 w3 with ⟨stop,qn⟩|⟨go,N,hN,step⟩
 .refine wpAny_passesOwn hp (thn (T.done X rfl rfl rfl hc i pins s3 σ3 H3 X.xe I3 (stat fr3) st3 stop) fun r s4 ⟨hr,I4⟩=>?_)
  subst hr
  exact wpAny_execs_nil ⟨σ3,H3,I4,qn⟩
 .refine wpAny_passesOwn hp (thn (T.item X rfl rfl rfl hc i pins s3 σ3 H3 X.xe I3 (stat fr3) st3 go) fun r s4 ⟨u,hr,h4⟩=>?_)
  subst hr
  refine wpAny_passesOwn hp (thn h4 fun _ s5 ⟨x,H5,I5,r5,y5,st5,fr5⟩=>?_)
  have I5':=I5.pinned (stat fr5) (T.obj _ _ st5)
  refine wpAny_passesOwn hp (thn (hg _ s5 σ3 H5 x u _ I5' r5 (step x H5 y5)) fun _ s6 ⟨σ6,H6,I6,q6⟩=>?_)
  refine wpAny_passesOwn hp (thn (hb _ s6 σ6 H6 _ I6 q6) fun f s7 q7=>?_)
  have again:∀ {σ7:St}{H7:Hp},Inv X (pins++yij fp s5.heap) σ7 H7 s7->N σ7 H7->∃ m,m<n/\∃ i σ' H',Inv X pins σ' H' s7/\tn i s7.heap/\(∀ b∈fp,H' b=none)/\W i m σ' H':=fun {σ7 H7} I7 n7=>by
   obtain ⟨m',hm,w7⟩:=hN σ7 H7 n7
   refine ⟨m',hm,i+1,σ7,H7,I7.unpinned,T.keep _ _ _ st5 fun b hb o e=>(I7.pin (b,o) (mem_append_right _ (mem_append_right _ (yba hb e)))).1,fun b hb=>?_,w7⟩
   obtain ⟨o,e,d⟩:=T.obj _ _ st5 b hb
   exact (I7.pin (b,o) (mem_append_right _ (mem_append_right _ (yba hb e)))).2.1
  cases f with
  | next=>obtain ⟨σ7,H7,I7,n7⟩:=q7;exact again I7 n7
  | cont=>obtain ⟨σ7,H7,I7,n7⟩:=q7;exact again I7 n7
  | brk=>obtain ⟨σ7,H7,I7,q7⟩:=q7;exact ⟨σ7,H7,I7.unpinned,q7⟩
  | ret v=>obtain ⟨x7,σ7,H7,I7,r7,q7⟩:=q7;exact ⟨x7,σ7,H7,I7.unpinned,r7,q7⟩
end
end L2
namespace L2
open PySem PySem.Spec PyProof.Rows
abbrev R2:=V->V->Hp->VK->Prop
def OpR (X:Cx) (f:Value->Value->Sem Value) (r:R2):Prop :=
 ∀ (pins:List (Addr×Obj)) (s:Shared) (σ:St) (H:Hp) (x y:V) (v u:Value) (Q:VK),Inv X pins σ H s->RelV x v->RelV y u->r x y H Q ->
  wpAny (model X.prog X.w) X.A (f v u) (EP X pins σ Q) X.xe s
def UnR (X:Cx) (f:Value->Sem Value) (r:V->Hp->VK->Prop):Prop :=
 ∀ (pins:List (Addr×Obj)) (s:Shared) (σ:St) (H:Hp) (x:V) (v:Value) (Q:VK),Inv X pins σ H s->RelV x v->r x H Q ->
  wpAny (model X.prog X.w) X.A (f v) (EP X pins σ Q) X.xe s
def yfP (X:Cx) (f:Value) (r:List V->Hp->VK->Prop):Prop :=
 ∀ (pins:List (Addr×Obj)) (s:Shared) (σ:St) (H:Hp) (xs:List V) (us:List Value) (Q:VK),Inv X pins σ H s->Vals xs us->r xs H Q ->
  wpAny (model X.prog X.w) X.A (call f us) (EP X pins σ Q) X.xe s
def tOp (r:R2) (ta tb:TE):TE:=fun σ H Q=>ta σ H fun x H1=>tb σ H1 fun y H2=>r x y H2 Q
def tUn (r:V->Hp->VK->Prop) (ta:TE):TE:=fun σ H Q=>ta σ H fun x H1=>r x H1 Q
def rI (C:Int->Int->Prop) (g:Int->Int->V):R2:=fun x y H Q=>∃ i j,x=.int i/\y=.int j/\C i j/\Q (g i j) H
def rI0 (g:Int->Int->V):R2:=fun x y H Q=>∃ i j,x=.int i/\y=.int j/\Q (g i j) H
def rU (g:Int->V):V->Hp->VK->Prop:=fun x H Q=>∃ i,x=.int i/\Q (g i) H
section
variable {X:Cx}{a b c:Expr}{ta tb tc:TE}{pos:Pos}
theorem yyz (ha:PE X a ta) (hb:PE X b tb) {pins:List (Addr×Obj)}{s:Shared}{σ:St}{H:Hp}{R:V->V->Hp->Prop}(I:Inv X pins σ H s)
  (h:ta σ H fun x H1=>tb σ H1 fun y H2=>R x y H2) {Q:Value->Shared->Prop}{f:Value->Value->Sem Value}
  (hf:∀ v u s2 x y H2,Inv X pins σ H2 s2->RelV x v->RelV y u->R x y H2->wpAny (model X.prog X.w) X.A (f v u) Q X.xe s2) :
  wpAny (model X.prog X.w) X.A (eval a X.env) (fun v s₁=>wpAny (model X.prog X.w) X.A (eval b X.env) (fun u s₂=>wpAny (model X.prog X.w) X.A (f v u) Q X.xe s₂) X.xe s₁) X.xe s:=by
 refine thn (ha pins s σ H _ I h) fun v s1 ⟨x,H1,I1,r1,q1⟩=>?_
 refine thn (hb pins s1 σ H1 _ I1 q1) fun u s2 ⟨y,H2,I2,r2,q2⟩=>?_
 exact hf v u s2 x y H2 I2 r1 r2 q2
theorem ywa {op:Operator}{r:R2}(ho:OpR X (binaryOp op) r) (ha:PE X a ta) (hb:PE X b tb):PE X (.BinOp a op b pos) (tOp r ta tb):=by
 intro pins s σ H Q I h
 exact wpAny_BinOp (yyz ha hb I h fun v u s2 x y H2 I2 rx ry q=>ho pins s2 σ H2 x y v u Q I2 rx ry q)
theorem yyA {op:UnaryOp}{r:V->Hp->VK->Prop}(ho:UnR X (unaryOp op) r) (ha:PE X a ta):PE X (.UnaryOp op a pos) (tUn r ta):=by
 intro pins s σ H Q I h
 exact UnaryOp_ (thn (ha pins s σ H _ I h) fun v s1 ⟨x,H1,I1,r1,q1⟩=>ho pins s1 σ H1 x v Q I1 r1 q1)
theorem opI {f:Value->Value->Sem Value}{C:Int->Int->Prop}{g:Int->Int->Int}
  (rule:∀ (i j:Int) (t u:Tok) (s:Shared) (Q:Value->Shared->Prop) (E:Value->Shared->Prop),C i j->Q (.int (g i j) s.toks) { s with toks:=s.toks+1 }->wpAny (model X.prog X.w) X.A (f (.int i t) (.int j u)) Q E s) :
  OpR X f (rI C fun i j=>.int (g i j)):=by
 intro pins s σ H x y v u Q I rx ry h
 obtain ⟨i,j,rfl,rfl,hc,q⟩:=h
 obtain ⟨t,rfl⟩:=rx
 obtain ⟨t',rfl⟩:=ry
 exact rule i j t t' s _ _ hc ⟨.int (g i j),H,I.tok _,⟨_,rfl⟩,q⟩
theorem yAq {f:Value->Value->Sem Value}{g:Int->Int->Int}
  (rule:∀ (i j:Int) (t u:Tok) (s:Shared) (Q:Value->Shared->Prop) (E:Value->Shared->Prop),Q (.int (g i j) s.toks) { s with toks:=s.toks+1 }->wpAny (model X.prog X.w) X.A (f (.int i t) (.int j u)) Q E s) :
  OpR X f (rI0 fun i j=>.int (g i j)):=by
 intro pins s σ H x y v u Q I rx ry h
 obtain ⟨i,j,rfl,rfl,q⟩:=h
 obtain ⟨t,rfl⟩:=rx
 obtain ⟨t',rfl⟩:=ry
 exact rule i j t t' s _ _ ⟨.int (g i j),H,I.tok _,⟨_,rfl⟩,q⟩
theorem yyB {f:Value->Value->Sem Value}{g:Int->Int->Bool}
  (rule:∀ (i j:Int) (t u:Tok) (s:Shared) (Q:Value->Shared->Prop) (E:Value->Shared->Prop),Q (.bool (g i j)) s->wpAny (model X.prog X.w) X.A (f (.int i t) (.int j u)) Q E s) :
  OpR X f (rI0 fun i j=>.bl (g i j)):=by
 intro pins s σ H x y v u Q I rx ry h
 obtain ⟨i,j,rfl,rfl,q⟩:=h
 obtain ⟨t,rfl⟩:=rx
 obtain ⟨t',rfl⟩:=ry
 exact rule i j t t' s _ _ ⟨.bl (g i j),H,I,rfl,q⟩
def yAr (i j:Int):Prop:=0<j/\j<1073741824
def yyC (i j:Int):Prop:=0<=j/\j<=1000000/\i.natAbs<2 ^ 64
def CMul (i j:Int):Prop:=(-(2 ^ 64)<i/\i<2 ^ 64)\/(-(2 ^ 64)<j/\j<2 ^ 64)
theorem CMul.ok {i j:Int}(h:CMul i j):IntMulOk i j:=by
 rcases h with ⟨h1,h2⟩|⟨h1,h2⟩
 .exact .of_left (intBits_le_64 h1 h2)
 .exact .of_right (intBits_le_64 h1 h2)
theorem ycl:OpR X (binaryOp .Add) (rI0 fun i j=>.int (i+j)):=yAq fun _ _ _ _ _ _ _ q=>add_int q
theorem ymF:OpR X (binaryOp .Sub) (rI0 fun i j=>.int (i-j)):=yAq fun _ _ _ _ _ _ _ q=>sub_int q
theorem ygS:OpR X (binaryOp .Mult) (rI CMul fun i j=>.int (i*j)):=opI fun _ _ _ _ _ _ _ hc q=>mul_int q hc.ok
theorem ycK:OpR X (binaryOp .FloorDiv) (rI yAr fun i j=>.int (i/j)):=opI fun i j _ _ _ _ _ hc q=>by
 have h1:(0:Int)<j:=hc.1
 have h2:j<1073741824:=hc.2
 exact floordiv_int (by omega) (by rw [Int.fdiv_eq_ediv_of_nonneg i (by omega)];exact q) (.inl (PyProof.noPylong_small (by omega)))
theorem ycg:OpR X (binaryOp .Mod) (rI (fun _ j=>0<j) fun i j=>.int (i%j)):=opI fun i j _ _ _ _ _ hc q=>by
 have h1:(0:Int)<j:=hc
 exact mod_int' (by omega) (by rw [Int.fmod_eq_emod_of_nonneg i (by omega)];exact q)
theorem yjO:OpR X (binaryOp .Pow) (rI yyC fun i j=>.int (i ^ j.toNat)):=opI fun _ _ _ _ _ _ _ hc q=>pow_int_small hc.1 hc.2.1 hc.2.2 q
theorem unI {f:Value->Sem Value}{g:Int->Int}
  (rule:∀ (i:Int) (t:Tok) (s:Shared) (Q:Value->Shared->Prop) (E:Value->Shared->Prop),Q (.int (g i) s.toks) { s with toks:=s.toks+1 }->wpAny (model X.prog X.w) X.A (f (.int i t)) Q E s) :
  UnR X f (rU fun i=>.int (g i)):=by
 intro pins s σ H x v Q I rx h
 obtain ⟨i,rfl,q⟩:=h
 obtain ⟨t,rfl⟩:=rx
 exact rule i t s _ _ ⟨.int (g i),H,I.tok _,⟨_,rfl⟩,q⟩
theorem ysR:UnR X (unaryOp .USub) (rU fun i=>.int (-i)):=unI fun _ _ _ _ _ q=>neg_int q
end
noncomputable def ysS:V->V->Bool
 | .non,.non=>true|.non,.int _=>true|.int _,.non=>true|.non,.bl _=>true|.bl _,.non=>true|.non,.str _=>true|.str _,.non=>true
 | .int _,.int _=>true|.bl _,.bl _=>true|.str _,.str _=>true|.byt _,.byt _=>true
 | .int _,.str _=>true|.str _,.int _=>true|.bl _,.str _=>true|.str _,.bl _=>true
 | _,_=>false
def rEq:R2:=fun x y H Q=>ysS x y=true/\Q (.bl (decide (x=y))) H
def rNe:R2:=fun x y H Q=>ysS x y=true/\Q (.bl (!decide (x=y))) H
theorem yoz {i j:Int}:decide (V.int i=V.int j)=(i == j):=by
 rw [Bool.eq_iff_iff]
 simp
theorem ysT {i j:Bool}:decide (V.bl i=V.bl j)=(i == j):=by
 rw [Bool.eq_iff_iff]
 simp
theorem yoA {i j:Str}:decide (V.str i=V.str j)=(i == j):=by
 rw [Bool.eq_iff_iff]
 simp
theorem yoB {i j:Array UInt8}:decide (V.byt i=V.byt j)=(i.toList == j.toList):=by
 rw [Bool.eq_iff_iff]
 cases i
 cases j
 simp
section
variable {X:Cx}{a b c:Expr}{ta tb tc:TE}{pos:Pos}
theorem ybB {pins:List (Addr×Obj)}{σ:St}{H:Hp}{s:Shared}{Q:VK}{k k':Bool}(I:Inv X pins σ H s) (q:Q (.bl k) H) (e:k=k'):EP X pins σ Q (.bool k') s:=by
 subst e
 exact ⟨.bl k,H,I,rfl,q⟩
theorem ycV:OpR X (compareOp .Eq) rEq:=by
 intro pins s σ H x y v u Q I rx ry h
 obtain ⟨hs,q⟩:=h
 cases x with
 | non =>
  cases rx
  cases y with
  | non=>cases ry;exact PySem.EqNone.eq_none_none (ybB I q (by simp))
  | bl j=>cases ry;exact PySem.EqNone.eq_none_bool (ybB I q (by simp))
  | int j=>obtain ⟨t',rfl⟩:=ry;exact PySem.EqNone.eq_none_int (ybB I q (by simp))
  | str j=>obtain ⟨t',rfl⟩:=ry;exact PySem.EqNone.eq_none_str (ybB I q (by simp))
  | _=>exact absurd (show false=true from hs) Bool.false_ne_true
 | bl i =>
  cases rx
  cases y with
  | non=>cases ry;exact PySem.EqNone.eq_bool_none (ybB I q (by simp))
  | bl j=>cases ry;exact eq_bool (ybB I q ysT)
  | str j=>obtain ⟨t',rfl⟩:=ry;exact PySem.EqMixed.eq_bool_str (ybB I q (by simp))
  | _=>exact absurd (show false=true from hs) Bool.false_ne_true
 | int i =>
  obtain ⟨t,rfl⟩:=rx
  cases y with
  | non=>cases ry;exact PySem.EqNone.eq_int_none (ybB I q (by simp))
  | int j=>obtain ⟨t',rfl⟩:=ry;exact eq_int (ybB I q yoz)
  | str j=>obtain ⟨t',rfl⟩:=ry;exact PySem.EqMixed.eq_int_str (ybB I q (by simp))
  | _=>exact absurd (show false=true from hs) Bool.false_ne_true
 | str i =>
  obtain ⟨t,rfl⟩:=rx
  cases y with
  | non=>cases ry;exact PySem.EqNone.eq_str_none (ybB I q (by simp))
  | bl j=>cases ry;exact PySem.EqMixed.eq_str_bool (ybB I q (by simp))
  | int j=>obtain ⟨t',rfl⟩:=ry;exact PySem.EqMixed.eq_str_int (ybB I q (by simp))
  | str j=>obtain ⟨t',rfl⟩:=ry;exact eq_str (ybB I q yoA)
  | _=>exact absurd (show false=true from hs) Bool.false_ne_true
 | byt i =>
  obtain ⟨t,rfl⟩:=rx
  cases y with
  | byt j=>obtain ⟨t',rfl⟩:=ry;exact PySem.W.eq_bytes (ybB I q yoB)
  | _=>exact absurd (show false=true from hs) Bool.false_ne_true
 | _=>cases y<;>exact absurd (show false=true from hs) Bool.false_ne_true
theorem ylq:OpR X (compareOp .NotEq) rNe:=by
 intro pins s σ H x y v u Q I rx ry h
 obtain ⟨hs,q⟩:=h
 cases x with
 | non =>
  cases rx
  cases y with
  | non=>cases ry;exact PySem.EqNone.ne_none_none (ybB I q (by simp))
  | bl j=>cases ry;exact PySem.EqNone.ne_none_bool (ybB I q (by simp))
  | int j=>obtain ⟨t',rfl⟩:=ry;exact PySem.EqNone.ne_none_int (ybB I q (by simp))
  | str j=>obtain ⟨t',rfl⟩:=ry;exact PySem.EqNone.ne_none_str (ybB I q (by simp))
  | _=>exact absurd (show false=true from hs) Bool.false_ne_true
 | bl i =>
  cases rx
  cases y with
  | non=>cases ry;exact PySem.EqNone.ne_bool_none (ybB I q (by simp))
  | bl j=>cases ry;exact ne_bool (ybB I q (congrArg not ysT))
  | str j=>obtain ⟨t',rfl⟩:=ry;exact PySem.EqMixed.ne_bool_str (ybB I q (by simp))
  | _=>exact absurd (show false=true from hs) Bool.false_ne_true
 | int i =>
  obtain ⟨t,rfl⟩:=rx
  cases y with
  | non=>cases ry;exact PySem.EqNone.ne_int_none (ybB I q (by simp))
  | int j=>obtain ⟨t',rfl⟩:=ry;exact ne_int (ybB I q (congrArg not yoz))
  | str j=>obtain ⟨t',rfl⟩:=ry;exact PySem.EqMixed.ne_int_str (ybB I q (by simp))
  | _=>exact absurd (show false=true from hs) Bool.false_ne_true
 | str i =>
  obtain ⟨t,rfl⟩:=rx
  cases y with
  | non=>cases ry;exact PySem.EqNone.ne_str_none (ybB I q (by simp))
  | bl j=>cases ry;exact PySem.EqMixed.ne_str_bool (ybB I q (by simp))
  | int j=>obtain ⟨t',rfl⟩:=ry;exact PySem.EqMixed.ne_str_int (ybB I q (by simp))
  | str j=>obtain ⟨t',rfl⟩:=ry;exact ne_str (ybB I q (congrArg not yoA))
  | _=>exact absurd (show false=true from hs) Bool.false_ne_true
 | byt i =>
  obtain ⟨t,rfl⟩:=rx
  cases y with
  | byt j=>obtain ⟨t',rfl⟩:=ry;exact PySem.W.ne_bytes (ybB I q (congrArg not yoB))
  | _=>exact absurd (show false=true from hs) Bool.false_ne_true
 | _=>cases y<;>exact absurd (show false=true from hs) Bool.false_ne_true
theorem ylr:OpR X (compareOp .Lt) (rI0 fun i j=>.bl (decide (i<j))):=yyB fun _ _ _ _ _ _ _ q=>lt_int q
theorem yew:OpR X (compareOp .LtE) (rI0 fun i j=>.bl (decide (i<=j))):=yyB fun _ _ _ _ _ _ _ q=>le_int q
theorem yhp:OpR X (compareOp .Gt) (rI0 fun i j=>.bl (decide (j<i))):=yyB fun _ _ _ _ _ _ _ q=>gt_int q
theorem yoC:OpR X (compareOp .In) (fun x y H Q=>∃ i j,x=.str i/\y=.str j/\Q (.bl (!(Builtin.Str.occurrences j i 0 j.length 1).isEmpty)) H):=by
 intro pins s σ H x y v u Q I rx ry h
 obtain ⟨i,j,rfl,rfl,q⟩:=h
 obtain ⟨t,rfl⟩:=rx
 obtain ⟨t',rfl⟩:=ry
 exact in_str (ybB I q rfl)
theorem yhq:OpR X (compareOp .Is) (fun x y H Q=>y=.non/\Q (.bl (decide (x=.non))) H):=by
 intro pins s σ H x y v u Q I rx ry h
 obtain ⟨rfl,q⟩:=h
 cases ry
 refine is_none_gen (ybB I q ?_)
 cases x<;>first
  | (cases rx;rfl)
  | (obtain ⟨t,rfl⟩:=rx;rfl)
theorem yoD:OpR X (compareOp .IsNot) (fun x y H Q=>y=.non/\Q (.bl (!decide (x=.non))) H):=by
 intro pins s σ H x y v u Q I rx ry h
 obtain ⟨rfl,q⟩:=h
 cases ry
 refine isnot_none_gen (ybB I q ?_)
 cases x<;>first
  | (cases rx;rfl)
  | (obtain ⟨t,rfl⟩:=rx;rfl)
theorem ymG (b:Expr) {op:CmpOp}(h:op≠.In:=by decide) (h2:op≠.NotIn:=by decide):behindInMarks op b=false:=by
 have e1:(op == CmpOp.In)=false:=by cases op<;>first|rfl|exact absurd rfl h
 have e2:(op == CmpOp.NotIn)=false:=by cases op<;>first|rfl|exact absurd rfl h2
 cases b<;>simp [behindInMarks,e1,e2]
theorem ytG {op:CmpOp}{r:R2}(ho:OpR X (compareOp op) r) (ha:PE X a ta) (hb:PE X b tb) (hm:behindInMarks op b=false):PE X (.Compare a [op] [b] pos) (tOp r ta tb):=by
 intro pins s σ H Q I h
 exact wpAny_Compare1 (yyz ha hb I h fun v u s2 x y H2 I2 rx ry q=>ho pins s2 σ H2 x y v u Q I2 rx ry q) hm
def ytH (t:TE):TT:=fun σ H Q=>t σ H fun x H'=>∃ k,x=.bl k/\Q k H'
theorem ytI {op:CmpOp}{r:R2}(ho:OpR X (compareOp op) r) (ha:PE X a ta) (hb:PE X b tb) (hm:behindInMarks op b=false):PT X (.Compare a [op] [b] pos) (ytH (tOp r ta tb)):=by
 intro pins s σ H Q I h
 refine wpAny_isTrue_Compare1 (thn (ha pins s σ H _ I h) fun v s1 ⟨x,H1,I1,r1,q1⟩=>thn (hb pins s1 σ H1 _ I1 q1) fun u s2 ⟨y,H2,I2,r2,q2⟩ =>
  thn (ho pins s2 σ H2 x y v u _ I2 r1 r2 q2) fun c s3 ⟨z,H3,I3,r3,k,e,q3⟩=>?_) hm
 subst e
 cases r3
 exact wpAny_truthy_bool ⟨H3,I3,q3⟩
noncomputable def yoE (r r':R2) (ta tb tc:TE):TE:=fun σ H Q=>ta σ H fun x H1=>tb σ H1 fun y H2=>r x y H2 fun z H3=>∃ k,z=.bl k /\
 (if k=true then tc σ H3 fun w' H4=>r' y w' H4 Q else Q (.bl false) H3)
theorem yqN {op op':CmpOp}{r r':R2}(ho:OpR X (compareOp op) r) (ho':OpR X (compareOp op') r') (ha:PE X a ta) (hb:PE X b tb) (hc:PE X c tc)
  (hm:lastMarks [op,op'] [b,c]=false:=by with_unfolding_all rfl):PE X (.Compare a [op,op'] [b,c] pos) (yoE r r' ta tb tc):=by
 intro pins s σ H Q I h
 refine Compare_chain (thn (ha pins s σ H _ I h) fun v s1 ⟨x,H1,I1,r1,q1⟩=>chain_link (thn (hb pins s1 σ H1 _ I1 q1) fun u s2 ⟨y,H2,I2,r2,q2⟩ =>
  thn (ho pins s2 σ H2 x y v u _ I2 r1 r2 q2) fun d s3 ⟨z,H3,I3,r3,k,e,q3⟩=>?_)) hm
 subst e
 cases r3
 refine wpAny_truthy_bool ?_
 cases k with
 | false=>exact ite_ff ⟨.bl false,H3,I3,rfl,q3⟩
 | true=>exact ite_tt (chain_last (thn (hc pins s3 σ H3 _ I3 q3) fun w' s4 ⟨z',H4,I4,r4,q4⟩=>ho' pins s4 σ H4 y z' u w' Q I4 r2 r4 q4))
theorem yqO {op op':CmpOp}{r r':R2}(ho:OpR X (compareOp op) r) (ho':OpR X (compareOp op') r') (ha:PE X a ta) (hb:PE X b tb) (hc:PE X c tc)
  (hm:lastMarks [op,op'] [b,c]=false:=by with_unfolding_all rfl):PT X (.Compare a [op,op'] [b,c] pos) (ytH (yoE r r' ta tb tc)):=by
 intro pins s σ H Q I h
 refine isTrue_chain (thn (ha pins s σ H _ I h) fun v s1 ⟨x,H1,I1,r1,q1⟩=>test_link (thn (hb pins s1 σ H1 _ I1 q1) fun u s2 ⟨y,H2,I2,r2,q2⟩ =>
  thn (ho pins s2 σ H2 x y v u _ I2 r1 r2 q2) fun d s3 ⟨z,H3,I3,r3,k,e,q3⟩=>?_)) hm
 subst e
 cases r3
 refine wpAny_truthy_bool ?_
 cases k with
 | false =>
  obtain ⟨k',e',q'⟩:=q3
  cases e'
  exact ite_ff ⟨H3,I3,q'⟩
 | true =>
  refine ite_tt (test_last (thn (hc pins s3 σ H3 _ I3 q3) fun w' s4 ⟨z',H4,I4,r4,q4⟩=>thn (ho' pins s4 σ H4 y z' u w' _ I4 r2 r4 q4) fun d' s5 ⟨z2,H5,I5,r5,k2,e2,q5⟩=>?_))
  subst e2
  cases r5
  exact wpAny_truthy_bool ⟨H5,I5,q5⟩
theorem yik:(sizeLine:Nat)<2 ^ 63:=by rw [sizeLine_eq];decide
theorem ydc:OpR X (binaryOp .Add) (fun x y H Q=>∃ i j,x=.str i/\y=.str j/\i.length+j.length<=sizeLine/\Q (.str (i++j)) H):=by
 intro pins s σ H x y v u Q I rx ry h
 obtain ⟨i,j,rfl,rfl,hz,q⟩:=h
 obtain ⟨t,rfl⟩:=rx
 obtain ⟨t',rfl⟩:=ry
 exact add_str (fun t' tk=>⟨.str (i++j),H,I.tok _,⟨_,rfl⟩,q⟩) hz
theorem vals1 {x:V}{us:List Value}(r:Vals [x] us):∃ u,us=[u]/\RelV x u:=by
 cases r with
 | cons r1 r2=>cases r2;exact ⟨_,rfl,r1⟩
theorem vals2 {x y:V}{us:List Value}(r:Vals [x,y] us):∃ u w',us=[u,w']/\RelV x u/\RelV y w':=by
 cases r with
 | cons r1 r2 =>
  cases r2 with
  | cons r3 r4=>cases r4;exact ⟨_,_,rfl,r1,r3⟩
end
end L2
namespace L2
open PySem PySem.Spec PyProof.Rows
structure ObjM (h:Heap) (x dx C:Addr) (mA:Str->Option Value):Prop where
 obj:h.get? x=some (instObj C dx)
 ns:h.Ns1 dx mA
 ne:dx≠x
theorem yoF {h:Heap}{dx:Addr}{mA:Str->Option Value}(n:h.Ns1 dx mA):∃ od,h.get? dx=some od/\∀ name,PySem.W.lookIn name od=some (mA name):=by
 obtain ⟨o,es,ep,ho,hd,hk,_,hm⟩:=n
 refine ⟨o,ho,fun name=>?_⟩
 have e:=hm name
 unfold nsFind findBy at e
 rw [<- Array.find?_toList] at e
 unfold PySem.W.lookIn
 rw [hd]
 dsimp only
 split
 .rename_i y q
  rw [q] at e
  exact congrArg some e
 .rename_i q
  rw [q] at e
  have a:es.toList.any (·.refKey)=false:=by
   rw [List.any_eq_false]
   intro y hy
   obtain ⟨z,t,hkey⟩:=hk y (Array.mem_toList_iff.mp hy)
   simp [DictEntry.refKey,hkey]
  have a':¬ es.toList.any (·.refKey)=true:=by rw [a];exact Bool.false_ne_true
  rw [if_neg a']
  exact congrArg some e
theorem ObjM.look {h:Heap}{x dx C:Addr}{mA:Str->Option Value}(I:ObjM h x dx C mA):∃ od,PySem.W.InstAt h x (instObj C dx) C (some od)/\∀ name,PySem.W.lookIn name od=some (mA name) :=
 let ⟨od,ho,hl⟩:=yoF I.ns
 ⟨od,⟨I.obj,rfl,rfl,ho⟩,hl⟩
section
variable {prog:Program}{w:World}{A:Around}{E:Value->Shared->Prop}{s:Shared}{K:PySem.W.Frag}{x dx C f:Addr}{mA:Str->Option Value}{name:Str}{v:Value}
theorem ytJ {expr:Bool}{Q:Value->Shared->Prop}(X:K.In s.heap) (I:ObjM s.heap x dx C mA) (hg:plainGet K C name=true) (hh:hasDictIn K C=true)
  (ha:findIn K (.ref C) name=some none) (hv:mA name=some v) (hv':PySem.W.handedIn v=true) (h:Q v { s with toks:=s.toks+1 }) :
  wpAny (model prog w) A (getAttr (.ref x) name expr) Q E s:=by
 obtain ⟨od,J,hl⟩:=I.look
 exact PySem.W.get_value X J (PySem.W.plainGet_of hg).1 (PySem.W.findObj_own hh ha rfl (by rw [hl,hv])) hv' h
theorem yqP {pl:Sem Bool}{Q:Value×List Value->Shared->Prop}(X:K.In s.heap) (I:ObjM s.heap x dx C mA) (hg:plainGet K C name=true)
  (hf:findIn K (.ref C) name=some (some (.ref f))) (ht:isFn K (.ref f)=true) (hv:mA name=none) (h:Q (.ref f,[.ref x]) s) :
  wpAny (model prog w) A (getMethod (.ref x) name pl) Q E s:=by
 obtain ⟨od,J,hl⟩:=I.look
 exact PySem.W.method_fn X J (PySem.W.plainGet_of hg).1 (PySem.W.plainGet_of hg).2 hf (beq_iff_eq.mp ht) (by show (PySem.W.lookIn name od).map (·.isSome)=some false;rw [hl,hv];rfl) h
theorem ytK {ns:List Str}{Q:Unit->Shared->Prop}(X:K.In s.heap) (I:ObjM s.heap x dx C mA)
  (hs:findIn K (.ref C) "__setattr__" = some (some (.builtin "object.__setattr__"))) (hp:PySem.W.plainOver K C=true) (ht:PySem.W.takerIn K C name=some none) (hh:hasDictIn K C=true)
  (hw:PySem.Within mA ns) (hsz:ns.length<=sizeLine)
  (h:∀ h',ObjM h' x dx C (fun y=>if y=name then some v else mA y)->Heap.SameBut dx s.heap h'->Q () { s with heap:=h',toks:=s.toks+2 }) :
  wpAny (model prog w) A (setAttr (.ref x) name v) Q E s:=by
 obtain ⟨od,J,hl⟩:=I.look
 refine PySem.W.set_plain X J hs (PySem.W.osa_open (s:={ s with toks:=s.toks+1 }) (r:=none) X J hp ht fun b=>?_)
 obtain ⟨cd,hc,hd'⟩:=PySem.W.any_some hh
 have hx:s.heap.get? x=some ⟨.ref C,some dx,.plain,#[]⟩:=I.obj
 refine wpAny_bind (wpAny_pure (wpAny_bind (wpAny_bind (wpAny_loadPart hx (wpAny_bind (PySem.W.Looks.here (s:={ s with toks:=s.toks+1 }) (PySem.W.looks_clsIn X hc) ?_))))))
 rw [hd']
 refine wpAny_pure (a:=some dx) (wpAny_bind (wpAny_pure (wpAny_bind ?_)))
 refine wpAny_nsSet1 (s:={ s with toks:=s.toks+1 }) I.ns fun h' hn2 hs2=>?_
 obtain ⟨oD,esD,epD,hoD,hdD,hcD⟩:=hn2.count (PySem.Within.cons name v hw)
 refine wpAny_bind (wpAny_lookBehind hoD (by rw [hdD];exact pastItsLine_dict (Nat.le_trans hcD (by rw [length_cons];omega))) ?_)
 exact wpAny_pure (h _ ⟨(hs2.2 _ (Ne.symm I.ne)).trans I.obj,hn2,I.ne⟩ hs2)
theorem ymH {R:Result->Shared->Prop}{vs:List Value}{kw:List (Str×Value)}(X:K.In s.heap) (hm:makesIn K C=true)
  (hi:findIn K (.ref C) "__init__" = some (some (.ref f))) (hf:typeIn K (.ref f)=some (.type "function"))
  (h:codeAny (model prog w) (A.under (.builtin "type.__call__" ⟨.ref C::vs,kw⟩)) (.call (.ref f) ⟨.ref (s.heap.objs.size+1)::vs,kw⟩) (PySem.W.InitBack (s.heap.objs.size+1) R)
   { s with heap:=(s.heap.push emptyDict).push (instObj C s.heap.objs.size) }) :
  codeAny (model prog w) A (.call (.ref C) ⟨vs,kw⟩) R s:=by
 obtain ⟨hh,g,d,t,os⟩:=s
 exact PySem.W.make_core (PySem.W.makes_of X hm) (PySem.W.looks_findIn X hi) (fun self=>PySem.W.bind_fn X self hf) (.inl rfl) h
end
def yil (f:Str) (v:V):List (Str×V)->List (Str×V)
 | []=>[(f,v)]
 | (g,x)::r=>if g=f then (g,v)::r else (g,x)::yil f v r
theorem yhr (f g:Str) (v:V):∀ fs:List (Str×V),(yil f v fs).lookup g=if g=f then some v else fs.lookup g
 | []=>by
  show List.lookup g [(f,v)]=_
  by_cases h:g=f
  .have hb:(g == f)=true:=beq_iff_eq.mpr h
   simp only [List.lookup,hb,if_pos h]
  .have hb:(g == f)=false:=beq_eq_false_iff_ne.mpr h
   simp only [List.lookup,hb,if_neg h]
 | (k,x)::r=>by
  have ih:=yhr f g v r
  rw [show yil f v ((k,x)::r)=(if k=f then (k,v)::r else (k,x)::yil f v r) from rfl]
  by_cases hk:k=f
  .rw [if_pos hk]
   by_cases h:g=k
   .have hb:(g == k)=true:=beq_iff_eq.mpr h
    simp only [List.lookup,hb,if_pos (h.trans hk)]
   .have hb:(g == k)=false:=beq_eq_false_iff_ne.mpr h
    simp only [List.lookup,hb,if_neg (fun e:g=f=>h (e.trans hk.symm))]
  .rw [if_neg hk]
   by_cases h:g=k
   .have hb:(g == k)=true:=beq_iff_eq.mpr h
    simp only [List.lookup,hb,if_neg (fun e:g=f=>hk (h.symm.trans e))]
   .have hb:(g == k)=false:=beq_eq_false_iff_ne.mpr h
    simp only [List.lookup,hb]
    exact ih
theorem yhs (f:Str) (v:V):∀ fs:List (Str×V),f∈(yil f v fs).map (·.1)/\∀ g,g∈fs.map (·.1)->g∈(yil f v fs).map (·.1)
 | []=>⟨by simp [yil],fun g h=>by simp at h⟩
 | (k,x)::r=>by
  obtain ⟨i1,i2⟩:=yhs f v r
  rw [show yil f v ((k,x)::r)=(if k=f then (k,v)::r else (k,x)::yil f v r) from rfl]
  by_cases hk:k=f
  .rw [if_pos hk]
   subst hk
   exact ⟨by simp,fun g h=>by simpa using h⟩
  .rw [if_neg hk]
   refine ⟨?_,fun g h=>?_⟩
   .rw [map_cons]
    exact mem_cons_of_mem _ i1
   .rw [map_cons] at h ⊢
    rcases mem_cons.mp h with e|e
    .exact mem_cons.mpr (.inl e)
    .exact mem_cons_of_mem _ (i2 g e)
theorem yht (f:Str) (v:V):∀ fs:List (Str×V),(yil f v fs).length<=fs.length+1
 | []=>by simp [yil]
 | (k,x)::r=>by
  have ih:=yht f v r
  rw [show yil f v ((k,x)::r)=(if k=f then (k,v)::r else (k,x)::yil f v r) from rfl]
  by_cases hk:k=f
  .rw [if_pos hk,length_cons,length_cons];omega
  .rw [if_neg hk,length_cons,length_cons];omega
theorem RelO.some_of {v:V}{o:Option Value}(r:RelO (some v) o):∃ u,o=some u/\RelV v u:=by
 cases o with
 | none=>exact (show False from r).elim
 | some u=>exact ⟨u,rfl,r⟩
theorem RelO.none_of {o:Option Value}(r:RelO none o):o=none:=by
 cases o with
 | none=>rfl
 | some u=>exact (show False from r).elim
theorem yoG {v:V}{u:Value}(r:RelV v u):PySem.W.handedIn u=true:=by
 cases v with
 | non=>cases (show u=Value.none from r);rfl
 | bl b=>cases (show u=Value.bool b from r);rfl
 | int i=>obtain ⟨t,e⟩:=(show ∃ t,u=Value.int i t from r);cases e;rfl
 | str x=>obtain ⟨t,e⟩:=(show ∃ t,u=Value.str x t from r);cases e;rfl
 | byt b=>obtain ⟨t,e⟩:=(show ∃ t,u=Value.bytes b t from r);cases e;rfl
 | flt b=>obtain ⟨t,e⟩:=(show ∃ t,u=Value.float b t from r);cases e;rfl
 | ref a=>cases (show u=Value.ref a from r);rfl
 | ty n=>cases (show u=Value.type n from r);rfl
section
variable {P:Program}{w:World}{H H':Hp}{h h':Heap}{a C dx:Addr}{fs fs':List (Str×V)}
theorem yiN (hok:HOk P w H h) (e:H a=some (.ins C dx fs)):∃ mA,ObjM h a dx C mA/\(∀ f,RelO (fs.lookup f) (mA f))/\PySem.Within mA (fs.map (·.1))/\fs.length<=1000/\H dx=some (.own a):=by
 obtain ⟨d,z,ne,ob,mA,n,r,q⟩:=(show ObjOk P w H h a (.ins C dx fs) from hok a _ e)
 exact ⟨mA,⟨ob,n,ne⟩,r,q,z,d⟩
end
structure Cls (K:PySem.W.Frag) (C:Addr):Prop where
 pg:plainGet K C Str.empty=true
 hd:hasDictIn K C=true
 po:PySem.W.plainOver K C=true
 sa:findIn K (.ref C) "__setattr__" = some (some (.builtin "object.__setattr__"))
theorem Cls.get {K:PySem.W.Frag}{C:Addr}(c:Cls K C) (f:Str):plainGet K C f=true:=c.pg
def NoAttr (K:PySem.W.Frag) (C:Addr) (f:Str):Prop:=findIn K (.ref C) f=some none
theorem NoAttr.taker {K:PySem.W.Frag}{C:Addr}{f:Str}(n:NoAttr K C f):PySem.W.takerIn K C f=some none:=by
 unfold PySem.W.takerIn
 rw [show findIn K (.ref C) f=some none from n]
 rfl
structure Meth (K:PySem.W.Frag) (C:Addr) (m:Str) (f:Addr):Prop where
 at_:findIn K (.ref C) m=some (some (.ref f))
 fn:isFn K (.ref f)=true
 kp:keepIn K (.ref f)=true
section
variable {X:Cx}{pins:List (Addr×Obj)}{σ:St}{H:Hp}{s:Shared}{a C dx:Addr}{fs:List (Str×V)}{f:Str}{v:V}{A:Around}{E:Value->Shared->Prop}
theorem ynB {b:Bool}{Q:Value->Shared->Prop}(I:Inv X pins σ H s) (e:H a=some (.ins C dx fs)) (c:Cls X.K C) (n:NoAttr X.K C f) (l:fs.lookup f=some v)
  (h:∀ u s',Inv X pins σ H s'->RelV v u->Q u s'):wpAny (model X.prog X.w) A (getAttr (.ref a) f b) Q E s:=by
 obtain ⟨mA,O,r,_,_,_⟩:=yiN I.hok e
 obtain ⟨u,hu,ru⟩:=RelO.some_of (v:=v) (o:=mA f) (by rw [<- l];exact r f)
 exact ytJ I.kIn O (c.get f) c.hd n hu (yoG ru) (h u _ (I.tok _) ru)
theorem ygB {m:Str}{g:Addr}{pl:Sem Bool}{Q:Value×List Value->Shared->Prop}(I:Inv X pins σ H s) (e:H a=some (.ins C dx fs)) (c:Cls X.K C) (k:Meth X.K C m g) (l:fs.lookup m=none)
  (h:Q (.ref g,[.ref a]) s):wpAny (model X.prog X.w) A (getMethod (.ref a) m pl) Q E s:=by
 obtain ⟨mA,O,r,_,_,_⟩:=yiN I.hok e
 have hn:mA m=none:=RelO.none_of (by rw [<- l];exact r m)
 exact yqP I.kIn O (c.get m) k.at_ k.fn hn h
theorem ynC {y:V}{u:Value}{Q:Unit->Shared->Prop}(I:Inv X pins σ H s) (e:H a=some (.ins C dx fs)) (c:Cls X.K C) (n:NoAttr X.K C f) (hl:fs.length<1000) (ry:RelV y u)
  (h:∀ s',Inv X pins σ (upd H a (.ins C dx (yil f y fs))) s'->Q () s'):wpAny (model X.prog X.w) A (setAttr (.ref a) f u) Q E s:=by
 obtain ⟨mA,O,r,wi,_,ho⟩:=yiN I.hok e
 have hz:(fs.map (·.1)).length<=sizeLine:=by rw [length_map,sizeLine_eq];omega
 refine ytK I.kIn O c.sa c.po n.taker c.hd wi hz fun h' O' sb=>h _ ?_
 have hd:∃ o,h'.get? dx=some o:=let ⟨o,_,_,e',_⟩:=O'.ns;⟨o,e'⟩
 refine I.write (x:=a) (e:=dx) (by rw [e];exact True.intro) (.inr ho) (fun b q hb z=>(sb.2 b hb).trans z) hd ?_
 refine ⟨by rw [yU O.ne];exact ho,?_,O.ne,O'.obj,_,O'.ns,fun g=>?_,fun g hg=>?_⟩
 .have:=yht f y fs;omega
 .show RelO ((yil f y fs).lookup g) (if g=f then some u else mA g)
  rw [yhr]
  by_cases q:g=f
  .rw [if_pos q,if_pos q];exact ry
  .rw [if_neg q,if_neg q];exact r g
 .by_cases q:g=f
  .rw [q];exact (yhs f y fs).1
  .refine (yhs f y fs).2 g (wi g fun z=>hg ?_)
   show (if g=f then some u else mA g)=none
   rw [if_neg q];exact z
theorem Inv.made (I:Inv X pins σ H s):Inv X pins σ (upd (upd H s.heap.objs.size (.own (s.heap.objs.size+1))) (s.heap.objs.size+1) (.ins C s.heap.objs.size []))
  { s with heap:=(s.heap.push emptyDict).push (instObj C s.heap.objs.size) }:=by
 have e1:(s.heap.push emptyDict).get? s.heap.objs.size=some emptyDict:=Heap.get?_push_size s.heap rfl
 have e2:((s.heap.push emptyDict).push (instObj C s.heap.objs.size)).get? (s.heap.objs.size+1)=some (instObj C s.heap.objs.size):=by
  have:=Heap.get?_push_size (s.heap.push emptyDict) (o:=instObj C s.heap.objs.size) rfl
  rwa [Heap.size_push] at this
 have e3:(s.heap.push emptyDict).Ns s.heap.objs.size (fun _=>none):=⟨emptyDict,#[],_,e1,rfl,(fun e he=>absurd he (by simp)),fun _=>rfl⟩
 have I1:=I.laid (a:=s.heap.objs.size) (o:=.own (s.heap.objs.size+1)) (h':=s.heap.push emptyDict) (t':=s.toks) (fun b u q=>Heap.get?_push_of_some _ q) (Nat.le_refl _) ⟨_,e1⟩
 refine I1.laid (a:=s.heap.objs.size+1) (o:=.ins C s.heap.objs.size []) (t':=s.toks) (fun b u q=>Heap.get?_push_of_some _ q) (le_of_eq (Heap.size_push _ _)) ?_
 have ne:s.heap.objs.size≠s.heap.objs.size+1:=ne_of_lt (Nat.lt_succ_self _)
 refine ⟨by rw [yU ne,yG],zero_le _,ne,e2,fun _=>none,(Heap.Ns1.of_empty e3).at fun o q=>Heap.get?_push_of_some _ q,fun _=>True.intro,fun y hy=>absurd rfl hy⟩
theorem ytL {prog:Program}{w:World}{env:Env}{e:Expr}{f:Str}{pos:Pos}{s:Shared}{Q:Value->Shared->Prop}(hb:attributeBase e f env (eval e env)=eval e env)
  (h:wpAny (model prog w) A (eval e env) (fun o s₁=>wpAny (model prog w) A (getAttr o f true) Q E s₁) E s):wpAny (model prog w) A (eval (.Attribute e f pos) env) Q E s :=
 Attribute_any_ h (by rw [arm_eval_Attribute,hb])
end
noncomputable def yAs (K:PySem.W.Frag) (ta:TE) (f:Str):TE:=fun σ H Q=>ta σ H fun x H1=>∃ a C dx fs v,x=.ref a/\H1 a=some (.ins C dx fs)/\Cls K C/\NoAttr K C f/\fs.lookup f=some v/\Q v H1
noncomputable def yyD (K:PySem.W.Frag) (ta tv:TE) (f:Str):TS:=fun D σ H=>tv σ H fun y H1=>ta σ H1 fun x H2=>∃ a C dx fs,x=.ref a/\H2 a=some (.ins C dx fs)/\Cls K C/\NoAttr K C f/\fs.length<1000 /\
 D.nx σ (upd H2 a (.ins C dx (yil f y fs)))
section
variable {X:Cx}{o e value:Expr}{f:Str}{pos pos' tpos:Pos}{ta tv:TE}
theorem ywb (he:PE X e ta) (hb:attributeBase e f X.env (eval e X.env)=eval e X.env):PE X (.Attribute e f pos) (yAs X.K ta f):=by
 intro pins s σ H Q I h
 refine ytL hb (thn (he pins s σ H _ I h) fun u s1 ⟨x,H1,I1,rx,a,C,dx,fs,v,ex,ea,c,n,l,q⟩=>?_)
 subst ex
 obtain rfl:u=Value.ref a:=rx
 exact ynB I1 ea c n l fun u' s2 I2 ru=>⟨v,H1,I2,ru,q⟩
theorem yoH (ha:PE X o ta) (hv:PE X value tv) (hs:swapsWith value (some (.Attribute o f pos')) pos.line X.env=pure false):PS X (.Assign [.Attribute o f pos'] value pos) (yyD X.K ta tv f):=by
 intro pins s σ H D I h
 refine plainObj_wpAny_Assign_Attribute (thn (hv pins s σ H _ I h) fun u s1 ⟨y,H1,I1,ry,q⟩=>thn (ha pins s1 σ H1 _ I1 q) fun ov s2 ⟨x,H2,I2,rx,a,C,dx,fs,ex,ea,c,n,l,q2⟩=>?_) hs
 subst ex
 obtain rfl:ov=Value.ref a:=rx
 exact ynC I2 ea c n l ry fun s3 I3=>⟨σ,_,I3,q2⟩
end
section
variable {X:Cx}{pins:List (Addr×Obj)}{σ:St}{H:Hp}{s:Shared}{A:Around}{E:Value->Shared->Prop}{Q:Value->Shared->Prop}{c:Value}{b:Bool}
inductive ymI (K:PySem.W.Frag) (H:Hp):V->Value->Prop where
 | non:ymI K H .non (.type "NoneType")
 | bl (x:Bool):ymI K H (.bl x) (.type "bool")
 | int (i:Int):ymI K H (.int i) (.type "int")
 | str (x:Str):ymI K H (.str x) (.type "str")
 | flt (x:UInt64):ymI K H (.flt x) (.type "float")
 | lst {a:Addr}{xs:List V}(e:H a=some (.lst xs)):ymI K H (.ref a) (.type "list")
 | frz {a:Addr}{o:Obj}{xs:List V}(e:H a=some (.frz o (.lst xs))):ymI K H (.ref a) (.type "list")
 | tup {a:Addr}{xs:List V}(e:H a=some (.tup xs)):ymI K H (.ref a) (.type "tuple")
 | kt {a:Addr}{o:Obj}(e:K.lookup a=some o) (c:o.cls=.type "tuple"):ymI K H (.ref a) (.type "tuple")
 | dK {a:Addr}{kvs:List (Key×V)}(e:H a=some (.dK kvs)):ymI K H (.ref a) (.type "dict")
 | dT {a:Addr}{kvs:List (List Key×V)}(e:H a=some (.dT kvs)):ymI K H (.ref a) (.type "dict")
 | ins {a C dx:Addr}{fs:List (Str×V)}(e:H a=some (.ins C dx fs)) (cl:Cls K C) (ha:findIn K (.ref C) "__class__" = some (some (.builtin "object.__class__")))
   (hn:PySem.W.specialIn K (.builtin "object.__class__") "__get__" = some (some (.builtin "getset_descriptor.__get__"))) (htk:PySem.W.takesIn K (.builtin "object.__class__")=some true)
   (hm:mroIn K C (.type "object")=some true):ymI K H (.ref a) (.ref C)
theorem yoI {x:V}{u t:Value}(I:Inv X pins σ H s) (rx:RelV x u) (ty:ymI X.K H x t) (e:PySem.W.kitOne X.K t c=some b) (h:∀ tk,Q (.bool b) { s with toks:=tk }) :
  wpAny (model X.prog X.w) A (call (.builtin "isinstance") [u,c]) Q E s:=by
 cases ty with
 | non=>cases (show u=Value.none from rx);exact kia_one PySem.W.kitx_none I.kIn True.intro e (fun z=>nomatch z) h
 | bl y=>cases (show u=Value.bool y from rx);exact kia_one PySem.W.kitx_bool I.kIn True.intro e (fun z=>nomatch z) h
 | int i=>obtain ⟨t,q⟩:=(show ∃ t,u=Value.int i t from rx);cases q;exact kia_one PySem.W.kitx_int I.kIn True.intro e (fun z=>nomatch z) h
 | str y=>obtain ⟨t,q⟩:=(show ∃ t,u=Value.str y t from rx);cases q;exact kia_one PySem.W.kitx_str I.kIn True.intro e (fun z=>nomatch z) h
 | flt y=>obtain ⟨t,q⟩:=(show ∃ t,u=Value.float y t from rx);cases q;exact kia_one PySem.W.kitx_float I.kIn True.intro e (fun z=>nomatch z) h
 | @lst a xs ea =>
  cases (show u=Value.ref a from rx)
  obtain ⟨_,_,n,_,h1⟩:=(show ObjOk X.prog X.w H s.heap a (.lst xs) from I.hok a _ ea)
  exact kia_one PySem.W.kitx_list I.kIn ⟨_,h1,rfl⟩ e (fun z=>nomatch z) h
 | @frz a ob xs ea =>
  cases (show u=Value.ref a from rx)
  obtain ⟨_,_,_,n,_,h1⟩:=(show ObjOk X.prog X.w H s.heap a (.frz ob (.lst xs)) from I.hok a _ ea)
  exact kia_one PySem.W.kitx_list I.kIn ⟨_,h1,rfl⟩ e (fun z=>nomatch z) h
 | @tup a xs ea =>
  cases (show u=Value.ref a from rx)
  obtain ⟨_,_,_,p⟩:=(show ObjOk X.prog X.w H s.heap a (.tup xs) from I.hok a _ ea)
  obtain ⟨o,h1,h2,_⟩:=p
  exact kia_one PySem.W.kitx_tuple I.kIn ⟨o,h1,h2⟩ e (fun z=>nomatch z) h
 | @kt a ob ek ck =>
  cases (show u=Value.ref a from rx)
  exact kia_one PySem.W.kitx_tuple I.kIn ⟨ob,I.kIn a ob ek,ck⟩ e (fun z=>nomatch z) h
 | @dK a kvs ea =>
  cases (show u=Value.ref a from rx)
  obtain ⟨_,_,vs,_,p⟩:=(show ObjOk X.prog X.w H s.heap a (.dK kvs) from I.hok a _ ea)
  obtain ⟨o,es,ep,h1,h2,_⟩:=p
  exact kia_one PySem.W.kitx_dict I.kIn ⟨o,h1,h2.1⟩ e (fun z=>nomatch z) h
 | @dT a kvs ea =>
  cases (show u=Value.ref a from rx)
  obtain ⟨_,_,xs,_,o,es,ep,h1,h2,_⟩:=(show ObjOk X.prog X.w H s.heap a (.dT kvs) from I.hok a _ ea)
  exact kia_one PySem.W.kitx_dict I.kIn ⟨o,h1,h2.1⟩ e (fun z=>nomatch z) h
 | @ins a C dx fs ea cl ha hn htk hm =>
  cases (show u=Value.ref a from rx)
  obtain ⟨mA,O,_⟩:=yiN I.hok ea
  obtain ⟨od,J,_⟩:=O.look
  exact kia_one (PySem.W.kitx_own (cl.get _) cl.hd ha hn htk hm) I.kIn J e (fun z=>nomatch z) h
end
end L2
namespace L2
open PySem PySem.Spec PyProof.Rows
structure Room (k:Nat) (A:Around):Prop where
 hd:A.handled=none
 dp:A.depth+3*k+5<recursionLimit
 un:A.units+16*k+200<cLine
theorem Room.mono {j k:Nat}{A:Around}(r:Room k A) (h:j<=k):Room j A:=⟨r.hd,by have:=r.dp;omega,by have:=r.un;omega⟩
theorem Room.deeper {k:Nat}{A:Around}(r:Room (k+1) A) (env:Env):Room k (A.deeper env) :=
 ⟨r.hd,by have:=r.dp;show A.depth+1+3*k+5<_;omega,by have:=r.un;show A.units+3+16*k+200<_;omega⟩
theorem ynD {A:Around}{C:Addr}{us:List Value}{kw:List (Str×Value)}:(A.under (.builtin "type.__call__" ⟨.ref C::us,kw⟩)).depth=A.depth+1:=by
 first|rfl|simp [Around.under,Code.weight,Code.isCreation,Code.isGuard,Code.isCaller,Code.frames,Code.isFrame,guardIds]
theorem ynE {A:Around}{C:Addr}{us:List Value}{kw:List (Str×Value)}:(A.under (.builtin "type.__call__" ⟨.ref C::us,kw⟩)).units=A.units+1:=by
 first|rfl|simp [Around.under,Code.cUnits,Code.frames,Code.isFrame]
theorem Room.make {k:Nat}{A:Around}(r:Room (k+1) A) (C:Addr) (us:List Value) (kw:List (Str×Value)):Room k (A.under (.builtin "type.__call__" ⟨.ref C::us,kw⟩)) :=
 ⟨r.hd,by have:=r.dp;rw [ynD];omega,by have:=r.un;rw [ynE];omega⟩
theorem Room.depth {k:Nat}{A:Around}(r:Room k A):A.depth<recursionLimit:=by have:=r.dp;omega
def ysU:TA:=fun _ H Q=>Q [] H
def yls (ta:TE) (tr:TA):TA:=fun σ H Q=>ta σ H fun x H1=>tr σ H1 fun xs H2=>Q (x::xs) H2
section
variable {X:Cx}{e:Expr}{es:List Expr}{te:TE}{t:TA}{pos:Pos}
theorem yim:PA X [] ysU:=fun _ _ _ _ H Q I h=>Calls.spliced_nil ⟨[],H,I,.nil,h⟩
theorem yex (ha:PE X e te) (hr:PA X es t) (hs:starEach (e::es) X.env=(false,eval e X.env)::starEach es X.env:=by rfl):PA X (e::es) (yls te t):=by
 intro pos pins s σ H Q I h
 rw [hs]
 show wpAny _ _ (spliced ((false,eval e X.env)::backTo pos (starEach es X.env))) _ _ s
 refine Calls.spliced_cons (thn (ha pins s σ H _ I h) fun u s1 ⟨x,H1,I1,r1,q1⟩=>?_)
 exact thn (hr pos pins s1 σ H1 _ I1 q1) fun us s2 ⟨xs,H2,I2,r2,q2⟩=>⟨x::xs,H2,I2,.cons r1 r2,q2⟩
def yAt (t:TA):TE:=fun σ H Q=>t σ H fun xs H1=>xs.length<=sizeLine/\∀ p,H1 p=none->Q (.ref p) (upd H1 p (.tup xs))
def yAu (t:TA):TE:=fun σ H Q=>t σ H fun xs H1=>xs.length<=sizeLine/\∀ p,H1 p=none->Q (.ref p) (upd H1 p (.lst xs))
theorem ywc {x1} (h:PA X es t):PE X (.Tuple es x1 pos) (yAt t):=by
 intro pins s σ H Q I hq
 refine wpAny_Tuple_spliced (thn (h pos pins s σ H _ I hq) fun us s1 ⟨xs,H1,I1,r,z,q⟩=>⟨by rw [<- r.length];exact z,?_⟩)
 have hf:H1 s1.heap.objs.size=none:=I1.hok.fresh (Nat.le_refl _)
 refine ⟨.ref s1.heap.objs.size,upd H1 s1.heap.objs.size (.tup xs),I1.laid (t':=s1.toks) (fun b u e=>Heap.get?_push_of_some _ e) (Nat.le_refl _) ?_,rfl,q _ hf⟩
 exact ⟨z,us,r,⟨_,Heap.get?_push_size _ rfl,rfl,_,rfl⟩⟩
theorem ysV (h:PA X es t):PE X (.List es pos) (yAu t):=by
 intro pins s σ H Q I hq
 refine wpAny_List_spliced (thn (h pos pins s σ H _ I hq) fun us s1 ⟨xs,H1,I1,r,z,q⟩=>⟨by rw [<- r.length];exact z,?_⟩)
 have hf:H1 s1.heap.objs.size=none:=I1.hok.fresh (Nat.le_refl _)
 refine ⟨.ref s1.heap.objs.size,upd H1 s1.heap.objs.size (.lst xs),I1.laid (t':=s1.toks) (fun b u e=>Heap.get?_push_of_some _ e) (Nat.le_refl _) ?_,rfl,q _ hf⟩
 exact ⟨z,us,0,r,Heap.get?_push_size _ rfl⟩
end
abbrev Sp:=List V->Hp->VK->XK->Prop
abbrev CXT:=List Env->Hp->Shared->XK->Value->Shared->Prop
structure Env0 (P:Program) (w:World) (K:PySem.W.Frag) (mg:Str->Option Value) (base:Heap) (A:Around) (outer:List Env) (s:Shared) (H:Hp):Prop where
 frames:A.frames=some outer
 mod:Mod K mg base
 bs:∀ b o,base.get? b=some o->s.heap.get? b=some o/\H b=none
 bsz:base.objs.size<=s.heap.objs.size
 funs:s.heap.FunFrames base outer
 frf:∀ b∈frs outer,H b=none
 hok:HOk P w H s.heap
 bare:AllBare s.gens
def CE (outer:List Env) (P:Program) (w:World) (H:Hp) (s:Shared) (Q:VK) (u:Value) (s':Shared):Prop :=
 ∃ v H',s'.os=s.os/\AllBare s'.gens/\Un (frs outer) [] H H' s.heap s'.heap/\HOk P w H' s'.heap/\RelV v u/\Q v H'
def CR (CX:CXT) (outer:List Env) (P:Program) (w:World) (H:Hp) (s:Shared) (Q:VK) (E:XK) (r:Result) (s':Shared):Prop :=
 match r with
 | .ok (.ret u)=>CE outer P w H s Q u s'
 | .ok _=>False
 | .error e=>CX outer H s E e s'
structure FnOk (P:Program) (w:World) (K:PySem.W.Frag) (mg:Str->Option Value) (base:Heap) (CX:CXT) (k:Nat) (f:Addr) (fd:FuncData) (ps:List Str) (sp:Sp):Prop where
 len:∀ vs H Q E,sp vs H Q E->vs.length=ps.length
 run:∀ (A:Around) (outer:List Env) (s:Shared) (H:Hp) (args:Args) (us:List Value) (vs:List V) (Q:VK) (E:XK),Room k A->Env0 P w K mg base A outer s H->BindsTo s fd args (ps.zip us)->Vals vs us->sp vs H Q E ->
  codeAny (model P w) A (.call (.ref f) args) (CR CX outer P w H s Q E) s
theorem FnOk.mono {P:Program}{w:World}{K:PySem.W.Frag}{mg:Str->Option Value}{base:Heap}{CX:CXT}{j k:Nat}{f:Addr}{fd:FuncData}{ps:List Str}{sp:Sp}(F:FnOk P w K mg base CX j f fd ps sp) (h:j<=k) :
  FnOk P w K mg base CX k f fd ps sp:=⟨F.len,fun A outer s H args us vs Q E hr=>F.run A outer s H args us vs Q E (hr.mono h)⟩
theorem FnOk.imp {P:Program}{w:World}{K:PySem.W.Frag}{mg:Str->Option Value}{base:Heap}{CX:CXT}{k:Nat}{f:Addr}{fd:FuncData}{ps:List Str}{sp sp':Sp}(F:FnOk P w K mg base CX k f fd ps sp)
  (h:∀ vs H Q E,sp' vs H Q E->sp vs H Q E):FnOk P w K mg base CX k f fd ps sp' :=
 ⟨fun vs H Q E q=>F.len vs H Q E (h _ _ _ _ q),fun A outer s H args us vs Q E hr he hb hv hs=>F.run A outer s H args us vs Q E hr he hb hv (h _ _ _ _ hs)⟩
theorem Env0.make {P:Program}{w:World}{K:PySem.W.Frag}{mg:Str->Option Value}{base:Heap}{A:Around}{outer:List Env}{s:Shared}{H:Hp}(e:Env0 P w K mg base A outer s H) (C:Addr) (us:List Value) (kw:List (Str×Value)) :
  Env0 P w K mg base (A.under (.builtin "type.__call__" ⟨.ref C::us,kw⟩)) outer s H:=⟨by first|exact e.frames|(simpa [Around.under,Code.envs,Code.isFrame,pushEnvs] using e.frames),e.mod,e.bs,e.bsz,e.funs,e.frf,e.hok,e.bare⟩
section
variable {X:Cx}{pins:List (Addr×Obj)}{σ:St}{H:Hp}{s s':Shared}
theorem Inv.env0 (I:Inv X pins σ H s):Env0 X.prog X.w X.K X.mg X.base X.A X.stack s H :=
 ⟨I.ok.frames,I.ok.mod,I.bs,Nat.le_trans I.ok.bsz I.sz,I.stack,I.stkFree,I.hok,I.bare⟩
theorem Inv.after {Q:VK}{u:Value}(I:Inv X pins σ H s) (h:CE X.stack X.prog X.w H s Q u s'):EP X pins σ Q u s':=by
 obtain ⟨v,H',os,bare,un,hok,r,q⟩:=h
 obtain ⟨hh,g,d,t,os'⟩:=s'
 obtain rfl:os'=s.os:=os
 exact ⟨v,H',I.call (h':=hh) (g':=g) (d':=d) (t':=t) (ch:=[]) un hok bare (fun b z=>absurd z (by simp)),r,q⟩
end
def yqQ (sp:Sp) (dvs:List V) (E:XK) (t:TA):TE:=fun σ H Q=>t σ H fun vs H1=>sp (vs++dvs) H1 Q E
noncomputable def ytM (C:Addr) (m:Str) (sp:Sp) (dvs:List V) (E:XK) (ta:TE) (t:TA):TE:=fun σ H Q=>ta σ H fun x H1=>∃ a dx fs,x=.ref a/\H1 a=some (.ins C dx fs)/\fs.lookup m=none /\
 t σ H1 fun vs H2=>sp (x::(vs++dvs)) H2 Q E
noncomputable def yqR (C:Addr) (sp:Sp) (dvs:List V) (E:XK) (t:TA):TE:=fun σ H Q=>t σ H fun vs H1=>∀ x dx,H1 x=none->H1 dx=none->dx≠x ->
 sp (.ref x::(vs++dvs)) (upd (upd H1 dx (.own x)) x (.ins C dx [])) (fun v H2=>v=.non/\Q (.ref x) H2) E
noncomputable def Binds (K:PySem.W.Frag) (fd:FuncData) (ps:List Str) (ds:List Value):Prop :=
 ∀ (s:Shared) (us:List Value),K.In s.heap->(us++ds).length=ps.length->BindsTo s fd ⟨us,[]⟩ (ps.zip (us++ds))
theorem Binds.all {K:PySem.W.Frag}{fd:FuncData}{ps:List Str}(h:∀ us:List Value,us.length=ps.length->bindArgs fd ⟨us,[]⟩=pure (ps.zip us)):Binds K fd ps []:=fun s us _ hl=>by
 rw [append_nil] at hl ⊢
 exact .of_eq (h us hl)
noncomputable def Passes (CX:CXT) (X:Cx) (E:XK):Prop:=∀ (pins:List (Addr×Obj)) (σ:St) (H:Hp) (s:Shared) (e:Value) (s':Shared),Inv X pins σ H s->CX X.stack H s E e s'->X.xe e s'
section
variable {X:Cx}{CX:CXT}{k:Nat}{f C:Addr}{fd:FuncData}{ps:List Str}{sp:Sp}{dvs:List V}{ds:List Value}{E:XK}{x m:Str}{p pos apos:Pos}{e o:Expr}{es:List Expr}{ta:TE}{t:TA}
theorem yjP {pins:List (Addr×Obj)}{σ:St}{H:Hp}{s:Shared}{Q:VK}{us:List Value}{vs:List V}(F:FnOk X.prog X.w X.K X.mg X.base CX k f fd ps sp) (hr:Room k X.A) (hb:Binds X.K fd ps ds) (hd:Vals dvs ds) (hx:Passes CX X E)
  (I:Inv X pins σ H s) (r:Vals vs us) (h:sp (vs++dvs) H Q E):wpAny (model X.prog X.w) X.A (call (.ref f) us) (EP X pins σ Q) X.xe s:=by
 have r2:Vals (vs++dvs) (us++ds):=r.append hd
 have hl:(us++ds).length=ps.length:=by rw [<- r2.length];exact F.len _ _ _ _ h
 refine wpAny_call (codeAny_mono (F.run X.A X.stack s H ⟨us,[]⟩ (us++ds) (vs++dvs) Q E hr I.env0 (hb s us I.kIn hl) r2 h) fun r s' hq=>?_)
 cases r with
 | error e=>exact hx pins σ H s e s' I hq
 | ok fl =>
  cases fl with
  | ret u=>exact I.after hq
  | next=>exact False.elim hq
  | brk=>exact False.elim hq
  | cont=>exact False.elim hq
theorem ylt (F:FnOk X.prog X.w X.K X.mg X.base CX k f fd ps sp) (hr:Room k X.A) (hg:Gl X x) (hm:X.mg x=some (.ref f)) (hk:keepIn X.K (.ref f)=true) (hb:Binds X.K fd ps ds) (hd:Vals dvs ds) (hx:Passes CX X E)
  (ha:PA X (e::es) t) (hdb:(x == ("__debug__":Str))=false:=by decide) (he:starEach (e::es) X.env=(false,eval e X.env)::starEach es X.env:=by rfl) (hpl:(backTo pos (starEach es X.env)).any (·.1)=false:=by rfl) :
  PE X (.Call (.Name x p) (e::es) [] pos) (yqQ sp dvs E t):=by
 intro pins s σ H Q I h
 refine wpAny_Call_Name_kw (yeS I hg hm ?_ hdb)
 refine PySem.W.callWith_K (h₀:=X.base) I.ok.mod.kin hk (thn (ha pos pins s σ H _ I h) fun us s1 ⟨vs,H1,I1,r,q⟩=>⟨I1.kIn,?_⟩) he hpl
 exact yjP F hr hb hd hx I1 r q
theorem yoJ {pl:Sem Bool}(he:PE X o ta) (c:Cls X.K C) (hm:Meth X.K C m f) (F:FnOk X.prog X.w X.K X.mg X.base CX k f fd ps sp) (hr:Room k X.A) (hb:Binds X.K fd ps ds) (hd:Vals dvs ds) (hx:Passes CX X E) (ha:PA X (e::es) t)
  (hst:starEach (e::es) X.env=(false,eval e X.env)::starEach es X.env:=by rfl) (hpl:(backTo pos (starEach es X.env)).any (·.1)=false:=by rfl)
  (ht:eval (.Call (.Attribute o m apos) (e::es) [] pos) X.env=(do
   let ov <- eval o X.env
   standAt apos.atName
   let (f,first) <- holding [ov] (getMethod ov m pl)
   callWith pos f first (backTo pos (starEach (e::es) X.env)) (backToKw pos (keywordEach [] X.env))):=by rfl) :
  PE X (.Call (.Attribute o m apos) (e::es) [] pos) (ytM C m sp dvs E ta t):=by
 intro pins s σ H Q I h
 refine PySem.W.methodCall_KW (pl:=pl) (thn (he pins s σ H _ I h) fun u s1 ⟨x,H1,I1,rx,a,dx,fs,ex,ea,l,q⟩=>?_) ht
 subst ex
 obtain rfl:u=Value.ref a:=rx
 refine ygB I1 ea c hm l ?_
 refine PySem.W.callWith_K (first:=[.ref a]) (h₀:=X.base) I.ok.mod.kin hm.kp (thn (ha pos pins s1 σ H1 _ I1 q) fun us s2 ⟨vs,H2,I2,r,q2⟩=>⟨I2.kIn,?_⟩) hst hpl
 exact yjP (us:=.ref a::us) (vs:=.ref a::vs) F hr hb hd hx I2 (.cons rfl r) q2
theorem ymJ {pl:Sem Bool}(he:PE X o ta) (c:Cls X.K C) (hm:Meth X.K C m f) (F:FnOk X.prog X.w X.K X.mg X.base CX k f fd ps sp) (hr:Room k X.A) (hb:Binds X.K fd ps ds) (hd:Vals dvs ds) (hx:Passes CX X E)
  (ht:eval (.Call (.Attribute o m apos) [] [] pos) X.env=(do
   let ov <- eval o X.env
   standAt apos.atName
   let (f,first) <- holding [ov] (getMethod ov m pl)
   callWith pos f first (backTo pos (starEach [] X.env)) (backToKw pos (keywordEach [] X.env))):=by rfl) :
  PE X (.Call (.Attribute o m apos) [] [] pos) (ytM C m sp dvs E ta ysU):=by
 intro pins s σ H Q I h
 refine PySem.W.methodCall_KW (pl:=pl) (thn (he pins s σ H _ I h) fun u s1 ⟨x,H1,I1,rx,a,dx,fs,ex,ea,l,q⟩=>?_) ht
 subst ex
 obtain rfl:u=Value.ref a:=rx
 refine ygB I1 ea c hm l ?_
 exact PySem.W.callWith_K0 (first:=[.ref a]) I1.kIn hm.kp (yjP (us:=[.ref a]) (vs:=[.ref a]) F hr hb hd hx I1 (.cons rfl .nil) q)
structure Mk (K:PySem.W.Frag) (C f:Addr):Prop where
 makes:makesIn K C=true
 init:findIn K (.ref C) "__init__" = some (some (.ref f))
 fn:isFn K (.ref f)=true
 kp:keepIn K (.ref C)=true
theorem ymK {pins:List (Addr×Obj)}{σ:St}{H:Hp}{s:Shared}{Q:VK}{us:List Value}{vs:List V}(M:Mk X.K C f) (F:FnOk X.prog X.w X.K X.mg X.base CX k f fd ps sp) (hr:Room (k+1) X.A) (hb:Binds X.K fd ps ds) (hd:Vals dvs ds)
  (hx:Passes CX X E) (I:Inv X pins σ H s) (r:Vals vs us)
  (h:∀ x dx,H x=none->H dx=none->dx≠x->sp (.ref x::(vs++dvs)) (upd (upd H dx (.own x)) x (.ins C dx [])) (fun v H2=>v=.non/\Q (.ref x) H2) E) :
  wpAny (model X.prog X.w) X.A (call (.ref C) us) (EP X pins σ Q) X.xe s:=by
 have hq:=h (s.heap.objs.size+1) s.heap.objs.size (I.hok.fresh (Nat.le_succ _)) (I.hok.fresh (Nat.le_refl _)) (ne_of_lt (Nat.lt_succ_self _))
 have I2:=Inv.made (C:=C) I
 have r2:Vals (V.ref (s.heap.objs.size+1)::(vs++dvs)) (Value.ref (s.heap.objs.size+1)::(us++ds)):=.cons rfl (r.append hd)
 have hl:(Value.ref (s.heap.objs.size+1)::us++ds).length=ps.length:=by
  have e:=r2.length
  rw [F.len _ _ _ _ hq] at e
  exact e.symm
 refine wpAny_call (ymH (f:=f) I.kIn M.makes M.init (beq_iff_eq.mp M.fn) (codeAny_mono (F.run _ X.stack _ _ ⟨Value.ref (s.heap.objs.size+1)::us,[]⟩ (Value.ref (s.heap.objs.size+1)::(us++ds)) _ _ E (hr.make C us [])
  (I2.env0.make C us []) (hb _ (Value.ref (s.heap.objs.size+1)::us) I2.kIn hl) r2 hq) fun r s' hq'=>?_))
 cases r with
 | error e=>exact hx pins σ _ _ e s' I2 hq'
 | ok fl =>
  cases fl with
  | ret u =>
   obtain ⟨v,H',I3,rv,ev,q3⟩:=I2.after hq'
   subst ev
   exact ⟨rv,⟨V.ref (s.heap.objs.size+1),H',I3,rfl,q3⟩⟩
  | next=>exact False.elim hq'
  | brk=>exact False.elim hq'
  | cont=>exact False.elim hq'
theorem ylu (M:Mk X.K C f) (F:FnOk X.prog X.w X.K X.mg X.base CX k f fd ps sp) (hr:Room (k+1) X.A) (hg:Gl X x) (hm:X.mg x=some (.ref C)) (hb:Binds X.K fd ps ds) (hd:Vals dvs ds) (hx:Passes CX X E)
  (ha:PA X (e::es) t) (hdb:(x == ("__debug__":Str))=false:=by decide) (he:starEach (e::es) X.env=(false,eval e X.env)::starEach es X.env:=by rfl) (hpl:(backTo pos (starEach es X.env)).any (·.1)=false:=by rfl) :
  PE X (.Call (.Name x p) (e::es) [] pos) (yqR C sp dvs E t):=by
 intro pins s σ H Q I h
 refine wpAny_Call_Name_kw (yeS I hg hm ?_ hdb)
 refine PySem.W.callWith_K (h₀:=X.base) I.ok.mod.kin M.kp (thn (ha pos pins s σ H _ I h) fun us s1 ⟨vs,H1,I1,r,q⟩=>⟨I1.kIn,?_⟩) he hpl
 exact ymK M F hr hb hd hx I1 r q
theorem yqS (M:Mk X.K C f) (F:FnOk X.prog X.w X.K X.mg X.base CX k f fd ps sp) (hr:Room (k+1) X.A) (hg:Gl X x) (hm:X.mg x=some (.ref C)) (hb:Binds X.K fd ps ds) (hd:Vals dvs ds) (hx:Passes CX X E)
  (hdb:(x == ("__debug__":Str))=false:=by decide):PE X (.Call (.Name x p) [] [] pos) (yqR C sp dvs E ysU):=by
 intro pins s σ H Q I h
 refine wpAny_Call_Name_kw (yeS I hg hm ?_ hdb)
 exact PySem.W.callWith_K0 I.kIn M.kp (ymK (us:=[]) M F hr hb hd hx I .nil h)
end
section
variable {X:Cx}{CX:CXT}{k:Nat}{f C:Addr}{fd:FuncData}{ps ks:List Str}{sp:Sp}{E:XK}{x m:Str}{p pos apos kpos:Pos}{e o:Expr}{es:List Expr}{kws:List Keyword}{te ta:TE}{t tk:TA}{nm:Option Str}
variable {g:List Value->List Value->List Value}{gV:List V->List V->List V}
end
structure yed (N P:List Str) (sc:Scope):Prop where
 kind:sc.kind=.function
 co:sc.isCoroutine=false
 gen:sc.isGenerator=false
 nd:N.Nodup
 pre:N.take P.length=P
 par:∀ x∈P,sc.names.lookup x=some .local \/ sc.names.lookup x=some .cell
 nofree:∀ y∈sc.names,y.2≠.free
theorem yjQ {kindOf:Str->Option NameKind}{x:Str}:∀ {binds:List (Str×Value)}{m:Str->Option Value},(∀ v,(x,v)∉binds)->bindL kindOf binds m x=m x
 | [],_,_=>rfl
 | (n,v)::r,m,h=>by
  unfold bindL
  rw [yjQ fun w hw=>h w (mem_cons_of_mem _ hw)]
  split
  .have:x≠n:=by rintro rfl;exact h v mem_cons_self
   simp [this]
  .rfl
theorem yjR {kindOf:Str->Option NameKind}{x:Str}:∀ {binds:List (Str×Value)}{m:Str->Option Value},(∀ v,(x,v)∉binds)->bindC kindOf binds m x=m x
 | [],_,_=>rfl
 | (n,v)::r,m,h=>by
  unfold bindC
  rw [yjR fun w hw=>h w (mem_cons_of_mem _ hw)]
  split
  .rfl
  .have:x≠n:=by rintro rfl;exact h v mem_cons_self
   simp [this]
theorem yjS {kindOf:Str->Option NameKind}{x:Str}{v:Value}:∀ {P:List Str}{vs:List Value}{i:Nat}{m:Str->Option Value},P.Nodup->P[i]?=some x->vs[i]?=some v->kindOf x=some .local ->
  bindL kindOf (P.zip vs) m x=some v
 | [],_,_,_,_,h,_,_=>by simp at h
 | _::_,[],_,_,_,_,h,_=>by simp at h
 | p::P,w::vs,0,m,nd,h1,h2,hk=>by
  simp at h1 h2;subst h1;subst h2
  show bindL kindOf ((p,w)::P.zip vs) m p=_
  unfold bindL
  rw [yjQ fun v hv=>(List.nodup_cons.mp nd).1 (of_mem_zip hv).1,if_pos hk]
  simp
 | p::P,w::vs,i+1,m,nd,h1,h2,hk=>by
  show bindL kindOf ((p,w)::P.zip vs) m x=_
  unfold bindL
  exact yjS (i:=i) (List.nodup_cons.mp nd).2 (by simpa using h1) (by simpa using h2) hk
theorem yjT {kindOf:Str->Option NameKind}{x:Str}{v:Value}:∀ {P:List Str}{vs:List Value}{i:Nat}{m:Str->Option Value},P.Nodup->P[i]?=some x->vs[i]?=some v->kindOf x≠some .local ->
  bindC kindOf (P.zip vs) m x=some v
 | [],_,_,_,_,h,_,_=>by simp at h
 | _::_,[],_,_,_,_,h,_=>by simp at h
 | p::P,w::vs,0,m,nd,h1,h2,hk=>by
  simp at h1 h2;subst h1;subst h2
  show bindC kindOf ((p,w)::P.zip vs) m p=_
  unfold bindC
  rw [yjR fun v hv=>(List.nodup_cons.mp nd).1 (of_mem_zip hv).1,if_neg hk]
  simp
 | p::P,w::vs,i+1,m,nd,h1,h2,hk=>by
  show bindC kindOf ((p,w)::P.zip vs) m x=_
  unfold bindC
  exact yjT (i:=i) (List.nodup_cons.mp nd).2 (by simpa using h1) (by simpa using h2) hk
def start (N:List Str) (vs:List V):St:=vs.map some++replicate (N.length-vs.length) none
noncomputable def ylv (CX:CXT) (P:Program) (w:World) (K:PySem.W.Frag) (mg:Str->Option Value) (base:Heap) (N:List Str) (qual:Str) (scope:Scope) (f:Addr) (cd:Value) (A:Around) (outer:List Env) (s:Shared) (H:Hp) (E:XK):Cx where
 prog:=P
 w:=w
 K:=K
 mg:=mg
 base:=base
 A:=A.deeper (envOfC qual scope s.heap.objs.size f cd)
 N:=N
 s₀:=s
 H₀:=H
 env:=envOfC qual scope s.heap.objs.size f cd
 outer:=outer
 stack:=envOfC qual scope s.heap.objs.size f cd::outer
 ex:=[]
 calm:=true
 fn:=fun _=>true
 pn:=[]
 xe:=fun e s'=>wpAny (model P w) (A.deeper (envOfC qual scope s.heap.objs.size f cd)) (leaving (envOfC qual scope s.heap.objs.size f cd) e) (fun _ s''=>CX outer H s E e s'') (fun e' s''=>CX outer H s E e' s'') s'
theorem ymL {sc:Scope}{n:Nat}{x:Str}(h:sc.names.lookup x=some .cell):∃ c,(cellsFrom n sc.names []).lookup x=some c:=by
 have q:=PySem.W.cellsFrom_some sc.names n [] (.inl h)
 exact Option.isSome_iff_exists.mp q
theorem yoK {CX:CXT}{P:Program}{w:World}{K:PySem.W.Frag}{mg:Str->Option Value}{base:Heap}{N ps:List Str}{qual:Str}{scope:Scope}{f:Addr}{cd:Value}{A:Around}{outer:List Env}{s s1:Shared}{H:Hp}{E:XK}{us:List Value}{vs:List V}
  (S:yed N ps scope) (hd:A.handled=none) (e0:Env0 P w K mg base A outer s H) (hl:vs.length=ps.length) (r:Vals vs us)
  (x:InCallC s s.heap.objs.size (bindL (envOfC qual scope s.heap.objs.size f cd).kindOf (ps.zip us) fun _=>none) (cellsFrom (s.heap.objs.size+1) scope.names []) (bindC (envOfC qual scope s.heap.objs.size f cd).kindOf (ps.zip us) fun _=>none) s1) :
  Inv (ylv CX P w K mg base N qual scope f cd A outer s H E) [] (start N vs) H s1:=by
 have hpl:ps.length<=N.length:=by have:=congrArg length S.pre;rw [List.length_take] at this;omega
 obtain ⟨h1,tk,rfl,hk⟩:=x.done
 have noA:∀ b:Addr,b∉(ylv CX P w K mg base N qual scope f cd A outer s H E).ex:=fun b z=>absurd (show b∈([]:List Addr) from z) (by simp)
 refine ⟨⟨e0.mod,S.kind,rfl,rfl,Nat.le_refl _,fun y z c h1 h2=>?_,fun y hy=>?_,fun y c _ h=>?_,fun _=>hd,Around.frames_deeper e0.frames,.inr ⟨rfl,rfl⟩,fun b z=>absurd z (noA b),e0.bs,e0.bsz,fun b _ _=>noA b,fun b z=>absurd z (noA b),e0.funs,e0.frf⟩,
  rfl,e0.bare,Un.kept hk,⟨_,x.toInCall.ns,fun i y v h1 h2 h3=>?_⟩,fun y c h=>⟨_,x.cell y c h⟩,e0.hok.fresh (Nat.le_refl _),fun y c h=>?_,fun p hp=>absurd (show p∈([]:List (Addr×Obj)) from hp) (by simp),e0.hok.kept hk,?_⟩
 .exact name_of_addr x.apart (PySem.mem_of_lookup h1) (PySem.mem_of_lookup h2)
 .have hy:scope.names.lookup y=some .cell\/scope.names.lookup y=some .free:=hy
  rcases hy with hy|hy
  .exact ymL hy
  .exact absurd rfl (S.nofree _ (PySem.mem_of_lookup hy))
 .exact le_of_lt (x.above y c (PySem.mem_of_lookup h))
 .have hi:i<vs.length:=by
   unfold start at h2
   by_cases hi:i<vs.length
   .exact hi
   .rw [getElem?_append_right (by simpa using hi)] at h2
    rw [getElem?_replicate] at h2
    split at h2<;>cases h2
  have ha:vs[i]?=some v:=by
   unfold start at h2
   rw [getElem?_append_left (by simpa using hi),getElem?_map] at h2
   cases e:vs[i]? with
   | none=>rw [e] at h2;cases h2
   | some a=>rw [e] at h2;cases h2;rfl
  obtain ⟨u,hu,rv⟩:=r.get ha
  have hp:ps[i]?=some y:=by
   rw [<- S.pre,List.getElem?_take_of_lt (by omega)];exact h1
  have ndP:ps.Nodup:=by rw [<- S.pre];exact S.nd.sublist (List.take_sublist _ _)
  refine ⟨u,rv,?_⟩
  rcases S.par y (mem_of_getElem? hp) with k|k
  .exact .inl ⟨k,yjS ndP hp hu k⟩
  .obtain ⟨c,e⟩:=ymL (n:=s.heap.objs.size+1) k
   refine .inr ⟨.inl k,c,e,?_⟩
   have q:=x.cell y c e
   rw [yjT ndP hp hu (by show scope.names.lookup y≠_;rw [k];decide)] at q
   exact q
 .exact e0.hok.fresh (le_of_lt (x.above y c (PySem.mem_of_lookup h)))
 .unfold start
  show _=N.length
  rw [length_append,length_map,List.length_replicate]
  omega
theorem ywd {CX:CXT}{P:Program}{w:World}{K:PySem.W.Frag}{mg:Str->Option Value}{base:Heap}{k:Nat}{f:Addr}{name qual:Str}{params:Arguments}{body:List Stmt}{scope:Scope}{dV kV doc pm cdv ct oc:Value}{an od:Option Addr}
  {osl:Array (Option Value)}{N ps:List Str}{sp:Sp}(lk:K.lookup f=some ⟨oc,od,.func (fnOf name qual params body scope dV kV doc pm an cdv ct),osl⟩) (hcd:codeIn K cdv qual=true) (S:yed N ps scope)
  (len:∀ vs H Q E,sp vs H Q E->vs.length=ps.length)
  (hbody:∀ (A:Around) (outer:List Env) (s:Shared) (H:Hp) (vs:List V) (Q:VK) (E:XK),Room k (A.deeper (envOfC qual scope s.heap.objs.size f cdv))->sp vs H Q E ->
   ∃ t,PSs (ylv CX P w K mg base N qual scope f cdv A outer s H E) body t/\t { nx:=fun _ H'=>Q .non H',rt:=Q } (start N vs) H) :
  FnOk P w K mg base CX (k+1) f (fnOf name qual params body scope dV kV doc pm an cdv ct) ps sp:=by
 refine ⟨len,fun A outer s H args us vs Q E hr e0 hb r hsp=>?_⟩
 have hl:=len _ _ _ _ hsp
 have KX:K.In s.heap:=e0.mod.kin.keeps fun b o e=>(e0.bs b o e).1
 have lim:s.heap.NoLimit:=e0.mod.nolimit.keeps fun b o e=>(e0.bs b o e).1
 have hkind:∀ y∈ps.zip us,scope.names.lookup y.1=some .local \/ (scope.names.lookup y.1=some .cell/\((cellsFrom (s.heap.objs.size+1) scope.names []).lookup y.1).isSome=true):=fun ⟨n,v⟩ hy=>by
  rcases S.par n (of_mem_zip hy).1 with q|q
  .exact .inl q
  .exact .inr ⟨q,PySem.W.cellsFrom_some _ _ _ (.inl q)⟩
 refine codeAny_call_function hr.depth (KX _ _ lk) rfl S.co S.gen rfl (PySem.W.codeRec_of KX hcd) (hb _ _ _ _ ?_)
 refine wpAny_newFunctionEnv_cells S.kind hkind fun env he s1 x=>?_
 subst he
 refine ⟨lim.keeps x.toInCall.keep,codeAny_func ?_⟩
 obtain ⟨t,ht,hq⟩:=hbody A outer s H vs Q E (hr.deeper _) hsp
 have I:Inv (ylv CX P w K mg base N qual scope f cdv A outer s H E) [] (start N vs) H s1:=yoK S hr.hd e0 hl r x
 refine wpAny_mono (ht [] s1 (start N vs) H _ I hq) (fun fl s' hs=>?_) fun e s' hs=>hs
 have fin:∀ {σ':St}{H':Hp}{v:V}{u:Value},Inv (ylv CX P w K mg base N qual scope f cdv A outer s H E) [] σ' H' s'->RelV v u->Q v H'->CE outer P w H s Q u s' :=
  fun {σ' H' v u} J rv q=>⟨v,H',J.os,J.bare,J.base,J.hok,rv,q⟩
 cases fl with
 | ret u =>
  obtain ⟨v,σ',H',J,rv,q⟩:=hs
  exact fin J rv q
 | next =>
  obtain ⟨σ',H',J,q⟩:=hs
  exact fin (v:=V.non) (u:=Value.none) J rfl q
 | brk =>
  obtain ⟨_,_,_,q⟩:=hs
  exact False.elim q
 | cont =>
  obtain ⟨_,_,_,q⟩:=hs
  exact False.elim q
end L2
namespace L2
open PySem PySem.Spec PyProof.Rows
section
variable {X:Cx}{x:Str}{p pos:Pos}{e:Expr}{es:List Expr}{t:TA}{id T:String}{r:List V->Hp->VK->Prop}
def tCB (r:List V->Hp->VK->Prop) (t:TA):TE:=fun σ H Q=>t σ H fun vs H1=>r vs H1 Q
theorem yiO (hc:yfP X (.builtin id) r) (hg:Gl X x) (hm:X.mg x=none) (hv:bootBuiltins x=some (.builtin id)) (ha:PA X (e::es) t) (hn:x≠"__name__":=by decide) (hdb:(x == ("__debug__":Str))=false:=by decide)
  (he:starEach (e::es) X.env=(false,eval e X.env)::starEach es X.env:=by rfl) (hpl:(backTo pos (starEach es X.env)).any (·.1)=false:=by rfl):PE X (.Call (.Name x p) (e::es) [] pos) (tCB r t):=by
 intro pins s σ H Q I h
 refine wpAny_Call_Name_kw (ymD I hg hm hv ?_ hn hdb)
 exact PyProof.Rows.callWith_builtin1 (thn (ha pos pins s σ H _ I h) fun us s1 ⟨vs,H1,I1,r1,q1⟩=>hc pins s1 σ H1 vs us Q I1 r1 q1) he hpl
theorem yjU (hc:yfP X (.type T) r) (hg:Gl X x) (hm:X.mg x=none) (hv:bootBuiltins x=some (.type T)) (ha:PA X (e::es) t) (hn:x≠"__name__":=by decide) (hdb:(x == ("__debug__":Str))=false:=by decide)
  (he:starEach (e::es) X.env=(false,eval e X.env)::starEach es X.env:=by rfl) (hpl:(backTo pos (starEach es X.env)).any (·.1)=false:=by rfl):PE X (.Call (.Name x p) (e::es) [] pos) (tCB r t):=by
 intro pins s σ H Q I h
 refine wpAny_Call_Name_kw (ymD I hg hm hv ?_ hn hdb)
 exact PyProof.Rows.callWith_type1 (thn (ha pos pins s σ H _ I h) fun us s1 ⟨vs,H1,I1,r1,q1⟩=>hc pins s1 σ H1 vs us Q I1 r1 q1) he hpl
end
end L2
namespace HT
open PySem PyProof.Rows
section
open PySem.SeqAt
open PySem.AutoSeq1 (wpAny_loadPart')
open PySem.MeetsSeq PySem.MeetsSeq2 PySem.MeetsSeq3
end
section
variable {prog:Program}{w:World}{A:Around}{E:Value->Shared->Prop}{s:Shared}
def sIx (n d:Nat):Option Int->Nat
 | none=>d
 | some v=>if v<0 then (v+(n:Int)).toNat else min v.toNat n
end
end HT
namespace L2
open PySem PySem.Spec PyProof.Rows
abbrev TO:=St->Hp->(Option Int->Hp->Prop)->Prop
theorem intsAre_of {ns:List Int}:∀ {us:List Value},Vals (ns.map V.int) us->IntsAre us ns:=by
 induction ns with
 | nil=>intro us r;rw [map_nil] at r;cases r;exact .nil
 | cons n ns ih =>
  intro us r
  rw [map_cons] at r
  cases r with
  | cons r1 r2 =>
   obtain ⟨t,e⟩:=r1
   subst e
   exact .cons n t (ih r2)
section
variable {X:Cx}{e:Expr}{te:TE}{lo hi:Option Expr}{tl th:TO}{pos p2:Pos}
end
end L2
namespace L2
open PySem PySem.Spec PyProof.Rows
noncomputable def ixN (n:Nat) (i:Int):Option Nat:=if 0<=i then (if i<n then some i.toNat else none) else if -(n:Int)<=i then some (i+n).toNat else none
def atI {α:Type}(xs:List α) (i:Int):Option α:=(ixN xs.length i).bind fun j=>xs[j]?
theorem yoL {n:Nat}{i:Int}{j:Nat}(h:ixN n i=some j):seqIndex? i n=some j/\j<n/\-(n:Int)<=i/\i<n:=by
 unfold ixN at h
 by_cases h0:0<=i
 .rw [if_pos h0] at h
  by_cases h1:i<n
  .rw [if_pos h1] at h
   have e:i.toNat=j:=Option.some.inj h
   exact ⟨by rw [seqIndex_of h0 h1,e],by omega,by omega,h1⟩
  .rw [if_neg h1] at h;cases h
 .rw [if_neg h0] at h
  by_cases h1:-(n:Int)<=i
  .rw [if_pos h1] at h
   have e:(i+n).toNat=j:=Option.some.inj h
   exact ⟨by rw [seqIndex_neg (by omega) h1,e],by omega,h1,by omega⟩
  .rw [if_neg h1] at h;cases h
theorem ylw {α:Type}{xs:List α}{i:Int}{v:α}(h:atI xs i=some v):∃ j,seqIndex? i xs.length=some j/\xs[j]?=some v/\j<xs.length/\-(xs.length:Int)<=i/\i<xs.length:=by
 unfold atI at h
 cases e:ixN xs.length i with
 | none=>rw [e] at h;cases h
 | some j =>
  rw [e] at h
  obtain ⟨h1,h2,h3,h4⟩:=yoL e
  exact ⟨j,h1,h,h2,h3,h4⟩
theorem yee {α:Type}{xs:List α}{j:Nat}{v:α}(h:xs[j]?=some v):atI xs (j:Int)=some v:=by
 have hj:j<xs.length:=(List.getElem?_eq_some_iff.mp h).1
 have e:ixN xs.length (j:Int)=some j:=by
  unfold ixN
  rw [if_pos (by omega),if_pos (by omega)];simp
 unfold atI;rw [e];exact h
def yoM (b:Expr):Prop:=∀ o i,subscripted b false o i=operate [o,i] (getItem o i)
def IxR (X:Cx) (r:R2):Prop :=
 ∀ (value slice:Expr) (pins:List (Addr×Obj)) (s:Shared) (σ:St) (H:Hp) (x y:V) (v u:Value) (Q:VK),Inv X pins σ H s->RelV x v->RelV y u->r x y H Q ->
  subscripted slice false v u=operate [v,u] (getItem v u)->wpAny (model X.prog X.w) X.A (subscriptTail value slice v u) (EP X pins σ Q) X.xe s
def MtR (X:Cx) (id:String) (r:V->List V->Hp->VK->Prop):Prop :=
 ∀ (pins:List (Addr×Obj)) (s:Shared) (σ:St) (H:Hp) (x:V) (xs:List V) (v:Value) (us:List Value) (Q:VK),Inv X pins σ H s->RelV x v->Vals xs us->r x xs H Q ->
  wpAny (model X.prog X.w) X.A (call (.builtin id) (v::us)) (EP X pins σ Q) X.xe s
section
variable {X:Cx}{a b:Expr}{ta tb:TE}{pos:Pos}
theorem yyE {r:R2}(hr:IxR X r) (ha:PE X a ta) (hb:PE X b tb) (hs:yoM b):PE X (.Subscript a b pos) (tOp r ta tb):=by
 intro pins s σ H Q I h
 exact Subscript_ (yyz ha hb I h fun v u s2 x y H2 I2 rx ry q=>hr a b pins s2 σ H2 x y v u Q I2 rx ry q (hs _ _))
def yAv (K:PySem.W.Frag):R2:=fun x y H Q=>∃ p xs i v,x=.ref p/\y=.int i/\SqL K H p xs/\atI xs i=some v/\Q v H
def yAw (K:PySem.W.Frag):R2:=fun x y H Q=>∃ p xs i v,x=.ref p/\y=.int i/\SqT K H p xs/\atI xs i=some v/\Q v H
def yAx:R2:=fun x y H Q=>∃ z i c,x=.str z/\y=.int i/\z.length<=sizeLine/\atI z.cps.toList i=some c/\Q (.str ⟨#[c]⟩) H
theorem ybz:IxR X (yAv X.K):=by
 intro value slice pins s σ H x y v u Q I rx ry h hs
 obtain ⟨p,xs,i,z,rfl,rfl,hq,he,q⟩:=h
 cases rx
 obtain ⟨t,rfl⟩:=ry
 obtain ⟨its,r,pl,hz⟩:=I.list hq
 obtain ⟨j,h1,h2,h3,h4,h5⟩:=ylw he
 obtain ⟨w,ew,rw'⟩:=r.get h2
 have hl:=r.length
 have hn:=yik
 have fin:EP X pins σ Q w s:=⟨z,H,I,rw',q⟩
 by_cases h0:0<=i
 .have hj:i.toNat=j:=by
   rw [seqIndex_of h0 h5] at h1
   exact Option.some.inj h1
  exact item_listR pl.isList h0 (by omega) (by rw [hj];simpa using ew) fin hs
 .have hj:(i+(its.toArray.size:Int)).toNat=j:=by
   rw [seqIndex_neg (by omega) h4] at h1
   rw [size_toArray,<- hl]
   exact Option.some.inj h1
  exact subscriptTail_builtinR (x:=w) pl.isList.typeIs slot_list_getitem.lookup
   (wpAny_getItem_list_neg (Q:=fun r s'=>r=w/\EP X pins σ Q r s') pl.isList (by omega) (by rw [size_toArray]<;>omega) (by omega) (by rw [hj];simpa using ew) ⟨rfl,fin⟩) hs
theorem yin:IxR X (yAw X.K):=by
 intro value slice pins s σ H x y v u Q I rx ry h hs
 obtain ⟨p,xs,i,z,rfl,rfl,hq,he,q⟩:=h
 cases rx
 obtain ⟨t,rfl⟩:=ry
 obtain ⟨its,r,pl,hz⟩:=I.tuple hq
 obtain ⟨j,h1,h2,h3,h4,h5⟩:=ylw he
 obtain ⟨w,ew,rw'⟩:=r.get h2
 have hl:=r.length
 have hn:=yik
 have fin:EP X pins σ Q w s:=⟨z,H,I,rw',q⟩
 exact subscriptTail_builtinR (x:=w) pl.typeIs slot_tuple_getitem.lookup
  (getItem_tuple (j:=j) (Q:=fun r s'=>r=w/\EP X pins σ Q r s') pl (by omega) (by omega) (by rw [size_toArray,<- hl];exact h1) (by simpa using ew) ⟨rfl,fin⟩) hs
theorem ywe:IxR X yAx:=by
 intro value slice pins s σ H x y v u Q I rx ry h hs
 obtain ⟨z,i,c,rfl,rfl,hz,he,q⟩:=h
 obtain ⟨t,rfl⟩:=rx
 obtain ⟨t',rfl⟩:=ry
 obtain ⟨j,h1,h2,h3,h4,h5⟩:=ylw he
 have hl:z.cps.toList.length=z.length:=by simp [Str.length]
 rw [hl] at h1 h4 h5
 have hn:=yik
 exact tail_any (typeIs_str s z t) slot_str_getitem.lookup (getItem_str (c:=c) (by
  have e1:decide (i < -(2 ^ 63:Int))=false:=decide_eq_false (by omega)
  have e2:decide (i>=2 ^ 63)=false:=decide_eq_false (by omega)
  rw [e1,e2,Bool.or_false]) (by rw [h1];simpa using h2) ⟨.str ⟨#[c]⟩,H,I.tok _,⟨_,rfl⟩,q⟩) hs
theorem ynF (its:List Value) (n j:Nat) (u:Value):Obj.mapSeq (·.setIfInBounds j u) { cls:=.type "list",data:=.seq its.toArray n }={ cls:=.type "list",data:=.seq (its.set j u).toArray n }:=by
 simp [Obj.mapSeq]
theorem Inv.lst {pins:List (Addr×Obj)}{σ:St}{H:Hp}{s:Shared}{p:Addr}{xs:List V}(I:Inv X pins σ H s) (h:H p=some (.lst xs)) :
  ∃ (its:List Value) (n:Nat),Vals xs its/\s.heap.get? p=some { cls:=.type "list",data:=.seq its.toArray n }/\xs.length<=sizeLine:=by
 obtain ⟨z,its,n,r,e⟩:=I.hok p _ h
 exact ⟨its,n,r,e,z⟩
theorem Inv.lstUpd {pins:List (Addr×Obj)}{σ:St}{H:Hp}{s:Shared}{p:Addr}{xs ys:List V}{its its':List Value}{n n':Nat}{f:Obj->Obj}(I:Inv X pins σ H s) (h:H p=some (.lst xs))
  (ho:s.heap.get? p=some { cls:=.type "list",data:=.seq its.toArray n }) (hf:f { cls:=.type "list",data:=.seq its.toArray n }={ cls:=.type "list",data:=.seq its'.toArray n' }) (r:Vals ys its') (hz:ys.length<=sizeLine) (t:Nat) :
  Inv X pins σ (upd H p (.lst ys)) { s with heap:=s.heap.update p f,toks:=t }:=by
 have e:(s.heap.update p f).get? p=some { cls:=.type "list",data:=.seq its'.toArray n' }:=by
  rw [Heap.get?_update_self f ho (by rw [hf]<;>rfl),hf]
 refine I.write (x:=p) (e:=p) (by rw [h];trivial) (.inl rfl) (fun b u hb q=>(Heap.get?_update_other _ _ (Ne.symm hb)).trans q) ⟨_,e⟩ ?_
 exact ⟨hz,its',n',r,e⟩
def ywf:V->V->V->Hp->(Hp->Prop)->Prop:=fun o i v H Q=>∃ p xs k j,o=.ref p/\i=.int k/\H p=some (.lst xs)/\ixN xs.length k=some j/\Q (upd H p (.lst (xs.set j v)))
theorem set_list:yAm X ywf:=by
 intro pins s σ H o i v ov iv u Q I ro ri rv h
 obtain ⟨p,xs,k,j,rfl,rfl,hp,hj,q⟩:=h
 cases ro
 obtain ⟨t,rfl⟩:=ri
 obtain ⟨its,n,r,ho,hz⟩:=I.lst hp
 obtain ⟨h1,h2,h3,h4⟩:=yoL hj
 have hl:=r.length
 have hn:=yik
 have I':Inv X pins σ (upd H p (.lst (xs.set j v))) { s with heap:=s.heap.update p (Obj.mapSeq (·.setIfInBounds j u)) } :=
  I.lstUpd hp ho (ynF its n j u) (r.set rv j) (by rw [length_set];exact hz) s.toks
 by_cases h0:0<=k
 .have hk:k.toNat=j:=by
   rw [seqIndex_of h0 h4] at h1
   exact Option.some.inj h1
  exact PySem.W.ki_setAt ho h0 (by omega) (by rw [size_toArray,<- hl];exact h4) (by rw [hk];exact ⟨_,I',q⟩)
 .have hk:(k+(its.toArray.size:Int)).toNat=j:=by
   rw [seqIndex_neg (by omega) h3] at h1
   rw [size_toArray,<- hl]
   exact Option.some.inj h1
  exact PySem.W.ki_setBack ho (by omega) (by rw [size_toArray,<- hl];exact h3) (by omega) (by rw [hk];exact ⟨_,I',q⟩)
def ygc:V->Bool
 | .non=>true
 | .bl _=>true
 | .int _=>true
 | .str _=>true
 | _=>false
noncomputable def eqV:V->V->Bool
 | .non,.non=>true
 | .bl a,.bl b=>a == b
 | .bl a,.int b=>(if a then 1 else 0) == b
 | .int a,.bl b=>a == (if b then 1 else 0)
 | .int a,.int b=>a == b
 | .str a,.str b=>a == b
 | _,_=>false
theorem ysW {A:Around}{s:Shared}{y x:V}{u v:Value}(ry:RelV y u) (rx:RelV x v) (fy:ygc y=true) (fx:ygc x=true):SeqAt.EqAt A s u v (eqV y x):=by
 cases y with
 | non =>
  cases ry
  cases x with
  | non=>cases rx;exact SeqAt.EqAt.same _
  | bl b=>cases rx;exact SeqAt.EqAt.none_bool b
  | int b=>obtain ⟨t,rfl⟩:=rx;exact SeqAt.EqAt.none_int b t
  | str b=>obtain ⟨t,rfl⟩:=rx;exact SeqAt.EqAt.none_str b t
  | _=>exact absurd (show false=true from fx) Bool.false_ne_true
 | bl a =>
  cases ry
  cases x with
  | non=>cases rx;exact SeqAt.EqAt.bool_none a
  | bl b=>cases rx;exact SeqAt.EqAt.bool_bool a b
  | int b=>obtain ⟨t,rfl⟩:=rx;exact SeqAt.EqAt.bool_int a b t
  | str b=>obtain ⟨t,rfl⟩:=rx;exact SeqAt.EqAt.bool_str a b t
  | _=>exact absurd (show false=true from fx) Bool.false_ne_true
 | int a =>
  obtain ⟨t',rfl⟩:=ry
  cases x with
  | non=>cases rx;exact SeqAt.EqAt.int_none a t'
  | bl b=>cases rx;exact SeqAt.EqAt.int_bool a t' b
  | int b=>obtain ⟨t,rfl⟩:=rx;exact SeqAt.EqAt.int_int a t' b t
  | str b=>obtain ⟨t,rfl⟩:=rx;exact SeqAt.EqAt.int_str a t' b t
  | _=>exact absurd (show false=true from fx) Bool.false_ne_true
 | str a =>
  obtain ⟨t',rfl⟩:=ry
  cases x with
  | non=>cases rx;exact SeqAt.EqAt.str_none a t'
  | bl b=>cases rx;exact SeqAt.EqAt.str_bool a t' b
  | int b=>obtain ⟨t,rfl⟩:=rx;exact SeqAt.EqAt.str_int a t' b t
  | str b=>obtain ⟨t,rfl⟩:=rx;exact SeqAt.EqAt.str_str a t' b t
  | _=>exact absurd (show false=true from fx) Bool.false_ne_true
 | _=>exact absurd (show false=true from fy) Bool.false_ne_true
def eqU (x:V) (u:Value):Bool:=match u with
 | .none=>eqV .non x
 | .bool b=>eqV (.bl b) x
 | .int i _=>eqV (.int i) x
 | .str z _=>eqV (.str z) x
 | _=>false
theorem ysX {x y:V}{u:Value}(r:RelV y u) (f:ygc y=true):eqU x u=eqV y x:=by
 cases y with
 | non=>cases r;rfl
 | bl b=>cases r;rfl
 | int i=>obtain ⟨t,rfl⟩:=r;rfl
 | str z=>obtain ⟨t,rfl⟩:=r;rfl
 | _=>exact absurd (show false=true from f) Bool.false_ne_true
theorem ylx {x:V}:∀ {xs:List V}{us:List Value},Vals xs us->xs.all ygc=true->us.any (eqU x)=xs.any fun y=>eqV y x
 | _,_,.nil,_=>rfl
 | y::xs,u::us,.cons r t,f=>by
  rw [List.all_cons,and_eq_true] at f
  rw [any_cons,any_cons,ysX r f.1,ylx t f.2]
theorem yiP {A:Around}{s:Shared}{x:V}{v:Value}(rx:RelV x v) (fx:ygc x=true):∀ {xs:List V}{us:List Value},Vals xs us->xs.all ygc=true->∀ u∈us,SeqAt.EqAt A s u v (eqU x u)
 | _,_,.nil,_=>fun u hu=>by cases hu
 | y::xs,u::us,.cons r t,f=>fun u' hu=>by
  rw [List.all_cons,and_eq_true] at f
  rcases mem_cons.mp hu with rfl|hu
  .rw [ysX r f.1];exact ysW r rx f.1 fx
  .exact yiP rx fx t f.2 u' hu
def inV (x:V) (xs:List V):Bool:=xs.any fun y=>eqV y x
def rIn (K:PySem.W.Frag) (neg:Bool):R2:=fun x y H Q=>∃ p xs,y=.ref p/\(SqL K H p xs\/SqT K H p xs)/\ygc x=true/\xs.all ygc=true/\Q (.bl (if neg then !inV x xs else inV x xs)) H
theorem yjV:OpR X (compareOp .In) (rIn X.K false):=by
 intro pins s σ H x y v u Q I rx ry h
 obtain ⟨p,xs,rfl,hq,fx,fs,q⟩:=h
 cases ry
 rcases hq with hq|hq
 .obtain ⟨its,r,pl,hz⟩:=I.list hq
  refine SeqAt.in_listAt (eqU x) pl.isList (fun w hw=>yiP rx fx r fs w (by simpa using hw)) ⟨.bl _,H,I,rfl,?_⟩
  rw [show its.toArray.any (eqU x)=its.any (eqU x) by simp,ylx r fs]
  exact q
 .obtain ⟨its,r,pl,hz⟩:=I.tuple hq
  refine SeqAt.in_tupleAt (eqU x) pl (fun w hw=>yiP rx fx r fs w (by simpa using hw)) ⟨.bl _,H,I,rfl,?_⟩
  rw [show its.toArray.any (eqU x)=its.any (eqU x) by simp,ylx r fs]
  exact q
theorem yn:yfP X (.builtin "len") (fun xs H Q=>∃ p ys,xs=[.ref p]/\(SqL X.K H p ys\/SqT X.K H p ys)/\Q (.int ys.length) H):=by
 intro pins s σ H xs us Q I r h
 obtain ⟨p,ys,rfl,hq,q⟩:=h
 obtain ⟨u,rfl,rx⟩:=vals1 r
 cases rx
 have hn:=yik
 rcases hq with hq|hq
 .obtain ⟨its,r',pl,hz⟩:=I.list hq
  have hlen:=r'.length
  exact Calls.call_len_list pl.isList (by simp only [size_toArray]<;>omega) ⟨.int ys.length,H,I.tok _,⟨s.toks+1,by rw [size_toArray,hlen]⟩,q⟩
 .obtain ⟨its,r',pl,hz⟩:=I.tuple hq
  have hlen:=r'.length
  exact len_tuple pl (by simp only [size_toArray]<;>omega) ⟨.int ys.length,H,I.tok _,⟨s.toks+1,by rw [size_toArray,hlen]⟩,q⟩
theorem ydP:yfP X (.builtin "len") (fun xs H Q=>∃ z,xs=[.str z]/\z.length<=sizeLine/\Q (.int z.length) H):=by
 intro pins s σ H xs us Q I r h
 obtain ⟨z,rfl,hz,q⟩:=h
 obtain ⟨u,rfl,t,rfl⟩:=vals1 r
 have hn:=yik
 exact len_str (by omega) ⟨.int z.length,H,I.tok _,⟨_,rfl⟩,q⟩
theorem yM:yfP X (.type "list") (fun xs H Q=>∃ p ys,xs=[.ref p]/\(SqL X.K H p ys\/SqT X.K H p ys)/\∀ l,H l=none->Q (.ref l) (upd H l (.lst ys))):=by
 intro pins s σ H xs us Q I r h
 obtain ⟨p,ys,rfl,hq,q⟩:=h
 obtain ⟨u,rfl,rx⟩:=vals1 r
 cases rx
 have fin:∀ (its:List Value),Vals ys its->ys.length<=sizeLine->∀ (h':Heap) (c':Nat),(∀ b o',s.heap.get? b=some o'->h'.get? b=some o') ->
   h'.get? s.heap.objs.size=some { cls:=.type "list",dict:=none,data:=.seq its.toArray c',slots:=#[] }->EP X pins σ Q (.ref s.heap.objs.size) { s with heap:=h' }:=fun its r' hz h' c' kp e =>
  ⟨.ref s.heap.objs.size,_,I.laid (t':=s.toks) kp (Nat.le_refl _) (show ObjOk X.prog X.w _ h' _ (.lst ys) from ⟨hz,its,c',r',e⟩),rfl,q _ (I.hok.fresh (Nat.le_refl _))⟩
 rcases hq with hq|hq
 .obtain ⟨its,r',pl,hz⟩:=I.list hq
  have hlen:=r'.length
  obtain ⟨o,ho,hc,n,hd⟩:=pl.isList
  exact call_list_seq p (.inl rfl) ho hc hd (fun h' c' kp e=>fin its r' hz h' c' kp e) (by simp only [size_toArray]<;>omega)
 .obtain ⟨its,r',pl,hz⟩:=I.tuple hq
  have hlen:=r'.length
  obtain ⟨o,ho,hc,n,hd⟩:=pl
  exact call_list_seq p (.inr rfl) ho hc hd (fun h' c' kp e=>fin its r' hz h' c' kp e) (by simp only [size_toArray]<;>omega)
def tyV (K:PySem.W.Frag) (T:String) (x:V) (H:Hp):Prop:=match x with
 | .str _=>T = "str"
 | .int _=>T = "int"
 | .ref p=>(T = "list"/\∃ xs,SqL K H p xs)\/(T = "tuple"/\∃ o,K.lookup p=some o/\o.cls=.type "tuple"/\o.dict=none) \/
   (T = "dict"/\((∃ kvs,H p=some (.dK kvs))\/∃ kvs,H p=some (.dT kvs)))\/(T = "set"/\∃ S n,H p=some (.set S n))
 | _=>False
theorem ysY {pins:List (Addr×Obj)}{σ:St}{H:Hp}{s:Shared}{T:String}{x:V}{v:Value}(I:Inv X pins σ H s) (r:RelV x v) (ty:tyV X.K T x H) :
  s.TypeIs v T/\∀ a,v=.ref a->∃ ob,s.heap.get? a=some ob/\ob.dict=none:=by
 cases x with
 | str z =>
  obtain ⟨t,rfl⟩:=r
  cases (show T = "str" from ty)
  exact ⟨typeIs_str s z t,fun _ e=>nomatch e⟩
 | int i =>
  obtain ⟨t,rfl⟩:=r
  cases (show T = "int" from ty)
  exact ⟨typeIs_int s i t,fun _ e=>nomatch e⟩
 | ref p =>
  cases r
  rcases ty with ⟨rfl,xs,hq⟩|⟨rfl,o,hk,hc,hd⟩|⟨rfl,hk⟩|⟨rfl,S,n,hk⟩
  .obtain ⟨its,_,pl,_⟩:=I.list hq
   refine ⟨pl.isList.typeIs,fun a e=>?_⟩
   cases e
   obtain ⟨o,n,e,c,hd,_⟩:=pl
   exact ⟨o,e,hd⟩
  .refine ⟨⟨o,I.kIn p o hk,hc⟩,fun a e=>?_⟩
   cases e
   exact ⟨o,I.kIn _ o hk,hd⟩
  .have z:∃ o,s.heap.get? p=some o/\o.ExactDict:=by
    rcases hk with ⟨kvs,hk⟩|⟨kvs,hk⟩
    .obtain ⟨_,_,_,_,o,_,_,e,ex,_⟩:=I.hok p _ hk
     exact ⟨o,e,ex⟩
    .obtain ⟨_,_,_,_,o,_,_,e,ex,_⟩:=I.hok p _ hk
     exact ⟨o,e,ex⟩
   obtain ⟨o,e,ex⟩:=z
   refine ⟨⟨o,e,ex.1⟩,fun a e2=>?_⟩
   cases e2
   exact ⟨o,e,ex.2.1⟩
  .obtain ⟨o,_,_,_,e,ex,_⟩:=I.hok p _ hk
   refine ⟨⟨o,e,ex.1⟩,fun a e2=>?_⟩
   cases e2
   exact ⟨o,e,ex.2.1⟩
 | _=>exact False.elim ty
def yAy (K:PySem.W.Frag) (T:String) (r:V->List V->Hp->VK->Prop) (to:TE):TE:=fun σ H Q=>to σ H fun x H1=>tyV K T x H1/\r x [] H1 Q
def tBM (K:PySem.W.Frag) (T:String) (r:V->List V->Hp->VK->Prop) (to:TE) (t:TA):TE:=fun σ H Q=>to σ H fun x H1=>tyV K T x H1/\t σ H1 fun xs H2=>r x xs H2 Q
variable {o e:Expr}{es:List Expr}{to:TE}{t:TA}{name:Str}{apos cpos:Pos}{T id:String}{r:V->List V->Hp->VK->Prop}
theorem ywg (pa:PlainAttrs T) (slot:Slot T name id) (hty:typeOf (.builtin id)=pure (.type "method_descriptor")) (hm:MtR X id r) (ho:PE X o to)
  (hbase:attributeBase o name X.env (eval o X.env)=eval o X.env:=by rfl) (hline:(apos.endLine == cpos.line)=true:=by rfl):PE X (.Call (.Attribute o name apos) [] [] cpos) (yAy X.K T r to):=by
 intro pins s σ H Q I h
 refine wpAny_Call_method0_late hbase hline (thn (ho pins s σ H _ I h) fun v s1 ⟨x,H1,I1,r1,ty,q1⟩=>?_)
 obtain ⟨h1,h2⟩:=ysY I1 r1 ty
 exact ⟨T,id,pa,slot,hty,h1,h2,Calls.callWith_builtin rfl (PySem.evalArgs_none (hm pins s1 σ H1 x [] v [] Q I1 r1 .nil q1))⟩
theorem yqT (pa:PlainAttrs T) (slot:Slot T name id) (hty:typeOf (.builtin id)=pure (.type "method_descriptor")) (hm:MtR X id r) (ho:PE X o to) (ha:PA X (e::es) t)
  (hbase:attributeBase o name X.env (eval o X.env)=eval o X.env:=by rfl)
  (hfew:((backTo cpos (starEach (e::es) X.env)).all (fun x=>!x.1) && (backToKw cpos (keywordEach [] X.env)).all (fun x=>x.1.isSome)
   && decide ((e::es).length+([]:List Keyword).length+(if ([]:List Keyword).isEmpty then 0 else 1)<30))=true:=by rfl)
  (hline:(apos.endLine == cpos.line)=true:=by rfl) (hs:starEach (e::es) X.env=(false,eval e X.env)::starEach es X.env:=by rfl) (hplain:(backTo cpos (starEach es X.env)).any (·.1)=false:=by rfl) :
  PE X (.Call (.Attribute o name apos) (e::es) [] cpos) (tBM X.K T r to t):=by
 intro pins s σ H Q I h
 refine wpAny_Call_method_late hbase hfew hline rfl (thn (ho pins s σ H _ I h) fun v s1 ⟨x,H1,I1,r1,ty,q1⟩=>?_)
 obtain ⟨h1,h2⟩:=ysY I1 r1 ty
 refine ⟨T,id,pa,slot,hty,h1,h2,?_⟩
 have hA:=ha cpos pins s1 σ H1 _ I1 q1
 rw [hs] at hA ⊢
 refine Calls.callWith_builtin (by show (false || (backTo cpos (starEach es X.env)).any (·.1))=false;rw [hplain]<;>rfl) (Calls.evalArgs_plain ?_)
 exact thn hA fun us s2 ⟨vs,H2,I2,r2,q2⟩=>hm pins s2 σ H2 x vs v us Q I2 r1 r2 q2
end
end L2
namespace L2
open PySem PySem.Spec PyProof.Rows
def MtM (X:Cx) (id:String) (r:V->List V->Hp->VK->Prop):Prop :=
 ∀ (pins:List (Addr×Obj)) (s:Shared) (σ:St) (H:Hp) (x:V) (xs:List V) (v:Value) (us:List Value) (Q:VK),Inv X pins σ H s->RelV x v->Vals xs us->r x xs H Q ->
  wpAny (model X.prog X.w) X.A (call (.builtin id) (v::us)) (EP X pins σ Q) X.xe s
theorem Vals.one:∀ {x:V}{us:List Value},Vals [x] us->∃ u,us=[u]/\RelV x u
 | _,_,.cons r .nil=>⟨_,rfl,r⟩
theorem Vals.zero:∀ {us:List Value},Vals [] us->us=[]
 | _,.nil=>rfl
theorem Vals.rep {xs:List V}{us:List Value}(h:Vals xs us):∀ k:Nat,Vals (replicate k xs).flatten (replicate k us).flatten
 | 0=>.nil
 | k+1=>by
  rw [List.replicate_succ,List.replicate_succ,List.flatten_cons,List.flatten_cons]
  exact Vals.append h (Vals.rep h k)
theorem foldl_rep (its:List Value):∀ (k:Nat) (acc:List Value),
  List.foldl (fun x1 x2=>x1++x2) acc.toArray (replicate k its.toArray)=(acc++(replicate k its).flatten).toArray
 | 0,acc=>by simp
 | k+1,acc=>by
  have e:acc.toArray++its.toArray=(acc++its).toArray:=by simp
  have e2:(acc++its)++(replicate k its).flatten=acc++(replicate (k+1) its).flatten:=by
   rw [List.replicate_succ,List.flatten_cons,append_assoc]
  rw [<- e2,<- foldl_rep its k (acc++its),<- e,List.replicate_succ,List.foldl_cons]
section
variable {X:Cx}{pins:List (Addr×Obj)}{σ:St}{H:Hp}{s:Shared}{l b:Addr}{xs ys zs:List V}
theorem Inv.lset {its its':List Value}{n:Nat}{f:Array Value->Array Value}{t':Nat}(I:Inv X pins σ H s) (hH:H l=some (.lst xs))
  (e:s.heap.get? l=some { cls:=.type "list",data:=.seq its.toArray n }) (hf:f its.toArray=its'.toArray) (hv:Vals ys its') (hz:ys.length<=sizeLine) :
  Inv X pins σ (upd H l (.lst ys)) { s with heap:=s.heap.update l (Obj.mapSeq f),toks:=t' }:=by
 have q:=PySem.IsL.update e f
 rw [hf] at q
 refine I.write (x:=l) (e:=l) (by rw [hH];exact trivial) (.inl rfl) (fun b' u hb hu=>(Heap.get?_update_other s.heap (Obj.mapSeq f) (Ne.symm hb)).trans hu) ⟨_,q⟩ ?_
 exact ⟨hz,its',_,hv,q⟩
theorem Inv.lnew {its:List Value}{t':Nat}(I:Inv X pins σ H s) (hv:Vals ys its) (hz:ys.length<=sizeLine) :
  Inv X pins σ (upd H s.heap.objs.size (.lst ys)) { s with heap:=s.heap.push { cls:=.type "list",data:=.seq its.toArray },toks:=t' } :=
 I.laid (fun _ _ q=>Heap.get?_push_of_some _ q) (Nat.le_refl _) ⟨hz,its,0,hv,Heap.get?_push_size _ rfl⟩
theorem Inv.fresh (I:Inv X pins σ H s):H s.heap.objs.size=none:=I.hok.fresh (Nat.le_refl _)
theorem Inv.lstM (I:Inv X pins σ H s) (hH:H l=some (.lst xs)):xs.length<=sizeLine/\∃ (its:List Value) (n:Nat),Vals xs its/\xs.length=its.length/\s.heap.get? l=some { cls:=.type "list",data:=.seq its.toArray n }:=by
 obtain ⟨z,its,n,r,e⟩:=I.hok l _ hH
 exact ⟨z,its,n,r,r.length,e⟩
theorem ymM {n:Nat}(h:n<=sizeLine):Builtin.List.listTooLong n=false:=by
 unfold Builtin.List.listTooLong
 exact decide_eq_false (by omega)
end
section
variable {X:Cx}
noncomputable def yly:V->List V->Hp->VK->Prop:=fun x vs H Q=>∃ l xs y,x=.ref l/\vs=[y]/\H l=some (.lst xs)/\xs.length<sizeLine/\Q .non (upd H l (.lst (xs++[y])))
theorem ycW:MtM X "list.append" yly:=by
 intro pins s σ H x vs v us Q I rx rv h
 obtain ⟨l,xs,y,rfl,rfl,hH,hz,q⟩:=h
 cases rx
 obtain ⟨u,rfl,ru⟩:=rv.one
 obtain ⟨z,its,n,r,hl,e⟩:=I.lstM hH
 refine call_meets F.slot_list_append ⟨_,e,rfl⟩ F.entry_list_append (F.args_list_append_2 _ _) (PySem.list_append l its.toArray n u (by rw [size_toArray];omega)) ⟨e,?_⟩
 refine ⟨.non,_,I.lset (its':=its++[u]) hH e (by simp) (r.append (.cons ru .nil)) ?_,rfl,q⟩
 rw [length_append,List.length_singleton]
 omega
noncomputable def yoN:V->List V->Hp->VK->Prop:=fun x vs H Q=>∃ l b xs zs,x=.ref l/\vs=[.ref b]/\H l=some (.lst xs)/\H b=some (.lst zs)/\xs.length+zs.length<=sizeLine/\Q .non (upd H l (.lst (xs++zs)))
theorem yoO:MtM X "list.extend" yoN:=by
 intro pins s σ H x vs v us Q I rx rv h
 obtain ⟨l,b,xs,zs,rfl,rfl,hH,hB,hz,q⟩:=h
 cases rx
 obtain ⟨u,rfl,ru⟩:=rv.one
 cases ru
 obtain ⟨z,its,n,r,hl,e⟩:=I.lstM hH
 obtain ⟨z2,its2,n2,r2,hl2,e2⟩:=I.lstM hB
 have hsz:its.toArray.size+its2.toArray.size<=sizeLine:=by rw [size_toArray,size_toArray];omega
 have hlong:¬ (!its.toArray.isEmpty && Builtin.List.listTooLong (its.toArray.size+its2.toArray.size))=true:=by
  rw [ymM hsz,Bool.and_false]
  exact Bool.false_ne_true
 refine call_meets F.slot_list_extend ⟨_,e,rfl⟩ F.entry_list_extend (F.args_list_extend_2 _ _)
  (AutoSeq1.list_extend_list_list_0 l its.toArray n b its2.toArray n2 hlong (by rw [size_toArray];omega) (by omega)) ⟨e,e2,?_⟩
 refine ⟨.non,_,I.lset (its':=its++its2) hH e (by simp) (r.append r2) ?_,rfl,q⟩
 rw [length_append]
 omega
noncomputable def yAz:R2:=fun x y H Q=>∃ l b xs zs,x=.ref l/\y=.ref b/\H l=some (.lst xs)/\H b=some (.lst zs)/\xs.length+zs.length<=sizeLine/\∀ p,H p=none->Q (.ref p) (upd H p (.lst (xs++zs)))
theorem ygd:OpR X (binaryOp .Add) yAz:=by
 intro pins s σ H x y v u Q I rx ry h
 obtain ⟨l,b,xs,zs,rfl,rfl,hH,hB,hz,q⟩:=h
 cases rx
 cases ry
 obtain ⟨z,its,n,r,hl,e⟩:=I.lstM hH
 obtain ⟨z2,its2,n2,r2,hl2,e2⟩:=I.lstM hB
 refine PySem.P.add_list e e2 ?_ (by rw [size_toArray,size_toArray];omega)
 have ea:its.toArray++its2.toArray=(its++its2).toArray:=by simp
 rw [ea]
 exact ⟨.ref _,_,I.lnew (t':=s.toks) (r.append r2) (by rw [length_append];omega),rfl,q _ I.fresh⟩
noncomputable def yAA:R2:=fun x y H Q=>∃ l k xs,x=.ref l/\y=.int k/\H l=some (.lst xs)/\-(2 ^ 63)<=k/\k<2 ^ 63/\xs.length*k.toNat<=sizeLine /\
 ∀ p,H p=none->Q (.ref p) (upd H p (.lst (replicate k.toNat xs).flatten))
theorem len_rep {α:Type}(xs:List α) (k:Nat):(replicate k xs).flatten.length=k*xs.length:=by
 induction k with
 | zero=>simp
 | succ k ih=>rw [List.replicate_succ,List.flatten_cons,length_append,ih,Nat.succ_mul,Nat.add_comm]
theorem yjW:OpR X (binaryOp .Mult) yAA:=by
 intro pins s σ H x y v u Q I rx ry h
 obtain ⟨l,k,xs,rfl,rfl,hH,h1,h2,hz,q⟩:=h
 cases rx
 obtain ⟨t,rfl⟩:=ry
 obtain ⟨z,its,n,r,hl,e⟩:=I.lstM hH
 have hlen:its.toArray.size*k.toNat<=sizeLine:=by rw [size_toArray,<- hl];exact hz
 have hcap:¬ its.toArray.size*k.toNat>(2 ^ 63-1)/8:=by
  have:(sizeLine:Nat)<=(2 ^ 63-1)/8:=by decide
  omega
 have hfit:¬ (!Builtin.List.listFitsIndex k)=true:=by
  rw [fitsIndex_both h1 h2]
  exact Bool.false_ne_true
 have hlong:¬ Builtin.List.listTooLong (its.toArray.size*k.toNat)=true:=by
  rw [ymM hlen]
  exact Bool.false_ne_true
 have hnew:List.foldl (fun x1 x2=>x1++x2) #[] (replicate (if its.toArray.isEmpty=true then 0 else k.toNat) its.toArray)=(replicate k.toNat its).flatten.toArray:=by
  have f0:∀ m:Nat,List.foldl (fun x1 x2=>x1++x2) #[] (replicate m its.toArray)=(replicate m its).flatten.toArray:=fun m=>by
   have:=foldl_rep its m []
   rw [List.nil_append] at this
   exact this
  rw [f0]
  cases its with
  | nil=>simp
  | cons a r'=>rw [if_neg (by simp)]
 refine wpAny_binaryOp_repeat_ref (T:="list") (U:="int") (by decide) ⟨_,e,rfl⟩ (fun s'=>typeIs_int s' k t) noFill_list_mul F.fills_int_mul F.slot_int_rmul repeat_list F.slot_int_index.lookup
  (call_meets F.slot_int_rmul (typeIs_int s k t) F.entry_int_rmul (F.args_int_rmul_2 _ _) (int___rmul___int_list k t l its.toArray n)
   ⟨e,rfl,⟨_,e,rfl⟩,call_meets F.slot_list_mul ⟨_,e,rfl⟩ F.entry_list_mul (F.args_list_mul_2 _ _) (AutoListH.list___mul___list_int_3 l its.toArray n k t hfit hcap hlong) ⟨e,?_⟩⟩)
 rw [hnew]
 exact ⟨.ref _,_,I.lnew (t':=s.toks) (r.rep k.toNat) (by rw [len_rep,Nat.mul_comm];exact hz),rfl,q _ I.fresh⟩
end
section
variable {prog:Program}{w:World}{A:Around}{E:Value->Shared->Prop}{s:Shared}
end
section
variable {X:Cx}
end
end L2
namespace Att
open PySem PySem.W PySem.Calls PyProof.Rows
theorem yhu {P:Params}{h:Heap}:∀ (ns:List Int) (vs:List Value),WellAll P h vs (ns.map WData.int)->IntsAre vs ns:=by
 intro ns
 induction ns with
 | nil =>
  intro vs w
  rw [map_nil] at w
  cases w
  exact .nil
 | cons n ns ih =>
  intro vs w
  rw [map_cons] at w
  cases w with
  | cons a b =>
   cases a
   exact .cons _ _ (ih _ b)
theorem yoP {l:OpenLaw}{n:Nat}(hn:l.most=some n) {P:Params}{h:Heap}{args:List WData}{vals:List Value}
  (hpre:l.row.toRowW.claim.pre args=true) (hwl:WellAll P h vals args) :
  ∃ a vs ns,vals=[Value.ref a]/\args=[WData.list (ns.map WData.int)]/\h.get? a=some { cls:=.type "list",data:=.seq vs.toArray }/\IntsAre vs ns/\ns.length<=n:=by
 have hsh:WShape.hasAll [] args [.list .int]=true:=(pre_splitW hpre).1
 have hc:l.pre.holds [] { args:=args }=true:=(pre_splitW hpre).2
 obtain ⟨d,r,rfl,h1,h2⟩:=hasAllW_cons hsh
 obtain rfl:=hasAllW_nil h2
 obtain ⟨xs,rfl,h3⟩:=hasW_list h1
 obtain ⟨ns,rfl⟩:=items_int h3
 have hlen:ns.length<=n:=by
  unfold OpenLaw.pre at hc
  have h4:(WTm.not (.lt (.lit (.int (n:Int))) (.len (.arg 0)))).holds [] { args:=[.list (ns.map .int)] }=true:=by
   have h4:=(holds_andW hc).1
   rw [hn] at h4
   exact h4
  have h5:=condW_of h4 (w_not (w_lt w_lit (w_len_list (w_arg rfl))))
  rw [length_map] at h5
  refine Nat.le_of_not_lt fun q=>?_
  have q':(n:Int)<((ns.length:Nat):Int):=by omega
  first
   | (rw [decide_eq_true q'] at h5;exact absurd h5 (by decide))
   | (simp at h5;omega)
 cases hwl with
 | cons w1 w2 =>
  cases w2
  cases w1 with
  | list ho hall=>exact ⟨_,_,ns,rfl,rfl,ho,yhu ns _ hall,hlen⟩
theorem yoQ (l:OpenLaw) (args:List WData):l.row.toRowW.claim.post args (.bool true) args=true :=
 postW_of (r:=l.row.toRowW) (X:=(true == true))
  (show WShape.has [] (.bool true) .bool=true by first|rfl|decide|simp [WShape.has,WShape.arms,WShape.armsAll])
  (show (WTm.eq .res (.lit (.bool true))).value [] { args:=args,res:=some (.bool true),after:=args }=some (.bool (true == true)) from w_eq_bool (w_res rfl) w_lit) rfl
theorem attach_call {l:OpenLaw}{n:Nat}{q:Program}{loose:List Str}{XP:(Str->Option Value)->Heap->Prop}{YP:World->Heap->Prop}{d:DefRec}
  (hn:l.most=some n) (hdf:d.params.defaults=[])
  (call:∀ (w:World) (s₀ s₁:Shared) (mg mb:Str->Option Value) (fa:Addr) (o:Obj) (pm cd doc:Value) (a:Addr) (vs:List Value) (ns:List Int),
   Ground q loose [] XP w s₀ mg mb s₁.heap->YP w s₁.heap ->
   s₁.heap.get? fa=some o->o.data=.func (docDef d.name d.params d.body d.scope pm cd doc)->s₁.heap.CodeRec cd d.name->mg d.name=some (.ref fa) ->
   s₁.heap.get? a=some { cls:=.type "list",data:=.seq vs.toArray }->IntsAre vs ns->ns.length<=n->s₁.gens = #[] ->
   codeAny (model l.prog w) callerA (.call (.ref fa) ⟨[.ref a],[]⟩) (fun r s'=>r=.ok (.ret (.bool true))/\OldK s₁.heap s'.heap/\s'.os=s₁.os/\AllBare s'.gens) s₁) :
  WalkO q loose XP YP l.row.toRowW d [] (fun f vs=>PySem.call f vs):=by
 intro w s₀ s₁ mg mb G Y fa o pm cd doc dV kV ho hd hcd hD hmg hg args vals as hpre hlay hrd hwl hlo
 obtain rfl:dV=.none:=Dflts.none hD hdf
 obtain rfl:kV=.none:=Dflts.noKw hD
 obtain ⟨a,vs,ns,rfl,rfl,hobj,hints,hlen⟩:=yoP hn hpre hwl
 refine enter_call (codeAny_mono (call w s₀ s₁ mg mb fa o pm cd doc a vs ns G Y ho (fd_plain hd) hcd hmg hobj hints hlen hg) fun r s' hq=>?_)
 obtain ⟨rfl,h2,h3,h4⟩:=hq
 exact ⟨.inl ⟨.bool true,.bool true,[],rfl,fun _=>rfl,.bool true,yoQ l _,fun _=>⟨List.Pairwise.nil,fun _ hm=>(nomatch hm)⟩⟩,h2,h3,h4⟩
section
variable {prog:Program}{w:World}{A:Around}{E:Value->Shared->Prop}{s:Shared}{K:Frag}
end
end Att
namespace L2
open PySem PySem.Spec PyProof.Rows
theorem yhv:∀ {vs:List Value}{ns:List Int},IntsAre vs ns->Vals (ns.map V.int) vs
 | _,_,.nil=>.nil
 | _,_,.cons n t h=>.cons ⟨t,rfl⟩ (yhv h)
def yyF (H:Hp):Prop:=∀ b,H b=none\/∃ o xs,H b=some (.frz o (.lst xs))
theorem yqU {P:Program}{w:World}{K:PySem.W.Frag}{mg mb:Str->Option Value}{CX:CXT}{k:Nat}{fa a:Addr}{fd:FuncData}{x:Str}{sp:Sp}{s₁:Shared}{vs:List Value}{ns:List Int}
  (KX:K.In s₁.heap) (hns:s₁.heap.Ns mainGlobals mg) (hb:s₁.heap.Ns builtinsNs mb) (hbb:∀ x:Str,x≠"__name__"->mb x=bootBuiltins x) (hlim:s₁.heap.NoLimit) (hg:s₁.gens = #[])
  (ha:s₁.heap.get? a=some { cls:=.type "list",data:=.seq vs.toArray }) (hi:IntsAre vs ns) (hl:ns.length<=sizeLine) (hr:Room k callerA)
  (F:∀ base:Heap,K.In base->base.Ns mainGlobals mg->FnOk P w K mg base CX k fa fd [x] sp) (hbind:∀ (s:Shared) (u:Value),BindsTo s fd ⟨[u],[]⟩ [(x,u)])
  (hsp:∀ H:Hp,yyF H->SqL K H a (ns.map V.int)->sp [.ref a] H (fun v _=>v=.bl true) fun _ _ _=>False)
  (hCX:∀ H e s',CX [] H s₁ (fun _ _ _=>False) e s'->False) :
  codeAny (model P w) callerA (.call (.ref fa) ⟨[.ref a],[]⟩) (fun r s'=>r=.ok (.ret (.bool true))/\OldK s₁.heap s'.heap/\s'.os=s₁.os/\AllBare s'.gens) s₁:=by
 have rv:=yhv hi
 have lenV:=hi.length
 have core:∀ H:Hp,yyF H->SqL K H a (ns.map V.int)->HOk P w H s₁.heap->(∀ b,H b≠none->b=a)->(H a≠none->K.lookup a=none) ->
   codeAny (model P w) callerA (.call (.ref fa) ⟨[.ref a],[]⟩) (fun r s'=>r=.ok (.ret (.bool true))/\OldK s₁.heap s'.heap/\s'.os=s₁.os/\AllBare s'.gens) s₁:=by
  intro H hO hS hok hA hK
  have base_of:∀ {b:Addr}{o:Obj},s₁.heap.get? b=some o->H b=none->(yqH s₁.heap H).get? b=some o:=fun e n=>yqI e n
  have noA:∀ {b:Addr}{o:Obj}{es:Array DictEntry}{ep:Nat},s₁.heap.get? b=some o->o.data=.dict es ep->H b=none:=fun {b o es ep} e d=>by
   cases q:H b with
   | none=>rfl
   | some u =>
    have e':b=a:=hA b (by rw [q];simp)
    subst e'
    rw [ha] at e;cases e
    have d':Data.seq vs.toArray _=Data.dict es ep:=d
    cases d'
  have nsK:∀ {b:Addr}{m:Str->Option Value},s₁.heap.Ns b m->(yqH s₁.heap H).Ns b m:=fun {b m} ⟨o,es,ep,e,d,r⟩=>⟨o,es,ep,base_of e (noA e d),d,r⟩
  have hKb:K.In (yqH s₁.heap H):=fun b o e=>base_of (KX b o e) (by
   cases q:H b with
   | none=>rfl
   | some u =>
    have e':b=a:=hA b (by rw [q];simp)
    subst e'
    rw [hK (by rw [q];simp)] at e;cases e)
  have hM:Mod K mg (yqH s₁.heap H):=⟨hKb,nsK hns,⟨mb,nsK hb,hbb⟩,let ⟨mc,h1,h2⟩:=hlim;⟨mc,nsK h1,h2⟩⟩
  have e0:Env0 P w K mg (yqH s₁.heap H) callerA [] s₁ H:=⟨rfl,hM,fun b o e=>ytB e,le_of_eq (yon _ _),trivial,fun b hb=>absurd (show b∈([]:List Addr) from hb) (by simp),hok,.of_eq hg⟩
  refine codeAny_mono ((F _ hKb (nsK hns)).run callerA [] s₁ H ⟨[.ref a],[]⟩ [.ref a] [.ref a] _ _ hr e0 (hbind s₁ (.ref a)) (.cons rfl .nil) (hsp H hO hS)) fun r s' h=>?_
  cases r with
  | error e=>exact (hCX H e s' h).elim
  | ok fl =>
   cases fl with
   | next=>exact False.elim h
   | brk=>exact False.elim h
   | cont=>exact False.elim h
   | ret u =>
    obtain ⟨v,H',os,bare,un,hok',r',q⟩:=h
    have q':v=.bl true:=q
    subst q'
    obtain rfl:u=Value.bool true:=r'
    refine ⟨rfl,OldK.of_keep fun b o e=>?_,os,bare⟩
    cases q:H b with
    | none=>exact un.keep b o e q (by intro z;exact absurd (show b∈([]:List Addr) from z) (by simp)) (by simp)
    | some u =>
     rcases hO b with z|⟨ob,xs,z⟩
     .rw [q] at z;cases z
     .have z2:=un.frzs b ob _ z
      obtain ⟨e1,_⟩:=hok b _ z
      obtain ⟨e2,_⟩:=hok' b _ z2
      rw [e] at e1;cases e1
      exact e2
 cases hk:K.lookup a with
 | some o =>
  have e:=KX a o hk
  rw [ha] at e
  cases e
  refine core (fun _=>none) (fun _=>.inl rfl) (.inr ⟨_,vs.toArray,_,hk,rfl,rfl,rfl,by rw [size_toArray,lenV];exact hl,by simpa using rv⟩) (fun b u z=>by have z':(none:Option HO)=some u:=z;cases z') (fun b z=>absurd rfl z) fun z=>absurd rfl z
 | none =>
  refine core (fun b=>if b=a then some (.frz { cls:=.type "list",data:=.seq vs.toArray } (.lst (ns.map V.int))) else none) (fun b=>?_) (.inl (.inr ⟨{ cls:=.type "list",data:=.seq vs.toArray },if_pos rfl⟩)) (fun b u z=>?_) (fun b z=>?_) fun _=>hk
  .by_cases hb:b=a
   .exact .inr ⟨_,_,if_pos hb⟩
   .exact .inl (if_neg hb)
  .by_cases hb:b=a
   .have z':=(if_pos hb).symm.trans z
    cases z'
    subst hb
    exact ⟨ha,by rw [length_map];exact hl,vs,_,rv,ha⟩
   .have z':=(if_neg hb).symm.trans z
    cases z'
  .by_cases hb:b=a
   .exact hb
   .exact absurd (if_neg hb) z
end L2
namespace L2
open PySem PySem.Spec PyProof.Rows
theorem walk_of {l:PySem.W.OpenLaw}{n k:Nat}{q:Program}{loose:List Str}{XP:(Str->Option Value)->Heap->Prop}{YP:World->Heap->Prop}{d:DefRec}{K:Params->PySem.W.Frag}{CX:World->CXT}{sp:World->Sp}{x:Str}
  (hn:l.most=some n) (hn2:n<=sizeLine) (hdf:d.params.defaults=[]) (hr:Room k callerA)
  (hY:∀ (w:World) (h:Heap),YP w h->(K w.params).In h)
  (F:∀ (w:World) (mg:Str->Option Value) (fa:Addr) (h:Heap),(K w.params).In h->h.Ns mainGlobals mg->mg d.name=some (.ref fa) ->
   ∃ fd:FuncData,(∀ (s:Shared) (u:Value),BindsTo s fd ⟨[u],[]⟩ [(x,u)]) /\
    ∀ base:Heap,(K w.params).In base->base.Ns mainGlobals mg->FnOk l.prog w (K w.params) mg base (CX w) k fa fd [x] (sp w))
  (hsp:∀ (w:World) (H:Hp) (a:Addr) (ns:List Int),ns.length<=n->yyF H->SqL (K w.params) H a (ns.map V.int)->sp w [.ref a] H (fun v _=>v=.bl true) fun _ _ _=>False)
  (hCX:∀ (w:World) (H:Hp) (s:Shared) (e:Value) (s':Shared),CX w [] H s (fun _ _ _=>False) e s'->False) :
  PySem.W.WalkO q loose XP YP l.row.toRowW d [] (fun f vs=>PySem.call f vs):=by
 refine Att.attach_call hn hdf fun w s₀ s₁ mg mb fa o pm cd doc a vs ns G Y ho hd hcd hmg hobj hints hlen hg=>?_
 have KX:=hY w _ Y
 obtain ⟨fd,hb,hF⟩:=F w mg fa _ KX G.T.g hmg
 exact yqU KX G.T.g G.T.b G.T.builtins G.T.nolimit hg hobj hints (Nat.le_trans hlen hn2) hr hF hb (fun H hO hS=>hsp w H a ns hlen hO hS) fun H e s'=>hCX w H s₁ e s'
end L2
namespace L2
open PySem PySem.Spec PyProof.Rows
noncomputable def inClass (s:Stmt) (j:Nat):Stmt:=match s with
 | .ClassDef _ _ _ body _ _ _ _ _ _ _=>body.getD j (.Pass ⟨0,0,0,0⟩)
 | _=>.Pass ⟨0,0,0,0⟩
noncomputable def ylz (s:Stmt):Arguments:=match s with
 | .FunctionDef _ a _ _ _ _ _ _ _ _=>a
 | _=>{ posonlyargs:=[],args:=[],vararg:=none,kwonlyargs:=[],kw_defaults:=[],kwarg:=none,defaults:=[] }
def yeT (s:Stmt):List Stmt:=match s with
 | .FunctionDef _ _ b _ _ _ _ _ _ _=>b
 | _=>[]
noncomputable def ybs (s:Stmt):Scope:=match s with
 | .FunctionDef _ _ _ _ _ _ sc _ _ _=>sc
 | _=>{ kind:=.function,names:=[],isGenerator:=false,isCoroutine:=false }
abbrev CX0:CXT:=fun _ _ _ _ _ _=>False
abbrev E0:XK:=fun _ _ _=>False
theorem yib {X:Cx}:Passes CX0 X E0:=fun _ _ _ _ _ _ _ h=>h.elim
structure Fun (K:PySem.W.Frag) (x qual:Str) (st:Stmt) (f:Addr) (fd:FuncData):Prop where
 ex:∃ (oc:Value) (od:Option Addr) (kV doc pm:Value) (an:Option Addr) (cdv ct:Value) (osl:Array (Option Value)),
  fd=fnOf x qual (ylz st) (yeT st) (ybs st) .none kV doc pm an cdv ct/\K.lookup f=some ⟨oc,od,.func fd,osl⟩/\codeIn K cdv qual=true
 kp:keepIn K (.ref f)=true
section
variable {P:Program}{w:World}{K:PySem.W.Frag}{mg:Str->Option Value}{base:Heap}
theorem Fun.ok {x qual:Str}{st:Stmt}{f:Addr}{fd:FuncData}{N ps:List Str}{k:Nat}{sp:Sp}(F:Fun K x qual st f fd) (S:yed N ps (ybs st)) (len:∀ vs H Q E,sp vs H Q E->vs.length=ps.length)
  (hbody:∀ (cdv:Value) (A:Around) (outer:List Env) (s:Shared) (H:Hp) (vs:List V) (Q:VK) (E:XK),Room k (A.deeper (envOfC qual (ybs st) s.heap.objs.size f cdv))->sp vs H Q E ->
   ∃ t,PSs (ylv CX0 P w K mg base N qual (ybs st) f cdv A outer s H E).nox (yeT st) t/\t { nx:=fun _ H'=>Q .non H',rt:=Q } (start N vs) H):FnOk P w K mg base CX0 (k+1) f fd ps sp:=by
 obtain ⟨oc,od,kV,doc,pm,an,cdv,ct,osl,rfl,lk,hcd⟩:=F.ex
 refine ywd lk hcd S len fun A outer s H vs Q E hr hsp=>?_
 obtain ⟨t,h,q⟩:=hbody cdv A outer s H vs Q E hr hsp
 exact ⟨t,h.nox,q⟩
theorem fun_mk {x qual:Str}{st:Stmt}{f:Addr}{oc:Value}{od an:Option Addr}{osl:Array (Option Value)}{kV doc pm cdv ct:Value}(l:K.lookup f=some ⟨oc,od,.func (fnOf x qual (ylz st) (yeT st) (ybs st) .none kV doc pm an cdv ct),osl⟩)
  (c:codeIn K cdv qual=true) (k:keepIn K (.ref f)=true):Fun K x qual st f (fnOf x qual (ylz st) (yeT st) (ybs st) .none kV doc pm an cdv ct):=⟨⟨oc,od,kV,doc,pm,an,cdv,ct,osl,rfl,l,c⟩,k⟩
end
theorem yoR {n:Nat}(h:n<=1000):n<sizeLine:=Nat.lt_of_le_of_lt h (by decide)
section
variable {X:Cx}
end
def Same (H H':Hp):Prop:=∀ b o,H b=some o->H' b=some o
theorem Same.refl (H:Hp):Same H H:=fun _ _ h=>h
theorem Same.trans {H H1 H2:Hp}(a:Same H H1) (b:Same H1 H2):Same H H2:=fun c o h=>b c o (a c o h)
theorem Same.free {H H':Hp}(e:Same H H') {l:Addr}(h:H' l=Option.none):H l=Option.none:=by
 cases q:H l with
 | none=>rfl
 | some o =>
  rw [e l o q] at h
  cases h
theorem Same.seq {K:PySem.W.Frag}{H H':Hp}{a:Addr}{xs:List V}(e:Same H H') (h:SqL K H a xs):SqL K H' a xs:=by
 rcases h with (h|⟨o,h⟩)|h
 .exact .inl (.inl (e _ _ h))
 .exact .inl (.inr ⟨o,e _ _ h⟩)
 .exact .inr h
end L2
namespace L2
open PySem PySem.Spec PyProof.Rows
def cV:V->Option Value
 | .ty n=>some (.type n)
 | .ref a=>some (.ref a)
 | _=>none
def IsI (K:PySem.W.Frag) (H:Hp) (x c:V) (b:Bool):Prop:=∃ t u,ymI K H x t/\cV c=some u/\PySem.W.kitOne K t u=some b
theorem ylA {K:PySem.W.Frag}{H:Hp}{i:Int}:IsI K H (.int i) (.ty "int") true:=⟨_,_,.int i,rfl,by with_unfolding_all rfl⟩
theorem yjX {K:PySem.W.Frag}{H:Hp}{i:Int}:IsI K H (.int i) (.ty "bool") false:=⟨_,_,.int i,rfl,by with_unfolding_all rfl⟩
theorem ylB {K:PySem.W.Frag}{H:Hp}:IsI K H .non (.ty "int") false:=⟨_,_,.non,rfl,by with_unfolding_all rfl⟩
theorem ylC {K:PySem.W.Frag}{H:Hp}{i:Bool}:IsI K H (.bl i) (.ty "bool") true:=⟨_,_,.bl i,rfl,by with_unfolding_all rfl⟩
theorem ylD {K:PySem.W.Frag}{H:Hp}{i:Str}:IsI K H (.str i) (.ty "str") true:=⟨_,_,.str i,rfl,by with_unfolding_all rfl⟩
theorem yjY {K:PySem.W.Frag}{H:Hp}{a:Addr}{xs:List V}(e:H a=some (.lst xs)):IsI K H (.ref a) (.ty "list") true:=⟨_,_,.lst e,rfl,by with_unfolding_all rfl⟩
end L2
namespace L2
open PySem
abbrev yyG:R2:=rI0 fun i j=>.int (i+j)
abbrev yyH:R2:=rI0 fun i j=>.int (i-j)
abbrev yyI:R2:=rI CMul fun i j=>.int (i*j)
abbrev yyJ:R2:=rI yAr fun i j=>.int (i/j)
abbrev yyK:R2:=rI (fun _ j=>0<j) fun i j=>.int (i%j)
abbrev yyL:R2:=rI yyC fun i j=>.int (i ^ j.toNat)
abbrev yAU:R2:=rI0 fun i j=>.bl (decide (i<j))
abbrev yAV:R2:=rI0 fun i j=>.bl (decide (i<=j))
abbrev yAW:R2:=rI0 fun i j=>.bl (decide (j<i))
abbrev yyM:V->Hp->VK->Prop:=rU fun i=>.int (-i)
def yyN:R2:=fun x y H Q=>∃ i j,x=.str i/\y=.str j/\i.length+j.length<=sizeLine/\Q (.str (i++j)) H
def yAX:R2:=fun x y H Q=>y=.non/\Q (.bl (decide (x=.non))) H
def yyO:R2:=fun x y H Q=>y=.non/\Q (.bl (!decide (x=.non))) H
def yyP:List V->Hp->VK->Prop:=fun xs H Q=>∃ z,xs=[.str z]/\z.length<=sizeLine/\Q (.int z.length) H
def ywh (K:PySem.W.Frag):List V->Hp->VK->Prop:=fun xs H Q=>∃ p ys,xs=[.ref p]/\(SqL K H p ys\/SqT K H p ys)/\Q (.int ys.length) H
def yyQ (K:PySem.W.Frag):List V->Hp->VK->Prop:=fun xs H Q=>∃ x c b,xs=[x,c]/\IsI K H x c b/\Q (.bl b) H
theorem ydQ {H:Hp}{p:Addr}(h:H p=none) (o:HO):Same H (upd H p o):=fun b u q=>by rw [yU (ybQ q h)];exact q
section
variable {K:PySem.W.Frag}{σ:St}{H:Hp}{Q:VK}{ta tb tc:TE}{tA tB':TT}{t u:TS}{D:Ends}
theorem w_not {Q:Bool->Hp->Prop}:yyu tA σ H Q=tA σ H fun c H1=>Q (!c) H1:=rfl
end
end L2
namespace L2
open PySem
def ysZ (cs:List Nat):Int:=cs.foldl (fun (a:Int) (c:Nat)=>a*10+((c:Int)-48)) 0
noncomputable def ywi:List V->Hp->VK->Prop:=fun xs H Q=>∃ x:Str,xs=[.str x]/\x.cps.toList≠[]/\(∀ c∈x.cps.toList,48<=c/\c<=57)/\x.length<=640/\Q (.int (ysZ x.cps.toList)) H
def yAB:R2:=fun x y H Q=>∃ (c:Nat) (j:Str),x=.str ⟨#[c]⟩/\y=.str j/\Q (.bl (decide (c∈j.cps.toList))) H
noncomputable def yAC:List V->Hp->VK->Prop:=fun xs H Q=>∃ (p:Addr) (bs:List Bool),xs=[.ref p]/\H p=some (.lst (bs.map V.bl))/\Q (.bl (bs.all id)) H
noncomputable def yAD:List V->Hp->VK->Prop:=fun xs H Q=>∃ (p:Addr) (ns:List Int),xs=[.ref p]/\H p=some (.lst (ns.map V.int))/\Q (.int ns.sum) H
def ytN (K:PySem.W.Frag):List V->Hp->VK->Prop:=fun xs H Q=>∃ p ys,xs=[.ref p]/\(SqL K H p ys\/SqT K H p ys)/\∀ l,H l=none->Q (.ref l) (upd H l (.lst ys))
noncomputable def Its (z:Str):It:=⟨fun i _=>i<z.length,fun i H x H'=>H'=H/\∃ c,z.cps.toList[i]?=some c/\x=.str ⟨#[c]⟩,fun i _=>i=z.length⟩
def yAE (ta:TE):TI:=fun σ H R=>ta σ H fun x H1=>∃ z,x=.str z/\z.length<=sizeLine/\R (Its z) H1
noncomputable def yyR (J:It) (te:TE) (inn:V->St) (D:Addr) (Q:VK) (H:Hp):Prop:=∃ W:Nat->Nat->Hp->Prop,(∃ m,W 0 m H)/\∀ i m H,W i m H ->
 (J.stop i H/\Q (.ref D) H)\/(J.go i H/\∀ x H',J.yld i H x H'->te (inn x) H' fun y H2=>∃ acc,H2 D=some (.lst acc)/\acc.length<sizeLine/\∃ m',m'<m/\W (i+1) m' (upd H2 D (.lst (acc++[y]))))
def inner (ix:List Nat) (σ:St) (x:V):St:=some x::ix.map fun i=>(σ[i]?).getD none
def ynG (wi:TI) (ix:List Nat) (te:TE):TE:=fun σ H Q=>wi σ H fun J H1=>∀ D,H1 D=none->yyR J te (inner ix σ) D Q (upd H1 D (.lst []))
section
variable {K:PySem.W.Frag}{σ:St}{H:Hp}{Q:VK}{ta tb tc:TE}{tA tB':TT}{t u:TS}{D:Ends}
end
end L2
namespace L2
open PySem
def yta (C:Addr):TE:=fun _ H Q=>∀ x dx,H x=none->H dx=none->dx≠x->Q (.ref x) (upd (upd H dx (.own x)) x (.ins C dx []))
noncomputable def ytb {κ:Type}(A:κ->Addr) (m:Str) (sp:κ->Sp) (ta:TE):TE:=fun σ H Q=>ta σ H fun x H1=>∃ a k dx fs,x=.ref a/\H1 a=some (.ins (A k) dx fs)/\fs.lookup m=none/\sp k [x] H1 Q E0
theorem yyS {k:Str}{v:V}{r:List (Str×V)}:List.lookup k ((k,v)::r)=some v:=by simp [List.lookup]
theorem ywj {k k':Str}{v:V}{r:List (Str×V)}(h:¬ k=k'):List.lookup k ((k',v)::r)=List.lookup k r:=by
 have:(k == k')=false:=by simpa using h
 simp [List.lookup,this]
section
variable {K:PySem.W.Frag}{σ:St}{H:Hp}{Q:VK}{ta tb tc:TE}{t u:TS}{D:Ends}
end
end L2
namespace L2
open PySem PySem.Builtin PySem.Builtin.Str
theorem at_one {z:Str}{c i:Nat}:StrLaws.At z ⟨#[c]⟩ z.length i ↔ z.cps.toList[i]?=some c:=by
 unfold StrLaws.At subAt
 have e1:(⟨#[c]⟩:Str).length=1:=rfl
 rw [e1]
 have e2:(z.cps.extract i (i+1) == (⟨#[c]⟩:Str).cps)=true ↔ z.cps.extract i (i+1) = #[c]:=by simp
 rw [e2]
 constructor
 .rintro ⟨h1,h2⟩
  have h3:(z.cps.extract i (i+1)).toList=[c]:=by rw [h2]
  rw [Array.toList_extract,List.extract_eq_take_drop] at h3
  have h4:((z.cps.toList.drop i).take (i+1-i))[0]?=some c:=by rw [h3];rfl
  rw [List.getElem?_take_of_lt (by omega),List.getElem?_drop] at h4
  simpa using h4
 .intro h
  obtain ⟨hlt,hc⟩:=List.getElem?_eq_some_iff.mp h
  have hl:i<z.length:=by simpa [Str.length] using hlt
  refine ⟨by omega,?_⟩
  apply Array.ext'
  rw [Array.toList_extract,List.extract_eq_take_drop]
  have e:i+1-i=1:=by omega
  rw [e,List.drop_eq_getElem_cons hlt,hc]
  rfl
theorem ytO (z:Str) (c:Nat):(occurrences z ⟨#[c]⟩ 0 z.length 1=[]/\c∉z.cps.toList)\/∃ r,occurrences z ⟨#[c]⟩ 0 z.length 1=z.cps.toList.idxOf c::r/\c∈z.cps.toList:=by
 rcases StrLaws.occ_head z ⟨#[c]⟩ 1 (Nat.le_refl _) with ⟨h1,h2⟩|⟨i,r,h1,h2,h3⟩
 .refine .inl ⟨h1,fun hc=>?_⟩
  obtain ⟨i,hi,e⟩:=getElem_of_mem hc
  exact h2 i (at_one.mpr (List.getElem?_eq_some_iff.mpr ⟨hi,e⟩))
 .have hi:=at_one.mp h2
  obtain ⟨hlt,hc⟩:=List.getElem?_eq_some_iff.mp hi
  have hm:c∈z.cps.toList:=mem_of_getElem? hi
  refine .inr ⟨r,?_,hm⟩
  have hj:z.cps.toList.idxOf c<z.cps.toList.length:=List.idxOf_lt_length_of_mem hm
  have hg:z.cps.toList[z.cps.toList.idxOf c]?=some c:=by
   rw [List.getElem?_eq_getElem hj,List.getElem_idxOf hj]
  have e:i=z.cps.toList.idxOf c:=by
   rcases Nat.lt_trichotomy i (z.cps.toList.idxOf c) with h|h|h
   .exact absurd hc (by
     have:=List.not_of_lt_findIdx (p:=(· == c)) (xs:=z.cps.toList) (i:=i) (by simpa [List.idxOf] using h)
     simpa using this)
   .exact h
   .exact absurd (at_one.mpr hg) (h3 _ h)
  rw [h1,e]
end L2
namespace L2
open PySem PySem.Spec PyProof.Rows
theorem ybt {env:Env}(y:Str):∀ names:List (Str×NameKind),
  (names.map fun (n,k)=>if (k == NameKind.free && env.scope.kind == .function && env.kindOf n == some .cell) then (n,NameKind.cell) else (n,k)).lookup y
   = (names.lookup y).map fun k=>if (k == NameKind.free && env.scope.kind == .function && env.kindOf y == some .cell) then NameKind.cell else k
 | []=>rfl
 | (n,k)::r=>by
  have ih:=ybt (env:=env) y r
  show List.lookup y ((if (k == NameKind.free && env.scope.kind == .function && env.kindOf n == some .cell)=true then (n,NameKind.cell) else (n,k))::_)=_
  cases hx:y == n with
  | true =>
   have e:y=n:=eq_of_beq hx
   subst e
   by_cases hc:(k == NameKind.free && env.scope.kind == .function && env.kindOf y == some .cell)=true
   .rw [if_pos hc]
    simp only [lookup_cons,hx,map_some,if_pos hc]
   .rw [if_neg hc]
    simp only [lookup_cons,hx,map_some,if_neg hc]
  | false =>
   by_cases hc:(k == NameKind.free && env.scope.kind == .function && env.kindOf n == some .cell)=true
   .rw [if_pos hc];simp only [lookup_cons,hx];exact ih
   .rw [if_neg hc];simp only [lookup_cons,hx];exact ih
theorem ycR {env:Env}:∀ (names:List (Str×NameKind)) (cs:List (Str×Addr)),(∀ n,(n,NameKind.free)∈names->∃ c,env.cells.lookup n=some c) ->
  ∃ cl,(forIn names cs (fun (x:Str×NameKind) (r:List (Str×Addr))=>if (x.2 == NameKind.free)=true then do let c <- cellOf env x.1;pure (ForInStep.yield ((x.1,c)::r)) else pure (ForInStep.yield r)):Sem (List (Str×Addr)))=pure cl /\
   (∀ y,(y,NameKind.free)∈names->cl.lookup y=env.cells.lookup y)/\(∀ y,(y,NameKind.free)∉names->cl.lookup y=cs.lookup y)
 | [],cs,_=>⟨cs,rfl,fun y h=>by simp at h,fun y _=>rfl⟩
 | (n,k)::r,cs,h=>by
  by_cases hk:k=.free
  .subst hk
   obtain ⟨c,hc⟩:=h n mem_cons_self
   obtain ⟨cl,e,h1,h2⟩:=ycR r ((n,c)::cs) fun y hy=>h y (mem_cons_of_mem _ hy)
   refine ⟨cl,?_,fun y hy=>?_,fun y hy=>?_⟩
   .rw [List.forIn_cons]
    have e0:cellOf env n=pure c:=by unfold cellOf;rw [hc]
    simp only [beq_self_eq_true,if_true,e0,pure_bind]
    exact e
   .by_cases hr:(y,NameKind.free)∈r
    .exact h1 y hr
    .rw [h2 y hr]
     rcases mem_cons.mp hy with z|z
     .cases z
      rw [hc];simp [List.lookup]
     .exact absurd z hr
   .have hr:(y,NameKind.free)∉r:=fun z=>hy (mem_cons_of_mem _ z)
    rw [h2 y hr]
    have hn:(y == n)=false:=by
     cases e:y == n with
     | false=>rfl
     | true=>exact absurd (by rw [eq_of_beq e];exact mem_cons_self) hy
    simp [List.lookup,hn]
  .obtain ⟨cl,e,h1,h2⟩:=ycR r cs fun y hy=>h y (mem_cons_of_mem _ hy)
   have hb:(k == NameKind.free)=false:=by simpa using hk
   refine ⟨cl,?_,fun y hy=>?_,fun y hy=>?_⟩
   .rw [List.forIn_cons]
    simp only [hb,Bool.false_eq_true,if_false,pure_bind]
    exact e
   .rcases mem_cons.mp hy with z|z
    .cases z;exact absurd rfl hk
    .exact h1 y z
   .exact h2 y fun z=>hy (mem_cons_of_mem _ z)
noncomputable def cxC (X:Cx) (scope:Scope) (cl:List (Str×Addr)) (C:Addr) (N:List Str) (s₃:Shared) (H₃:Hp) (fp:List Addr) (pins:List (Addr×Obj)):Cx :=
 { prog:=X.prog,w:=X.w,K:=X.K,mg:=X.mg,base:=X.base,A:=X.A,N:=N,s₀:=s₃,H₀:=H₃,env:=compEnvC scope cl C X.env,outer:=X.stack,stack:=X.stack,ex:=fp,fn:=fun _=>false,calm:=X.calm,pn:=X.pn++pins,xe:=fun _ _=>False }
noncomputable def FrOk (X:Cx) (scope:Scope):List Nat->List Str->Prop
 | [],[]=>True
 | i::is,y::ys=>X.N[i]?=some y/\scope.names.lookup y=some .free/\X.env.kindOf y=some .cell/\FrOk X scope is ys
 | _,_=>False
theorem FrOk.len {X:Cx}{scope:Scope}:∀ {is:List Nat}{ys:List Str},FrOk X scope is ys->is.length=ys.length
 | [],[],_=>rfl
 | _::is,_::ys,h=>by rw [length_cons,length_cons,FrOk.len h.2.2.2]
theorem FrOk.get {X:Cx}{scope:Scope}:∀ {is:List Nat}{ys:List Str}{j:Nat}{y:Str},FrOk X scope is ys->ys[j]?=some y->∃ i,is[j]?=some i/\X.N[i]?=some y/\scope.names.lookup y=some .free/\X.env.kindOf y=some .cell
 | [],[],_,_,_,e=>by simp at e
 | [],_::_,_,_,h,_=>h.elim
 | _::_,[],_,_,h,_=>h.elim
 | i::is,z::ys,0,y,h,e=>by
  simp at e
  subst e
  exact ⟨i,rfl,h.1,h.2.1,h.2.2.1⟩
 | i::is,z::ys,j+1,y,h,e=>by
  obtain ⟨k,h1,h2⟩:=FrOk.get (j:=j) h.2.2.2 (by simpa using e)
  exact ⟨k,by simpa using h1,h2⟩
end L2
namespace L2
open PySem PySem.Spec PyProof.Rows
theorem yqV {P:Program}{w:World}{K:PySem.W.Frag}{tg:Expr}{ty:String}(hty:ty = "str_ascii_iterator"\/ty = "str_iterator") (z:Str) (t:Tok) (it:Addr):Turn P w K tg (Its z) [it] it (fun i h=>h.IsStrIter it ty z t i) where
 mem:=by simp
 obj:=fun i h st b hb=>by
  have e:b=it:=by simpa using hb
  subst e
  obtain ⟨o,e,c,d⟩:=st
  exact ⟨o,e,fun v q=>by rw [d] at q;cases q⟩
 keep:=fun i h h' st k=>by
  obtain ⟨o,e,c,d⟩:=st
  exact ⟨o,k it (by simp) o e,c,d⟩
 item:=by
  intro X hP hw hK hc i pins s σ H E I hf st hg
  subst hP hw hK
  obtain ⟨f0,f1,f2,f3,f4,f5⟩:=hf it (by simp)
  have hg:i<z.length:=hg
  obtain ⟨ch,hz⟩:∃ ch,z.cps[i]?=some ch:=⟨_,Array.getElem?_eq_getElem (show i<z.cps.size from hg)⟩
  have fin:∀ h',h'.IsStrIter it ty z t (i+1)->Heap.SameBut it s.heap h'->∃ u,some (Value.str ⟨#[ch]⟩ s.toks)=some u /\
    wpAny (model X.prog X.w) X.A (letOwnedTupleGo tg (.ref it) u) (fun _ s2=>∃ x H',Inv X pins σ H' s2/\RelV x u/\(Its z).yld i H x H'/\s2.heap.IsStrIter it ty z t (i+1)/\∀ b∈[it],H' b=none) E { s with heap:=h',toks:=s.toks+1 }:=fun h' st' sb=>by
   have I1:Inv X pins σ H { s with heap:=h',toks:=s.toks+1 }:=I.turned (t':=s.toks+1) (fun b o hb e=>(sb.2 b hb).trans e) f0 f1 f3 f4 f5
   obtain ⟨o,e,c,d⟩:=id st'
   refine ⟨_,rfl,ytF (s:={ s with heap:=h',toks:=s.toks+1 }) e c d (by rcases hty with rfl|rfl<;>decide) ⟨.str ⟨#[ch]⟩,H,I1,⟨_,rfl⟩,⟨rfl,_,by simpa using hz,rfl⟩,st',fun b hb=>(hf b hb).1⟩⟩
  rcases hty with rfl|rfl
  .exact wpAny_pyNext_ascii_item st hz fun h' st' sb=>fin h' st' sb
  .exact wpAny_pyNext_wide_item st hz fun h' st' sb=>fin h' st' sb
 done:=by
  intro X hP hw hK hc i pins s σ H E I hf st hg
  subst hP hw hK
  obtain ⟨f0,f1,f2,f3,f4,f5⟩:=hf it (by simp)
  have hg:i=z.length:=hg
  have hz:z.cps[i]?=none:=by simp [hg,Str.length]
  rcases hty with rfl|rfl
  .exact wpAny_pyNext_ascii_end (I.ok.hd hc) st hz fun h' eb=>⟨rfl,I.turned (t':=s.toks) (fun b o hb e=>eb b o hb e) f0 f1 f3 f4 f5⟩
  .exact wpAny_pyNext_wide_end (I.ok.hd hc) st hz fun h' eb=>⟨rfl,I.turned (t':=s.toks) (fun b o hb e=>eb b o hb e) f0 f1 f3 f4 f5⟩
 self:=fun _ _ _ _ _ st h=>by
  rcases hty with rfl|rfl
  .exact wpAny_pyIter_striter_ascii st h
  .exact wpAny_pyIter_striter_wide st h
section
variable {X:Cx}{tg:Expr}
theorem ywk {l:Expr}{tl:TE}(hl:PE X l tl):PI X tg l (yAE tl):=by
 intro pins s σ H R I h
 refine thn (hl pins s σ H _ I h) fun v s1 ⟨x,H1,I1,r1,q1⟩=>?_
 obtain ⟨z,e,hz,q⟩:=q1
 subst e
 obtain ⟨t,rfl⟩:=r1
 have fin:∀ ty,(ty = "str_ascii_iterator"\/ty = "str_iterator")->PIE X pins σ tg R (.ref s1.heap.objs.size) { s1 with heap:=s1.heap.push { cls:=.type ty,data:=.fields #[.str z t,.int 0 0] } }:=fun ty hty=>by
  refine ⟨s1.heap.objs.size,[s1.heap.objs.size],_,_,H1,rfl,I1.kept (t':=s1.toks) fun b o e=>Heap.get?_push_of_some _ e,yqV hty z t _,⟨_,Heap.get?_push_size _ rfl,rfl,rfl⟩,fun b hb=>?_,q⟩
  have e:b=s1.heap.objs.size:=by simpa using hb
  subst e
  exact I1.fpOk (Nat.le_refl _) (I1.hok.fresh (Nat.le_refl _))
 cases ha:z.cps.all (· < 128)
 .exact wpAny_pyIter_wide ha (fin _ (.inr rfl))
 .exact wpAny_pyIter_ascii ha (fin _ (.inl rfl))
theorem yiQ:∀ {bs:List Bool}{us:List Value},Vals (bs.map V.bl) us->us=bs.map Value.bool
 | [],_,.nil=>rfl
 | b::bs,_,.cons r t=>by rw [show _=Value.bool b from r,yiQ t];rfl
theorem yhg (hc:X.calm=true):yfP X (.builtin "all") yAC:=by
 intro pins s σ H xs us Q I r h
 obtain ⟨p,bs,rfl,hp,q⟩:=h
 obtain ⟨u,rfl,rx⟩:=vals1 r
 cases rx
 obtain ⟨its,n,rv,e,hz⟩:=I.lst hp
 have eb:=yiQ rv
 subst eb
 have hl:s.heap.IsList p (bs.map Value.bool).toArray:=⟨_,e,rfl,n,rfl⟩
 have hlt:p<s.heap.objs.size:=Heap.lt_size e
 refine call_all_walk (wpAny_pyIter_list hl ?_)
 refine ⟨s.heap.objs.size,[s.heap.objs.size,p],[s.heap.objs.size],(bs.map Value.bool).toArray.size,_,_,fun i=>(bs[i]?).getD true,rfl,Walks.list (A:=X.A.in1) (I.ok.hd hc) _ p (ne_of_lt hlt) _,
  ⟨⟨_,Heap.get?_push_size _ rfl,rfl,rfl⟩,hl.push _⟩,fun i v s' Q' E' hP hQ=>?_,fun h' tk hk=>?_⟩
 .have hP:(bs.map Value.bool)[i]?=some v:=by simpa using hP
  rw [getElem?_map] at hP
  cases eb:bs[i]? with
  | none=>rw [eb] at hP;cases hP
  | some b =>
   rw [eb] at hP
   cases hP
   simp only [eb,Option.getD_some] at hQ
   exact wpAny_truthy_bool hQ
 .have ea:((List.range (bs.map Value.bool).toArray.size).all fun i=>(bs[i]?).getD true)=bs.all id:=by
   rw [size_toArray,length_map]
   exact LSm.range_all bs
  rw [ea]
  exact ⟨.bl _,H,I.kept (t':=tk) fun b o eo=>hk b o (fun hm=>by rw [List.mem_singleton.mp hm] at eo;exact absurd (Heap.lt_size eo) (lt_irrefl _)) (Heap.get?_push_of_some _ eo),rfl,q⟩
theorem yqW (hc:X.calm=true):yfP X (.builtin "sum") yAD:=by
 intro pins s σ H xs us Q I r h
 obtain ⟨p,ns,rfl,hp,q⟩:=h
 obtain ⟨u,rfl,rx⟩:=vals1 r
 cases rx
 obtain ⟨its,n,rv,e,hz⟩:=I.lst hp
 have hi:IntsAre its ns:=intsAre_of rv
 have hl:s.heap.IsList p its.toArray:=⟨_,e,rfl,n,rfl⟩
 obtain ⟨xs,hx⟩:=hi.allInts.items
 have hl':s.heap.IsList p (intItems xs):=hx ▸ hl
 refine sum_intListG (I.ok.hd hc) hl' fun h' tk t' hk=>?_
 have e1:ns=xs.toList.map (·.1):=by
  rw [<- nums_intItems,<- hx]
  exact (show numsOf its.toArray.toList=ns from hi.numsOf).symm
 have e2:preSum (numAt xs) xs.size=ns.sum:=by
  rw [preSum_eq,List.take_of_length_le (by simp),e1]
 rw [e2]
 exact ⟨.int ns.sum,H,I.kept (t':=tk) hk,⟨_,rfl⟩,q⟩
theorem yjZ:OpR X (compareOp .In) yAB:=by
 intro pins s σ H x y v u Q I rx ry h
 obtain ⟨c,j,rfl,rfl,q⟩:=h
 refine yoC pins s σ H _ _ v u Q I rx ry ⟨_,_,rfl,rfl,?_⟩
 have e:(!(Builtin.Str.occurrences j ⟨#[c]⟩ 0 j.length 1).isEmpty)=decide (c∈j.cps.toList):=by
  rcases ytO j c with ⟨h1,h2⟩|⟨r,h1,h2⟩
  .rw [h1];simp [h2]
  .rw [h1];simp [h2]
 rw [e]
 exact q
theorem yqX {C:Addr}{x:Str}{p pos:Pos}(hm:makesIn X.K C=true) (hi:findIn X.K (.ref C) "__init__" = some (some (.builtin "object.__init__"))) (hk:keepIn X.K (.ref C)=true)
  (hg:Gl X x) (hmg:X.mg x=some (.ref C)) (hdb:(x == ("__debug__":Str))=false:=by decide):PE X (.Call (.Name x p) [] [] pos) (yta C):=by
 intro pins s σ H Q I h
 refine wpAny_Call_Name_kw (yeS I hg hmg ?_ hdb)
 refine PySem.W.callWith_K0 I.kIn hk (wpAny_call ?_)
 have I2:=Inv.made (C:=C) I
 have q:=h (s.heap.objs.size+1) s.heap.objs.size (I.hok.fresh (Nat.le_succ _)) (I.hok.fresh (Nat.le_refl _)) (ne_of_lt (Nat.lt_succ_self _))
 have kin:=I.kIn
 obtain ⟨hh,g,d,t,os⟩:=s
 have Y:=PySem.W.makes_of (M:=model X.prog X.w) kin hm
 refine PySem.W.make_core Y (PySem.W.looks_findIn kin hi) (fun self=>PySem.W.Looks.of_pure (PySem.W.oi_bind self)) (.inr ⟨rfl,rfl⟩) ?_
 have e1:((hh.push emptyDict).push (instObj C hh.objs.size)).get? (hh.objs.size+1)=some (instObj C hh.objs.size):=by
  have:=Heap.get?_push_size (h:=hh.push emptyDict) (o:=instObj C hh.objs.size) rfl
  rwa [Heap.size_push] at this
 have t1:PySem.W.Looks (model X.prog X.w) ((hh.push emptyDict).push (instObj C hh.objs.size)) (typeOf (.ref (hh.objs.size+1))) (.ref C):=(PySem.W.Looks.ld e1).andThen .now
 have t2:PySem.W.Looks (model X.prog X.w) ((hh.push emptyDict).push (instObj C hh.objs.size)) (isInstance (.ref (hh.objs.size+1)) (.type "object")) true:=t1.andThen (Y.top.keeps fun b o e=>Heap.get?_push_of_some _ (Heap.get?_push_of_some _ e))
 refine codeAny_call_builtin PySem.W.oi_plain PySem.W.entry_oi (@PySem.W.check_slot (model X.prog X.w) _ _ _ "object.__init__" "object" "__init__" (.ref (hh.objs.size+1)) [] [] _ PySem.W.oi_kind PySem.W.oi_split t2 (PySem.W.oi_args (.ref (hh.objs.size+1))) ?_)
 show wpAny _ _ (Builtin.«object.__init__» ⟨[.ref (hh.objs.size+1)],[]⟩) _ _ _
 rw [PySem.W.oi_run]
 exact wpAny_pure (And.intro rfl ⟨.ref _,_,I2,rfl,q⟩)
def ylE {κ:Type}(P:Program) (w:World) (K:PySem.W.Frag) (mg:Str->Option Value) (base:Heap) (k:Nat) (A:κ->Addr) (m:Str) (sp:κ->Sp):Prop :=
 ∀ c:κ,Cls K (A c)/\((∀ vs H Q E,¬ sp c vs H Q E)\/∃ f fd ps,Meth K (A c) m f/\FnOk P w K mg base CX0 k f fd ps (sp c)/\Binds K fd ps [])
theorem yoS {κ:Type}{A:κ->Addr}{m:Str}{sp:κ->Sp}{k:Nat}{o:Expr}{ta:TE}{apos pos:Pos}{pl:Sem Bool}(he:PE X o ta) (G:ylE X.prog X.w X.K X.mg X.base k A m sp) (hr:Room k X.A)
  (ht:eval (.Call (.Attribute o m apos) [] [] pos) X.env=(do
   let ov <- eval o X.env
   standAt apos.atName
   let (f,first) <- holding [ov] (getMethod ov m pl)
   callWith pos f first (backTo pos (starEach [] X.env)) (backToKw pos (keywordEach [] X.env))):=by rfl):PE X (.Call (.Attribute o m apos) [] [] pos) (ytb A m sp ta):=by
 intro pins s σ H Q I h
 refine PySem.W.methodCall_KW (pl:=pl) (thn (he pins s σ H _ I h) fun u s1 ⟨x,H1,I1,rx,a,c,dx,fs,ex,ea,l,q⟩=>?_) ht
 subst ex
 obtain rfl:u=Value.ref a:=rx
 obtain ⟨cl,hn|⟨f,fd,ps,hm,F,hb⟩⟩:=G c
 .exact (hn _ _ _ _ q).elim
 refine ygB I1 ea cl hm l ?_
 exact PySem.W.callWith_K0 (first:=[.ref a]) I1.kIn hm.kp (yjP (us:=[.ref a]) (vs:=[.ref a]) (dvs:=[]) (ds:=[]) F hr hb .nil yib I1 (.cons rfl .nil) q)
end
end L2
namespace L2
open PySem PySem.Spec PyProof.Rows
def ExO (D a:Addr):HO:=.ext fun h=>∃ ox,PySem.W.InstAt h a ox D none
def xAd (K:PySem.W.Frag) (n:Str):Addr:=match nsIn K mainGlobals n with|some (some (.ref D))=>D|_=>0
section
variable {X:Cx}
theorem yT:yfP X (.builtin "isinstance") (yyQ X.K):=by
 intro pins s σ H xs us Q I r h
 obtain ⟨x,c,b,rfl,⟨t,u',ty,hc,hk⟩,q⟩:=h
 obtain ⟨u,w',rfl,ru,rc⟩:=vals2 r
 have e:w'=u':=by
  cases c<;>first|(cases hc;exact rc)|cases hc
 subst e
 exact yoI I ru ty hk fun tk=>⟨.bl b,H,I.tok tk,rfl,q⟩
theorem yio:∀ (cs:List Nat) (a:Nat),(∀ c∈cs,48<=c/\c<=57)->((cs.foldl (fun acc c=>acc*10+(c-48)) a:Nat):Int)=cs.foldl (fun (a:Int) (c:Nat)=>a*10+((c:Int)-48)) (a:Int)
 | [],_,_=>rfl
 | c::cs,a,h=>by
  have hc:=h c mem_cons_self
  rw [List.foldl_cons,List.foldl_cons,yio cs _ fun d hd=>h d (mem_cons_of_mem _ hd)]
  congr 1
  omega
theorem yka:yfP X (.type "int") ywi:=by
 intro pins s σ H xs us Q I r h
 obtain ⟨z,rfl,hne,hd,hl,q⟩:=h
 obtain ⟨u,rfl,t,rfl⟩:=vals1 r
 have e:=PySem.intText_digits (x:=z) hd hne (by omega)
 have e2:((PySem.NumText.digitsVal z.cps.toList:Nat):Int)=ysZ z.cps.toList:=yio z.cps.toList 0 hd
 rw [e2] at e
 exact PySem.W.KIN.call_text e hl ⟨.int _,H,I.tok _,⟨_,rfl⟩,q⟩
end
end L2
namespace L2
open PySem PySem.Spec PyProof.Rows
section
variable {X:Cx}
theorem ytP {x:Str}{n:Int}{t:Tok}{pos:Pos}(hg:Gl X x) (hm:X.mg x=some (.int n t)) (hd:(x == ("__debug__":Str))=false:=by decide):PE X (.Name x pos) (tC (.int n)):=yiL hg hm ⟨t,rfl⟩ hd
theorem ytQ {x:Str}{n:Str}{t:Tok}{pos:Pos}(hg:Gl X x) (hm:X.mg x=some (.str n t)) (hd:(x == ("__debug__":Str))=false:=by decide):PE X (.Name x pos) (tC (.str n)):=yiL hg hm ⟨t,rfl⟩ hd
theorem ylF {x:Str}{a:Addr}{pos:Pos}(hg:Gl X x) (hm:X.mg x=some (.ref a)) (hd:(x == ("__debug__":Str))=false:=by decide):PE X (.Name x pos) (tC (.ref a)):=yiL hg hm rfl hd
theorem ywl {x:Str}{n:String}{pos:Pos}(hg:Gl X x) (hm:X.mg x=none) (hv:bootBuiltins x=some (.type n)) (hn:x≠"__name__":=by decide) (hd:(x == ("__debug__":Str))=false:=by decide):PE X (.Name x pos) (tC (.ty n)):=ytD hg hm hv rfl hn hd
end
end L2
namespace L2
open PySem PySem.Spec PyProof.Rows
theorem ylG {K:PySem.W.Frag}{H:Hp}{i:Int}:IsI K H (.int i) (.ty "str") false:=⟨_,_,.int i,rfl,by with_unfolding_all rfl⟩
theorem ykb {K:PySem.W.Frag}{H:Hp}{i:Int}:IsI K H (.int i) (.ty "list") false:=⟨_,_,.int i,rfl,by with_unfolding_all rfl⟩
theorem yiR {K:PySem.W.Frag}{H:Hp}{i:Int}:IsI K H (.int i) (.ty "tuple") false:=⟨_,_,.int i,rfl,by with_unfolding_all rfl⟩
theorem ykc {K:PySem.W.Frag}{H:Hp}{i:Int}:IsI K H (.int i) (.ty "dict") false:=⟨_,_,.int i,rfl,by with_unfolding_all rfl⟩
theorem ynH {K:PySem.W.Frag}{H:Hp}{i:Bool}:IsI K H (.bl i) (.ty "int") true:=⟨_,_,.bl i,rfl,by with_unfolding_all rfl⟩
theorem ynI {K:PySem.W.Frag}{H:Hp}{i:Bool}:IsI K H (.bl i) (.ty "str") false:=⟨_,_,.bl i,rfl,by with_unfolding_all rfl⟩
theorem ylH {K:PySem.W.Frag}{H:Hp}{i:Bool}:IsI K H (.bl i) (.ty "list") false:=⟨_,_,.bl i,rfl,by with_unfolding_all rfl⟩
theorem ykd {K:PySem.W.Frag}{H:Hp}{i:Bool}:IsI K H (.bl i) (.ty "tuple") false:=⟨_,_,.bl i,rfl,by with_unfolding_all rfl⟩
theorem ylI {K:PySem.W.Frag}{H:Hp}{i:Bool}:IsI K H (.bl i) (.ty "dict") false:=⟨_,_,.bl i,rfl,by with_unfolding_all rfl⟩
theorem ylJ {K:PySem.W.Frag}{H:Hp}{i:Str}:IsI K H (.str i) (.ty "int") false:=⟨_,_,.str i,rfl,by with_unfolding_all rfl⟩
theorem yke {K:PySem.W.Frag}{H:Hp}{i:Str}:IsI K H (.str i) (.ty "bool") false:=⟨_,_,.str i,rfl,by with_unfolding_all rfl⟩
theorem ykf {K:PySem.W.Frag}{H:Hp}{i:Str}:IsI K H (.str i) (.ty "list") false:=⟨_,_,.str i,rfl,by with_unfolding_all rfl⟩
theorem yiS {K:PySem.W.Frag}{H:Hp}{i:Str}:IsI K H (.str i) (.ty "tuple") false:=⟨_,_,.str i,rfl,by with_unfolding_all rfl⟩
theorem ykg {K:PySem.W.Frag}{H:Hp}{i:Str}:IsI K H (.str i) (.ty "dict") false:=⟨_,_,.str i,rfl,by with_unfolding_all rfl⟩
theorem ykh {K:PySem.W.Frag}{H:Hp}:IsI K H (.non) (.ty "bool") false:=⟨_,_,.non,rfl,by with_unfolding_all rfl⟩
theorem ylK {K:PySem.W.Frag}{H:Hp}:IsI K H (.non) (.ty "str") false:=⟨_,_,.non,rfl,by with_unfolding_all rfl⟩
theorem yki {K:PySem.W.Frag}{H:Hp}:IsI K H (.non) (.ty "list") false:=⟨_,_,.non,rfl,by with_unfolding_all rfl⟩
theorem yiT {K:PySem.W.Frag}{H:Hp}:IsI K H (.non) (.ty "tuple") false:=⟨_,_,.non,rfl,by with_unfolding_all rfl⟩
theorem ykj {K:PySem.W.Frag}{H:Hp}:IsI K H (.non) (.ty "dict") false:=⟨_,_,.non,rfl,by with_unfolding_all rfl⟩
theorem ylL {K:PySem.W.Frag}{H:Hp}{a:Addr}{xs:List V}(e:H a=some (.lst xs)):IsI K H (.ref a) (.ty "int") false:=⟨_,_,.lst e,rfl,by with_unfolding_all rfl⟩
theorem ykk {K:PySem.W.Frag}{H:Hp}{a:Addr}{xs:List V}(e:H a=some (.lst xs)):IsI K H (.ref a) (.ty "bool") false:=⟨_,_,.lst e,rfl,by with_unfolding_all rfl⟩
theorem ylM {K:PySem.W.Frag}{H:Hp}{a:Addr}{xs:List V}(e:H a=some (.lst xs)):IsI K H (.ref a) (.ty "str") false:=⟨_,_,.lst e,rfl,by with_unfolding_all rfl⟩
theorem yiU {K:PySem.W.Frag}{H:Hp}{a:Addr}{xs:List V}(e:H a=some (.lst xs)):IsI K H (.ref a) (.ty "tuple") false:=⟨_,_,.lst e,rfl,by with_unfolding_all rfl⟩
theorem ykl {K:PySem.W.Frag}{H:Hp}{a:Addr}{xs:List V}(e:H a=some (.lst xs)):IsI K H (.ref a) (.ty "dict") false:=⟨_,_,.lst e,rfl,by with_unfolding_all rfl⟩
theorem yiV {K:PySem.W.Frag}{H:Hp}{a:Addr}(e:(∃ xs,H a=some (.tup xs))\/∃ o,K.lookup a=some o/\o.cls=.type "tuple"):IsI K H (.ref a) (.ty "tuple") true:=e.elim (fun ⟨_,e⟩=>⟨_,_,.tup e,rfl,by with_unfolding_all rfl⟩) fun ⟨_,e,c⟩=>⟨_,_,.kt e c,rfl,by with_unfolding_all rfl⟩
theorem ylN {K:PySem.W.Frag}{H:Hp}{a:Addr}(e:(∃ xs,H a=some (.tup xs))\/∃ o,K.lookup a=some o/\o.cls=.type "tuple"):IsI K H (.ref a) (.ty "int") false:=e.elim (fun ⟨_,e⟩=>⟨_,_,.tup e,rfl,by with_unfolding_all rfl⟩) fun ⟨_,e,c⟩=>⟨_,_,.kt e c,rfl,by with_unfolding_all rfl⟩
theorem ykm {K:PySem.W.Frag}{H:Hp}{a:Addr}(e:(∃ xs,H a=some (.tup xs))\/∃ o,K.lookup a=some o/\o.cls=.type "tuple"):IsI K H (.ref a) (.ty "bool") false:=e.elim (fun ⟨_,e⟩=>⟨_,_,.tup e,rfl,by with_unfolding_all rfl⟩) fun ⟨_,e,c⟩=>⟨_,_,.kt e c,rfl,by with_unfolding_all rfl⟩
theorem ylO {K:PySem.W.Frag}{H:Hp}{a:Addr}(e:(∃ xs,H a=some (.tup xs))\/∃ o,K.lookup a=some o/\o.cls=.type "tuple"):IsI K H (.ref a) (.ty "str") false:=e.elim (fun ⟨_,e⟩=>⟨_,_,.tup e,rfl,by with_unfolding_all rfl⟩) fun ⟨_,e,c⟩=>⟨_,_,.kt e c,rfl,by with_unfolding_all rfl⟩
theorem ykn {K:PySem.W.Frag}{H:Hp}{a:Addr}(e:(∃ xs,H a=some (.tup xs))\/∃ o,K.lookup a=some o/\o.cls=.type "tuple"):IsI K H (.ref a) (.ty "list") false:=e.elim (fun ⟨_,e⟩=>⟨_,_,.tup e,rfl,by with_unfolding_all rfl⟩) fun ⟨_,e,c⟩=>⟨_,_,.kt e c,rfl,by with_unfolding_all rfl⟩
theorem yko {K:PySem.W.Frag}{H:Hp}{a:Addr}(e:(∃ xs,H a=some (.tup xs))\/∃ o,K.lookup a=some o/\o.cls=.type "tuple"):IsI K H (.ref a) (.ty "dict") false:=e.elim (fun ⟨_,e⟩=>⟨_,_,.tup e,rfl,by with_unfolding_all rfl⟩) fun ⟨_,e,c⟩=>⟨_,_,.kt e c,rfl,by with_unfolding_all rfl⟩
end L2
namespace L2
open PySem PySem.Spec PyProof.Rows
theorem yhh {K:PySem.W.Frag}{C:Addr}:PySem.W.kitOne K (.ref C) (.ref C)=some true:=by
 unfold PySem.W.kitOne
 have:((Value.ref C) == (Value.ref C))=true:=by simp
 rw [if_pos this]
theorem yqY {K:PySem.W.Frag}{C C':Addr}{b:Bool}(hm:mroIn K C' (.type "object")=some true) (ht:typeIn K (.ref C')=some (.type "type")) (hs:subIn K (.ref C) (.ref C')=some b):PySem.W.kitCls K (.ref C) (.ref C')=some b:=by
 unfold PySem.W.kitCls
 have h1:(PySem.W.clsIn K C').isSome=true:=by
  unfold mroIn at hm
  cases e:PySem.W.clsIn K C' with
  | none=>rw [e] at hm;cases hm
  | some c=>rfl
 have h2:(typeIn K (.ref C') == some (.type "type"))=true:=by rw [ht];simp
 show (if _ then _ else _)=_
 rw [if_pos (by rw [h1,h2];rfl)]
 exact hs
theorem ycA {K:PySem.W.Frag}{C C':Addr}(hn:(C == C')=false) (hm:mroIn K C' (.type "object")=some true) (ht:typeIn K (.ref C')=some (.type "type")) (hs:subIn K (.ref C) (.ref C')=some false):PySem.W.kitOne K (.ref C) (.ref C')=some false:=by
 unfold PySem.W.kitOne
 have:¬ ((Value.ref C) == (Value.ref C'))=true:=by
  intro z
  have z:=eq_of_beq z
  cases z
  simp at hn
 rw [if_neg this]
 exact yqY hm ht hs
theorem all_cons {α:Type}{p:α->Prop}{a:α}{l:List α}(h:p a) (t:∀ x∈l,p x):∀ x∈a::l,p x:=fun x hx=>by
 rcases mem_cons.mp hx with e|e
 .rw [e];exact h
 .exact t x e
end L2
namespace L2
open PySem PySem.Spec PyProof.Rows
noncomputable def Exc (h:Heap) (a:Addr) (C:Value) (T:Option Addr):Prop:=∃ o vs,h.get? a=some o/\(o.cls=C/\o.dict=none)/\o.data=.fields vs/\match T with
 | none=>vs[1]?=some .none
 | some T=>vs[1]?=some (.ref T)/\T≠a/\∃ oT ts,h.get? T=some oT/\oT.data=.fields ts/\ts[3]?=some .none
noncomputable def ExcW (h:Heap) (a:Addr) (C:Value) (T:Option Addr):Prop:=∃ o vs,h.get? a=some o/\(o.cls=C/\o.dict=none)/\o.data=.fields vs/\match T with
 | none=>vs[1]?=some .none
 | some T=>vs[1]?=some (.ref T)/\T≠a/\∃ oT ts,h.get? T=some oT/\oT.data=.fields ts/\3<ts.size
theorem Exc.w {h:Heap}{a:Addr}{C:Value}{T:Option Addr}(x:Exc h a C T):ExcW h a C T:=by
 obtain ⟨o,vs,ho,hc,d,q⟩:=x
 refine ⟨o,vs,ho,hc,d,?_⟩
 cases T with
 | none=>exact q
 | some t =>
  obtain ⟨q1,q2,oT,ts,q3,q4,q5⟩:=q
  exact ⟨q1,q2,oT,ts,q3,q4,(Array.getElem?_eq_some_iff.mp q5).1⟩
structure Lv (fs:List Addr) (a:Addr) (T:Option Addr) (h h':Heap):Prop where
 keep:∀ b o,h.get? b=some o->b≠a->some b≠T->b∉fs->h'.get? b=some o
 slot:∀ b o,h.get? b=some o->b≠a->some b≠T->b∈fs->∃ sl,h'.get? b=some { o with slots:=sl }
 there:∀ b o,h.get? b=some o->∃ o',h'.get? b=some o'
section
variable {M:Model}{A:Around}{E:Value->Shared->Prop}{s:Shared}{base:Heap}{env:Env}{outer:List Env}{L a:Addr}{C:Value}{T:Option Addr}{fs:List Addr}{h h1:Heap}
theorem yic {l:List Env}:(env::l).dropWhile (fun x=>x.frame != env.frame)=env::l:=by
 simp [List.dropWhile]
theorem ynJ {Q:Value->Shared->Prop}{ce:Env}(hce:ce.frame=env.frame) (hf:A.frames=some (env::outer)) (ff:s.heap.FunFrames base (env::outer)) (hL:env.frame=some L)
  (k:∀ h',Heap.SlotsOnly (frs (env::outer)) s.heap h'->Q (.ref L) { s with heap:=h' }):wpAny M A (PySem.frameOf ce) Q E s:=by
 unfold PySem.frameOf
 refine wpAny_bind (wpAny_frameEnvs hf ?_)
 rw [hce,yic]
 unfold frameObject
 refine wpAny_bind (wpAny_bind (wpAny_readyFrames_fun ff fun h' hs=>?_))
 rw [hL]
 exact wpAny_pure (wpAny_pure (k h' hs))
theorem yvv {o:Obj}{vs:Array Value}{f:Array Value->Array Value}(d:o.data=.fields vs):o.mapFields f={ o with data:=.fields (f vs) }/\(o.mapFields f).isFreed=false:=by
 obtain ⟨c,dd,da,sl⟩:=o
 cases d
 exact ⟨rfl,rfl⟩
theorem ydR {Q:Unit->Shared->Prop}{o:Obj}{vs:Array Value}{hd:Value}{ce:Env}(hce:ce.frame=env.frame) (hf:A.frames=some (env::outer)) (ff:s.heap.FunFrames base (env::outer)) (hL:env.frame=some L) (ho:s.heap.get? a=some o) (d:o.data=.fields vs) (hv:1<vs.size)
  (k:∀ h' ts,h'.get? a=some { o with data:=.fields (vs.setIfInBounds 1 (.ref s.heap.objs.size)) }->h'.get? s.heap.objs.size=some ⟨.type "traceback",none,.fields ts,#[]⟩->3<ts.size->Lv (frs (env::outer)) a none s.heap h'->Q () { s with heap:=h' }) :
  wpAny M A (do
   let fo <- PySem.frameOf ce
   let pl <- entryPlaceOf L (hd != .none)
   let en <- EntryCells.newEntry hd fo .none (rawInt L) .none pl
   setField (.ref a) 1 en) Q E s:=by
 have na:a∉frs (env::outer):=fun z=>by
  obtain ⟨_,o',e1,e2⟩:=ff.mem z
  rw [ho] at e1
  cases e1
  exact e2 _ d
 refine wpAny_bind (ynJ hce hf ff hL fun h1 sl=>?_)
 obtain ⟨sz,sk,ss⟩:=sl
 refine wpAny_bind (wpAny_entryPlaceOf fun pl hp=>?_)
 have ho1:h1.get? a=some o:=by rw [sk a na];exact ho
 have hlt:=Heap.lt_size ho1
 unfold EntryCells.newEntry newFields
 refine wpAny_bind (wpAny_newObj_type ?_ ?_)
 .have ho2:=Heap.get?_push_of_some (⟨.type "traceback",none,.fields ([hd,.ref L,.none,rawInt L,.none]++if pl.isEmpty=true then replicate 6 .none else pl).toArray,#[]⟩:Obj) ho1
  refine wpAny_setField ho2 d hv ?_
  have hs:=sz
  obtain ⟨m1,m2⟩:=yvv (f:=fun x=>x.setIfInBounds 1 (.ref h1.objs.size)) d
  refine k _ ([hd,.ref L,.none,rawInt L,.none]++if pl.isEmpty=true then replicate 6 .none else pl).toArray ?_ ?_ ?_ ⟨?_,?_,?_⟩
  .rw [<- hs,Heap.get?_update_self _ ho2 m2,m1]
  .rw [<- hs,Heap.get?_update_ne _ _ _ _ (fun z=>by rw [z] at hlt;exact lt_irrefl _ hlt)]
   exact Heap.get?_push_size _ rfl
  .simp
  .intro b ob hb n1 _ n3
   rw [Heap.get?_update_ne _ _ _ _ n1]
   exact Heap.get?_push_of_some _ (by rw [sk b n3];exact hb)
  .intro b ob hb n1 _ _
   obtain ⟨sl,e⟩:=ss b ob hb
   refine ⟨sl,?_⟩
   rw [Heap.get?_update_ne _ _ _ _ n1]
   exact Heap.get?_push_of_some _ e
  .intro b ob hb
   by_cases e:b=a
   .rw [e]
    exact ⟨_,Heap.get?_update_self _ ho2 m2⟩
   .obtain ⟨sl,e'⟩:=ss b ob hb
    refine ⟨{ ob with slots:=sl },?_⟩
    rw [Heap.get?_update_ne _ _ _ _ e]
    exact Heap.get?_push_of_some _ e'
 .rcases hp with rfl|⟨_,_,_,_,_,_,_,rfl⟩
  .show _<=_;simp;decide
  .show _<=_;simp;decide
theorem ExcW.nofr (x:ExcW s.heap a C T) (ff:s.heap.FunFrames base (env::outer)):a∉frs (env::outer)/\∀ t,T=some t->t∉frs (env::outer):=by
 obtain ⟨o,vs,ho,_,d,h⟩:=x
 refine ⟨fun z=>?_,fun t et z=>?_⟩
 .obtain ⟨_,o',e1,e2⟩:=ff.mem z
  rw [ho] at e1
  cases e1
  exact e2 _ d
 .subst et
  obtain ⟨_,_,oT,ts,e1,e2,_⟩:=h
  obtain ⟨_,o',f1,f2⟩:=ff.mem z
  rw [e1] at f1
  cases f1
  exact f2 _ e2
theorem yqZ {Q:Unit->Shared->Prop}{ce:Env}(hce:ce.frame=env.frame) (hf:A.frames=some (env::outer)) (ff:s.heap.FunFrames base (env::outer)) (hL:env.frame=some L) (x:ExcW s.heap a C T)
  (k:∀ h' t,ExcW h' a C (some t)->(s.heap.objs.size<=t\/T=some t)->Lv (frs (env::outer)) a T s.heap h'->Q () { s with heap:=h' }):wpAny M A (noteFrame (.ref a) ce) Q E s:=by
 obtain ⟨na,nt⟩:=x.nofr ff
 obtain ⟨o,vs,ho,hc,d,h⟩:=x
 have s1:∀ {v:Value},vs[1]?=some v->1<vs.size:=fun e=>(Array.getElem?_eq_some_iff.mp e).1
 unfold noteFrame
 rw [hce,hL]
 cases T with
 | none =>
  refine wpAny_bind (wpAny_field ho d h ?_)
  rw [if_neg (by decide)]
  refine ydR hce hf ff hL ho d (s1 h) fun h' ts e1 e2 h3 lv=>k h' _ ⟨_,_,e1,hc,rfl,by simp [s1 h],fun z=>?_,_,_,e2,rfl,h3⟩ (.inl (Nat.le_refl _)) lv
  have:=Heap.lt_size ho
  rw [z] at this
  exact lt_irrefl _ this
 | some t =>
  obtain ⟨h,hta,oT,tts,hT,dT,h3'⟩:=h
  have h3:tts[3]?=some tts[3]:=Array.getElem?_eq_getElem h3'
  refine wpAny_bind (wpAny_field ho d h ?_)
  rw [if_pos (show (Value.ref t != Value.none)=true from rfl)]
  refine wpAny_bind (wpAny_field hT dT h3 ?_)
  by_cases hfl:(tts[3] == rawInt (L:Int))=true
  .rw [if_pos hfl]
   exact wpAny_pure (k s.heap t ⟨o,vs,ho,hc,d,h,hta,oT,tts,hT,dT,h3'⟩ (.inr rfl) ⟨fun b ob hb _ _ _=>hb,fun b ob hb _ _ _=>⟨ob.slots,hb⟩,fun b ob hb=>⟨ob,hb⟩⟩)
  rw [if_neg hfl]
  refine wpAny_bind (wpAny_setField hT dT h3' ?_)
  obtain ⟨m1,m2⟩:=yvv (f:=fun x=>x.setIfInBounds 3 .none) dT
  have ho':(s.heap.update t (Obj.mapFields fun x=>x.setIfInBounds 3 .none)).get? a=some o:=by rw [Heap.get?_update_ne _ _ _ _ hta.symm];exact ho
  have ez:(s.heap.update t (Obj.mapFields fun x=>x.setIfInBounds 3 .none)).objs.size=s.heap.objs.size:=by simp [Heap.update]
  refine ydR (s:={ s with heap:=s.heap.update t (Obj.mapFields fun x=>x.setIfInBounds 3 .none) }) hce hf (base:=base) ?_ hL ho' d (s1 h) fun h' ts e1 e2 h3 lv=>?_
  .refine ff.of_keeps fun b ob hb nf=>⟨ob,?_,rfl⟩
   rw [Heap.get?_update_ne _ _ _ _ (fun z=>by rw [z,hT] at hb;cases hb;exact nf _ dT)]
   exact hb
  .refine k h' _ ⟨_,_,e1,hc,rfl,by simp [s1 h],fun z=>?_,_,_,e2,rfl,h3⟩ (.inl (by show s.heap.objs.size<=_;rw [<- ez];exact Nat.le_refl _)) ⟨fun b ob hb n1 n2 n3=>?_,fun b ob hb n1 n2 n3=>?_,fun b ob hb=>?_⟩
   .have:=Heap.lt_size ho'
    have z:(s.heap.update t (Obj.mapFields fun x=>x.setIfInBounds 3 .none)).objs.size=a:=z
    rw [z] at this
    exact lt_irrefl _ this
   .exact lv.keep b ob (by rw [Heap.get?_update_ne _ _ _ _ (fun z=>n2 (by rw [z]))];exact hb) n1 (by simp) n3
   .exact lv.slot b ob (by rw [Heap.get?_update_ne _ _ _ _ (fun z=>n2 (by rw [z]))];exact hb) n1 (by simp) n3
   .by_cases e:b=t
    .exact lv.there b (oT.mapFields fun x=>x.setIfInBounds 3 .none) (by rw [e];exact Heap.get?_update_self _ hT m2)
    .exact lv.there b ob (by rw [Heap.get?_update_ne _ _ _ _ e];exact hb)
theorem yhw {Q:Unit->Shared->Prop}{o oT:Obj}{vs ts:Array Value}{t:Addr}(ho:s.heap.get? a=some o) (d:o.data=.fields vs) (hv:vs[1]?=some (.ref t)) (hT:s.heap.get? t=some oT) (dT:oT.data=.fields ts) (h3:3<ts.size) (k:Q () { s with heap:=s.heap.update t (Obj.mapFields fun x=>x.setIfInBounds 3 .none) }):wpAny M A (setFlight (.ref a) none) Q E s:=wpAny_setFlight_none ho d hv hT dT h3 k
theorem ymN {Q:Unit->Shared->Prop}(hf:A.frames=some (env::outer)) (ff:s.heap.FunFrames base (env::outer)) (hL:env.frame=some L) (x:ExcW s.heap a C T)
  (k:∀ h' t,Exc h' a C (some t)->(s.heap.objs.size<=t\/T=some t)->Lv (frs (env::outer)) a T s.heap h'->Q () { s with heap:=h' }):wpAny M A (noteFrame (.ref a) env) (fun _ s'=>wpAny M A (setFlight (.ref a) none) Q E s') E s:=by
 obtain ⟨na,nt⟩:=x.nofr ff
 obtain ⟨o,vs,ho,hc,d,h⟩:=x
 have s1:∀ {v:Value},vs[1]?=some v->1<vs.size:=fun e=>(Array.getElem?_eq_some_iff.mp e).1
 have nn:s.heap.objs.size<=s.heap.objs.size:=Nat.le_refl _
 have fin:∀ (s1:Shared) (h':Heap) (ts:Array Value),s1.heap.objs.size=s.heap.objs.size->s1.heap.get? a=some o->h'.get? a=some { o with data:=.fields (vs.setIfInBounds 1 (.ref s1.heap.objs.size)) }->h'.get? s1.heap.objs.size=some ⟨.type "traceback",none,.fields ts,#[]⟩->3<ts.size->1<vs.size ->
   (∀ h2,(∀ b,b≠s.heap.objs.size->h2.get? b=h'.get? b)->Exc h2 a C (some s.heap.objs.size)->Q () { s1 with heap:=h2 })->wpAny M A (setFlight (.ref a) none) Q E { s1 with heap:=h' }:=by
  intro s1 h' ts ez ea e1 e2 h3 hv kk
  have hlt:a<s.heap.objs.size:=by rw [<- ez];exact Heap.lt_size ea
  rw [ez] at e1 e2
  refine yhw (s:={ s1 with heap:=h' }) (t:=s.heap.objs.size) (o:={ o with data:=.fields (vs.setIfInBounds 1 (.ref s.heap.objs.size)) }) (vs:=vs.setIfInBounds 1 (.ref s.heap.objs.size)) e1 rfl (by simp [hv]) e2 rfl h3 (kk _ (fun b hb=>Heap.get?_update_ne _ _ _ _ hb) ⟨{ o with data:=.fields (vs.setIfInBounds 1 (.ref s.heap.objs.size)) },vs.setIfInBounds 1 (.ref s.heap.objs.size),by rw [Heap.get?_update_ne _ _ _ _ (ne_of_lt hlt)];exact e1,hc,rfl,by simp [hv],(ne_of_lt hlt).symm,_,_,Heap.get?_update_self _ e2 rfl,rfl,by simp [h3]⟩)
 unfold noteFrame
 rw [hL]
 cases T with
 | none =>
  refine wpAny_bind (wpAny_field ho d h ?_)
  rw [if_neg (by decide)]
  refine ydR rfl hf ff hL ho d (s1 h) fun h' ts e1 e2 h3 lv=>?_
  refine fin s h' ts rfl ho e1 e2 h3 (s1 h) fun h2 kp x2=>k h2 _ x2 (.inl nn) ⟨fun b ob hb n1 n2 n3=>?_,fun b ob hb n1 n2 n3=>?_,fun b ob hb=>?_⟩
  .rw [kp b (ne_of_lt (Heap.lt_size hb))];exact lv.keep b ob hb n1 n2 n3
  .rw [kp b (ne_of_lt (Heap.lt_size hb))];exact lv.slot b ob hb n1 n2 n3
  .rw [kp b (ne_of_lt (Heap.lt_size hb))];exact lv.there b ob hb
 | some t =>
  obtain ⟨h,hta,oT,tts,hT,dT,h3'⟩:=h
  have h3:tts[3]?=some tts[3]:=Array.getElem?_eq_getElem h3'
  refine wpAny_bind (wpAny_field ho d h ?_)
  rw [if_pos (show (Value.ref t != Value.none)=true from rfl)]
  refine wpAny_bind (wpAny_field hT dT h3 ?_)
  by_cases hfl:(tts[3] == rawInt (L:Int))=true
  .rw [if_pos hfl]
   refine wpAny_pure ?_
   obtain ⟨m1,m2⟩:=yvv (f:=fun x=>x.setIfInBounds 3 .none) dT
   refine yhw ho d h hT dT h3' (k _ t ⟨o,vs,by rw [Heap.get?_update_ne _ _ _ _ hta.symm];exact ho,hc,d,h,hta,_,_,Heap.get?_update_self _ hT m2,by rw [m1],by simp [h3']⟩ (.inr rfl) ⟨fun b ob hb n1 n2 n3=>?_,fun b ob hb n1 n2 n3=>?_,fun b ob hb=>?_⟩)
   .rw [Heap.get?_update_ne _ _ _ _ (fun z=>n2 (by rw [z]))];exact hb
   .exact ⟨ob.slots,by rw [Heap.get?_update_ne _ _ _ _ (fun z=>n2 (by rw [z]))];exact hb⟩
   .by_cases e:b=t
    .exact ⟨_,by rw [e];exact Heap.get?_update_self _ hT m2⟩
    .exact ⟨ob,by rw [Heap.get?_update_ne _ _ _ _ e];exact hb⟩
  rw [if_neg hfl]
  refine wpAny_bind (wpAny_setField hT dT h3' ?_)
  obtain ⟨m1,m2⟩:=yvv (f:=fun x=>x.setIfInBounds 3 .none) dT
  have ho':(s.heap.update t (Obj.mapFields fun x=>x.setIfInBounds 3 .none)).get? a=some o:=by rw [Heap.get?_update_ne _ _ _ _ hta.symm];exact ho
  have ez:(s.heap.update t (Obj.mapFields fun x=>x.setIfInBounds 3 .none)).objs.size=s.heap.objs.size:=by simp [Heap.update]
  refine ydR (s:={ s with heap:=s.heap.update t (Obj.mapFields fun x=>x.setIfInBounds 3 .none) }) rfl hf (base:=base) ?_ hL ho' d (s1 h) fun h' ts e1 e2 h3 lv=>?_
  .refine ff.of_keeps fun b ob hb nf=>⟨ob,?_,rfl⟩
   rw [Heap.get?_update_ne _ _ _ _ (fun z=>by rw [z,hT] at hb;cases hb;exact nf _ dT)]
   exact hb
  .refine fin { s with heap:=s.heap.update t (Obj.mapFields fun x=>x.setIfInBounds 3 .none) } h' ts ez ho' e1 e2 h3 (s1 h) fun h2 kp x2=>k h2 _ x2 (.inl nn) ⟨fun b ob hb n1 n2 n3=>?_,fun b ob hb n1 n2 n3=>?_,fun b ob hb=>?_⟩
   .rw [kp b (ne_of_lt (Heap.lt_size hb))];exact lv.keep b ob (by rw [Heap.get?_update_ne _ _ _ _ (fun z=>n2 (by rw [z]))];exact hb) n1 (by simp) n3
   .rw [kp b (ne_of_lt (Heap.lt_size hb))];exact lv.slot b ob (by rw [Heap.get?_update_ne _ _ _ _ (fun z=>n2 (by rw [z]))];exact hb) n1 (by simp) n3
   .rw [kp b (ne_of_lt (Heap.lt_size hb))]
    by_cases e:b=t
    .exact lv.there b (oT.mapFields fun x=>x.setIfInBounds 3 .none) (by rw [e];exact Heap.get?_update_self _ hT m2)
    .exact lv.there b ob (by rw [Heap.get?_update_ne _ _ _ _ e];exact hb)
theorem ynK {Q:Unit->Shared->Prop}(hf:A.frames=some (env::outer)) (ff:s.heap.FunFrames base (env::outer)) (hL:env.frame=some L) (x:ExcW s.heap a C T)
  (k:∀ h' t,Exc h' a C (some t)->(s.heap.objs.size<=t\/T=some t)->Lv (frs (env::outer)) a T s.heap h'->Q () { s with heap:=h' }):wpAny M A (leaving env (.ref a)) Q E s:=wpAny_bind (ymN hf ff hL x k)
end
end L2
namespace L2
open PySem PySem.Spec PyProof.Rows
def CXr (P:Program) (w:World):CXT:=fun outer H s E e s'=>∃ a C T H',e=.ref a/\Exc s'.heap a C (some T)/\s.heap.get? a=none/\s.heap.get? T=none/\H' a=none/\H' T=none/\s'.os=s.os/\AllBare s'.gens/\Un (frs outer) [] H H' s.heap s'.heap/\HOk P w H' s'.heap/\E C (some a) H'
structure Fly (X:Cx) (a:Addr) (C:Value) (T:Option Addr) (H:Hp) (s:Shared):Prop where
 x:ExcW s.heap a C T
 na:X.s₀.heap.get? a=none
 nt:∀ t,T=some t->X.s₀.heap.get? t=none/\H t=none
 ha:H a=none
 inv:∃ pins σ,Inv X pins σ H s
section
variable {P:Program}{w:World}{K:PySem.W.Frag}{mg:Str->Option Value}{base:Heap}{N:List Str}{qual:Str}{scope:Scope}{f a:Addr}{cd C:Value}{A:Around}{outer:List Env}{s s':Shared}{H H':Hp}{E:XK}{T:Option Addr}
theorem ytc (F:Fly (ylv (CXr P w) P w K mg base N qual scope f cd A outer s H E) a C T H' s') (q:E C (some a) H'):(ylv (CXr P w) P w K mg base N qual scope f cd A outer s H E).xe (.ref a) s':=by
 obtain ⟨x,na,nt,ha,pins,σ,I⟩:=F
 have na:s.heap.get? a=none:=na
 have nt:∀ t,T=some t->s.heap.get? t=none/\H' t=none:=nt
 have un:Un (frs outer) [] H H' s.heap s'.heap:=I.base
 have st:s'.heap.FunFrames base (envOfC qual scope s.heap.objs.size f cd::outer):=I.stack
 have sf:∀ b∈frs (envOfC qual scope s.heap.objs.size f cd::outer),H' b=none:=I.stkFree
 have lt:∀ {b:Addr}{o:Obj},s.heap.get? b=some o->b<s.heap.objs.size:=fun e=>Heap.lt_size e
 have sz:s.heap.objs.size<=s'.heap.objs.size:=I.sz
 show wpAny (model P w) (A.deeper (envOfC qual scope s.heap.objs.size f cd)) (leaving (envOfC qual scope s.heap.objs.size f cd) (.ref a)) (fun _ s''=>CXr P w outer H s E (.ref a) s'') _ s'
 refine ynK (L:=s.heap.objs.size) (A:=A.deeper (envOfC qual scope s.heap.objs.size f cd)) (by have:=I.ok.frames;exact this) st rfl x fun h' t x' ht lv=>?_
 have hfs:∀ b,b∈frs (envOfC qual scope s.heap.objs.size f cd::outer)->b=s.heap.objs.size\/b∈frs outer:=fun b hb=>by
  rcases mem_cons.mp (show b∈s.heap.objs.size::frs outer from hb) with e|e
  .exact .inl e
  .exact .inr e
 have neT:∀ {b:Addr}{o:Obj},s.heap.get? b=some o->some b≠T:=fun {b o} hb z=>by rw [(nt b z.symm).1] at hb;cases hb
 have nea:∀ {b:Addr}{o:Obj},s.heap.get? b=some o->b≠a:=fun {b o} hb z=>by rw [z,na] at hb;cases hb
 have nt':s.heap.get? t=none/\H' t=none:=by
  rcases ht with ht|ht
  .refine ⟨?_,I.hok.fresh ht⟩
   cases e:s.heap.get? t with
   | none=>rfl
   | some o=>exact absurd (lt e) (Nat.not_lt_of_le (Nat.le_trans sz ht))
  .exact nt t ht
 refine ⟨a,C,t,H',rfl,x',na,nt'.1,ha,nt'.2,I.os,I.bare,⟨?_,?_,?_,?_,un.tups,un.frzs,un.tbls⟩,?_,q⟩
 .intro b o hb n1 n2 n3
  refine lv.keep b o (un.keep b o hb n1 n2 n3) (nea hb) (neT hb) fun z=>?_
  rcases hfs b z with e|e
  .exact ne_of_lt (lt hb) e
  .exact n2 e
 .intro b o hb n1 n2 n3
  obtain ⟨sl,e⟩:=un.slot b o hb n1 n2 n3
  obtain ⟨sl',e'⟩:=lv.slot b _ e (nea hb) (neT hb) (mem_cons_of_mem _ n2)
  exact ⟨sl',e'⟩
 .exact un.free
 .intro b o hb n1
  obtain ⟨o',e⟩:=un.there b o hb n1
  exact lv.there b o' e
 .intro b o hb
  have kp:∀ c u,(∃ v,H' c=some v)->s'.heap.get? c=some u->h'.get? c=some u:=fun c u ⟨v,hv⟩ hc=>lv.keep c u hc (fun z=>by rw [z,ha] at hv;cases hv) (fun z=>by rw [(nt c z.symm).2] at hv;cases hv) fun z=>by rw [sf c z] at hv;cases hv
  refine (I.hok b o hb).stay (fun c u hc=>kp c u ?_) (fun _ q=>q) fun _ _ q=>q
  rcases hc with e|e
  .exact ⟨o,by rw [e];exact hb⟩
  .exact ⟨_,e⟩
theorem ywm {E':XK}(hE:∀ C a H',E' C a H'->E C a H'):Passes (CXr P w) (ylv (CXr P w) P w K mg base N qual scope f cd A outer s H E) E':=by
 rintro pins σ H1 s1 e s' I ⟨a,C,T,H',rfl,x,na,nt,ha,ht,os,bare,un,hok,q⟩
 have I':=I.call' (s':=s') os un hok bare (fun b z=>absurd z (by simp))
 have un1:Un (frs outer) [] H H1 s.heap s1.heap:=I.base
 have up:∀ b,s1.heap.get? b=none->s.heap.get? b=none:=fun b hb=>by
  cases e:s.heap.get? b with
  | none=>rfl
  | some o =>
   obtain ⟨o',e'⟩:=un1.there b o e (by simp)
   rw [hb] at e';cases e'
 exact ytc ⟨x.w,up a na,fun t e=>by cases e;exact ⟨up _ nt,ht⟩,ha,pins,σ,I'⟩ (hE _ _ _ q)
end
end L2
namespace L2
open PySem PySem.Spec PyProof.Rows
structure XCls (K:PySem.W.Frag) (C:Addr):Prop where
 ex:∃ (nm q:Str) (N:Addr) (bs bm bmB:List Value) (hdct:Bool) (sn:List Str) (sub:List Value) (ab:Bool) (col:Option Bool) (dd:Option Addr) (k0 k1 k2 k3 k5:Option Value) (B newId initId:String) (mN:Str->Option Value),
  ExcBaseFacts B newId initId bmB/\bm.contains (.type "BaseException")=true/\mN "__init__" = none/\∀ h:Heap,K.In h->h.get? C=some (excClassObj nm q C N bs bm hdct sn sub ab col dd k0 k1 k2 k3 k5 newId)/\h.Ns N mN/\OwnTail h bmB bm
noncomputable def XEs (X:Cx) (E:XK):Prop:=∀ (a:Addr) (C:Value) (T:Option Addr) (H:Hp) (s:Shared),Fly X a C T H s->E C (some a) H->X.xe (.ref a) s
def ywn (C:Addr) (E:XK) (t:TE):TS:=fun _ σ H=>t σ H fun v H1=>[v].length=1/\∀ a,H1 a=none->E (.ref C) (some a) H1
theorem ObjOk.there {P:Program}{w:World}{H:Hp}{h:Heap}{a:Addr}{o:HO}(x:ObjOk P w H h a o):∃ u,h.get? a=some u:=by
 cases o with
 | lst xs=>obtain ⟨_,_,_,_,e⟩:=x;exact ⟨_,e⟩
 | tup xs=>obtain ⟨_,_,_,p⟩:=x;obtain ⟨_,e⟩:=p;first|exact ⟨_,e⟩|exact ⟨_,e.1⟩
 | dK kvs=>obtain ⟨_,_,_,_,o,_,_,e,_⟩:=x;exact ⟨_,e⟩
 | dT kvs=>obtain ⟨_,_,_,_,o,_,_,e,_⟩:=x;exact ⟨_,e⟩
 | set S n=>obtain ⟨o,_,_,_,e,_⟩:=x;exact ⟨_,e⟩
 | ins C dx fs=>obtain ⟨_,_,_,e,_⟩:=x;exact ⟨_,e⟩
 | own y=>obtain ⟨_,e⟩:=x;exact ⟨_,e⟩
 | xd fs=>obtain ⟨_,⟨_,_,_,e,_⟩,_⟩:=x;exact ⟨_,e⟩
 | rng lo hi=>obtain ⟨_,_,_,e⟩:=x;exact ⟨_,e⟩
 | frz ob u=>obtain ⟨e,_⟩:=x;exact ⟨_,e⟩
 | tbl ps=>exact ⟨_,x⟩
 | met f y=>exact ⟨_,x⟩
 | ext φ=>obtain ⟨_,⟨_,e⟩,_⟩:=x;exact ⟨_,e⟩
section
variable {X:Cx}{pins:List (Addr×Obj)}{σ:St}{H:Hp}{s:Shared}{h':Heap}
theorem Inv.more (I:Inv X pins σ H s) (k:∀ b o,s.heap.get? b=some o->h'.get? b=some o):Inv X pins σ H { s with heap:=h' } :=
 I.call (ch:=[]) (Un.kept k) (I.hok.kept k) I.bare (fun b z=>absurd z (by simp))
theorem yra {C:Addr}{x:Str}{np cpos pos:Pos}{e:Expr}{t:TE}{E:XK}(c:XCls X.K C) (hE:XEs X E) (hx:X.ex=[]) (hc:X.calm=true) (hg:Gl X x) (hm:X.mg x=some (.ref C)) (ha:PE X e t)
  (hst:starEach [e] X.env=[(false,eval e X.env)]:=by rfl) (hd:(x == ("__debug__":Str))=false:=by decide):PS X (.Raise (some (.Call (.Name x np) [e] [] cpos)) none pos) (ywn C E t):=by
 intro pins s σ H D I h
 obtain ⟨nm,q,N,bs,bm,bmB,hdct,sn,sub,ab,col,dd,k0,k1,k2,k3,k5,B,newId,initId,mN,F,hb,hi,hk⟩:=c.ex
 refine wpAny_Raise_call_subT (nm:=nm) (q:=q) (N:=N) (bs:=bs) (hdct:=hdct) (sn:=sn) (sub:=sub) (ab:=ab) (col:=col) (dd:=dd) (k0:=k0) (k1:=k1) (k2:=k2) (k3:=k3) (k5:=k5) F hb (I.ok.hd hc) (by rw [hst];rfl) hi (yeS I hg hm ⟨rfl,?_⟩ hd)
 rw [hst]
 refine Calls.evalArgs_plain ?_
 have pa:=yex ha yim (by rw [hst];rfl) cpos pins s σ H (fun vs H1=>vs.length=1/\∀ a,H1 a=none->E (.ref C) (some a) H1) I h
 rw [hst] at pa
 refine thn pa fun us s1 ⟨vs,H1,I1,r,hl,q1⟩=>?_
 have hl:us.length=1:=by rw [<- r.length];exact hl
 obtain ⟨g1,g2,g3⟩:=hk s1.heap I1.kIn
 refine ⟨rfl,by rw [hl];decide,g1,g2,g3,fun h' a me=>?_⟩
 obtain ⟨t',e1,e2,e3⟩:=me.there
 have I2:=I1.more (h':=h') me.keeps
 have hn:H1 a=none:=by
  cases q:H1 a with
  | none=>rfl
  | some o =>
   obtain ⟨u,e⟩:=(I1.hok a o q).there
   rw [me.new] at e;cases e
 have n0:X.s₀.heap.get? a=none:=by
  cases e:X.s₀.heap.get? a with
  | none=>rfl
  | some o =>
   obtain ⟨u,e'⟩:=I1.base.there a o e (by rw [hx];simp)
   rw [me.new] at e';cases e'
 exact hE a (.ref C) none H1 _ ⟨⟨_,_,e1,⟨rfl,rfl⟩,rfl,rfl⟩,n0,(fun t z=>by cases z),hn,pins,σ,I2⟩ (q1 a hn)
end
end L2
namespace L2
open PySem PySem.Spec PyProof.Rows
section
variable {M:Model}{A:Around}{E:Value->Shared->Prop}{s:Shared}
theorem yoT {nm q:Str}{C N:Addr}{bs bm:List Value}{hdct:Bool}{sn:List Str}{sub:List Value}{ab:Bool}{col:Option Bool}{dd:Option Addr}{k0 k1 k2 k3 k5:Option Value}{newId:String}
  {nm' q':Str}{C' N':Addr}{bs' bm':List Value}{hdct':Bool}{sn':List Str}{sub':List Value}{ab':Bool}{col':Option Bool}{dd':Option Addr}{k0' k1' k2' k3' k5':Option Value}{newId':String}{e:Addr}{oe:Obj}{Q:Bool->Shared->Prop}
  (hC:s.heap.get? C=some (excClassObj nm q C N bs bm hdct sn sub ab col dd k0 k1 k2 k3 k5 newId)) (hH:s.heap.get? C'=some (excClassObj nm' q' C' N' bs' bm' hdct' sn' sub' ab' col' dd' k0' k1' k2' k3' k5' newId')) (he:s.heap.get? e=some oe) (hc:oe.cls=.ref C) (hb:bm'.contains (.type "BaseException")=true) (hq:Q ((Value.ref C::bm).contains (.ref C')) s) :
  wpAny M A (excMatches (.ref e) (.ref C')) Q E s:=by
 obtain ⟨h,g,d,t,os⟩:=s
 have hcB:(Value.ref C'::bm').contains (.type "BaseException")=true:=by rw [List.contains_cons,hb,Bool.or_true]
 unfold excMatches isInstance
 refine wpAny_bind (wpAny_bind ?_)
 show wpAny M A (typeOf (.ref C')) _ _ _
 unfold typeOf
 refine wpAny_bind (wpAny_loadPart_at hH (wpAny_pure (wpAny_of_eq tc_notTuple ?_)))
 refine wpAny_ite_false rfl (wpAny_bind (wpAny_pure (wpAny_bind ?_)))
 simp only [List.forIn_cons,List.forIn_nil]
 unfold isExcClass isType
 refine wpAny_bind (wpAny_bind (wpAny_bind (wpAny_bind (wpAny_loadPart_at hH (wpAny_pure (wpAny_ite_true rfl (wpAny_isSubtype_exc hH ?_)))))))
 rw [hcB]
 refine wpAny_ite_false rfl (wpAny_pure (wpAny_pure (wpAny_bind (wpAny_bind (wpAny_loadPart_at he (wpAny_pure (wpAny_bind (wpAny_bind ?_))))))))
 rw [hc]
 refine wpAny_bind (wpAny_isSubtype_exc hC ?_)
 generalize (Value.ref C::bm).contains (Value.ref C')=b at *
 cases b with
 | true=>exact wpAny_ite_true rfl (wpAny_pure (wpAny_pure (wpAny_pure hq)))
 | false=>exact wpAny_ite_false rfl (wpAny_pure (wpAny_pure (wpAny_pure hq)))
end
end L2
namespace L2
open PySem PySem.Spec PyProof.Rows
section
variable {prog:Program}{w:World}{A:Around}{E:Value->Shared->Prop}{s:Shared}{K:PySem.W.Frag}{a D:Addr}{ox:Obj}
theorem ytR:((Manifest.find? "BaseException").bind fun x=>List.lookup "__getattribute__" x.attrs)=some Manifest.AttrKind.slot:=by rfl'
theorem ga_slot:Slot "BaseException" "__getattribute__" "BaseException.__getattribute__" :=
 Slot.of (by rw [typeLookup_type,builtinLookup_eq_fast];rfl) (owner:="BaseException") (n:="__getattribute__") (by rfl) (by rfl) (by rfl) (Or.inl ytR) (by rw [isSubtype_type];rfl) (by rfl')
theorem yrb:entryFor table "BaseException.__getattribute__" = some Builtin.«object.__getattribute__»:=by exact entryFor_alias (id':="object.__getattribute__") (by rfl) (by rfl) (by rfl') (by rfl)
theorem yyT:builtinKind "BaseException.__getattribute__" = some Manifest.AttrKind.slot:=by first|rfl|rfl'
theorem yyU:splitId "BaseException.__getattribute__" = some ("BaseException","__getattribute__"):=by rfl
theorem ytS (x y:Value):argsOk "BaseException.__getattribute__" { pos:=[x,y] }:=by
 unfold argsOk
 first
  | rfl
  | skip
theorem yrc {tk:Tok}{Q:Unit->Shared->Prop}{x:Str}(L:∀ {Q:Bool->Shared->Prop},Q true s->wpAny (model prog w) A (isSubtype (.ref D) (.type "BaseException")) Q E s) (I:PySem.W.InstAt s.heap a ox D none) (hq:Q () s):wpAny (model prog w) A (checkBuiltinCall "BaseException.__getattribute__" { pos:=[.ref a,.str x tk] }) Q E s:=by
 have h:=ytS (.ref a) (.str x tk)
 unfold argsOk at h
 unfold checkBuiltinCall
 rw [yyT,yyU]
 unfold isInstance
 refine wpAny_bind (wpAny_bind ((PySem.W.InstAt.type I).at (L ?_)))
 refine wpAny_ite_false rfl ?_
 exact wpAny_of_eq h hq
theorem ywo {tk:Tok}{R:Result->Shared->Prop}(X:K.In s.heap) (I:PySem.W.InstAt s.heap a ox D none) (L:∀ {A:Around}{E:Value->Shared->Prop}{Q:Bool->Shared->Prop},Q true s->wpAny (model prog w) A (isSubtype (.ref D) (.type "BaseException")) Q E s)
  (hf:PySem.W.findObj K D none "__class__" = some (Builtin.ObjectAttr.Found.bind (.builtin "getset_descriptor.__get__") (.builtin "object.__class__"))) (hm:mroIn K D (.type "object")=some true) (hq:R (.ok (.ret (.ref D))) s) :
  codeAny (model prog w) A (.call (.builtin "BaseException.__getattribute__") { pos:=[.ref a,.str "__class__" tk] }) R s:=by
 refine codeAny_call_builtin ga_slot.plain yrb (yrc L I ?_)
 unfold Builtin.«object.__getattribute__» slotArgs
 refine wpAny_bind (wpAny_ite_false rfl (wpAny_ite_false rfl (wpAny_pure ?_)))
 refine wpAny_bind (wpAny_pure (wpAny_bind ((PySem.W.InstAt.type I).at (wpAny_bind ((PySem.W.looks_find X I hf).at ?_)))))
 show wpAny _ _ (Builtin.ObjectAttr.bindTo _ _ _ _) _ _ _
 unfold Builtin.ObjectAttr.bindTo
 refine wpAny_bind (wpAny_holding (wpAny_call (PySem.W.class_get X I hm ?_)))
 exact wpAny_pure hq
theorem yoU {Q:Option Value->Shared->Prop}(X:K.In s.heap) (I:PySem.W.InstAt s.heap a ox D none) (L:∀ {s:Shared}{A:Around}{E:Value->Shared->Prop}{Q:Bool->Shared->Prop},K.In s.heap->Q true s->wpAny (model prog w) A (isSubtype (.ref D) (.type "BaseException")) Q E s)
  (hga:findIn K (.ref D) "__getattribute__" = some (some (.builtin "BaseException.__getattribute__"))) (hgn:findIn K (.ref D) "__getattr__" = some none)
  (hf:PySem.W.findObj K D none "__class__" = some (Builtin.ObjectAttr.Found.bind (.builtin "getset_descriptor.__get__") (.builtin "object.__class__"))) (hm:mroIn K D (.type "object")=some true)
  (hq:Q (some (.ref D)) { s with toks:=s.toks+1 }):wpAny (model prog w) A (getAttr? (.ref a) "__class__") Q E s:=by
 obtain ⟨hh,g,d,t,os⟩:=s
 have L0:=fun M=>PySem.W.InstAt.type (M:=M) I
 have L1:=fun M=>PySem.W.looks_findIn (M:=M) X hga
 have L2:=fun M=>PySem.W.looks_findIn (M:=M) X hgn
 unfold getAttr? getAttrBy?
 refine wpAny_bind (wpAny_mkText (wpAny_bind (wpAny_attempt ?_)))
 unfold getAttrBy
 refine wpAny_holding (wpAny_bind ((L0 _).at (wpAny_bind ((L1 _).at ?_))))
 refine wpAny_ite_false rfl ?_
 unfold getAttrByItsOwn hookBefore
 refine wpAny_bind (wpAny_ite_true rfl ((L2 _).at (wpAny_bind (wpAny_attempt (wpAny_holding ?_)))))
 unfold callGetattribute boundAndCalled
 refine wpAny_ite_false rfl (wpAny_bind (wpAny_of_eq (ga_slot.bind _) (wpAny_call (ywo X I (fun q=>L X q) hf hm ?_))))
 exact wpAny_pure (wpAny_pure hq)
theorem yrd {c0:Value}{dd:Option Addr}{cd:ClassData}{sl:Array (Option Value)}(lk:K.lookup D=some ⟨c0,dd,.cls cd,sl⟩) (L:∀ {prog:Program}{w:World}{s:Shared}{A:Around}{E:Value->Shared->Prop}{Q:Bool->Shared->Prop},K.In s.heap->Q true s->wpAny (model prog w) A (isSubtype (.ref D) (.type "BaseException")) Q E s)
  (hga:findIn K (.ref D) "__getattribute__" = some (some (.builtin "BaseException.__getattribute__"))) (hgn:findIn K (.ref D) "__getattr__" = some none)
  (hf:PySem.W.findObj K D none "__class__" = some (Builtin.ObjectAttr.Found.bind (.builtin "getset_descriptor.__get__") (.builtin "object.__class__"))) (hm:mroIn K D (.type "object")=some true) :
  PySem.W.KitX K (.ref a) (.ref D) fun h=>∃ ox,PySem.W.InstAt h a ox D none where
 ty:=fun _ _ _ ⟨_,I⟩=>PySem.W.InstAt.type I
 it:=fun _ _ X _ A' Q' E' s' k q=>by
  unfold isType
  exact wpAny_bind (wpAny_loadPart (k D _ (X D _ lk)) (wpAny_pure q))
 ne:=fun h tp _ _ _ _ X htp=>by
  refine Bool.eq_false_iff.mpr fun z=>?_
  have e:D=tp:=Value.ref.inj (beq_iff_eq.mp z)
  have:=X D _ lk
  rw [e,htp] at this
  cases this
 ca:=fun X ⟨_,I⟩ hq=>yoU X I L hga hgn hf hm hq
end
end L2
namespace L2
open PySem PySem.Spec PyProof.Rows
theorem ExO.ok {P:Program}{w:World}{H:Hp}{h:Heap}{a D:Addr}{ox:Obj}(I:PySem.W.InstAt h a ox D none):ObjOk P w H h a (ExO D a) :=
 ⟨⟨ox,I⟩,⟨ox,I.at_⟩,fun _ _ ⟨o,J⟩ k=>⟨o,k o J.at_,J.cls,J.no,by
  have:=J.dict
  revert this
  cases o.dict with
  | none=>exact fun _=>trivial
  | some dx=>exact fun z=>z.elim⟩⟩
noncomputable def ywp (K:PySem.W.Frag):List V->Hp->VK->Prop:=fun vs H Q=>yyQ K vs H Q\/∃ (a D:Addr) (c:V) (u:Value) (b:Bool),vs=[.ref a,c]/\H a=some (ExO D a)/\PySem.W.KitX K (.ref a) (.ref D) (fun h=>∃ ox,PySem.W.InstAt h a ox D none)/\cV c=some u/\PySem.W.kitOne K (.ref D) u=some b/\Q (.bl b) H
theorem ycS {X:Cx}:yfP X (.builtin "isinstance") (ywp X.K):=by
 intro pins s σ H xs us Q I r h
 rcases h with h|⟨a,D,c,u',b,rfl,e,kx,hc,hk,q⟩
 .exact yT pins s σ H xs us Q I r h
 .obtain ⟨u,w',rfl,ru,rc⟩:=vals2 r
  have e1:w'=u':=by
   cases c<;>first|(cases hc;exact rc)|cases hc
  subst e1
  obtain rfl:u=Value.ref a:=ru
  obtain ⟨p,_,_⟩:=(show ObjOk X.prog X.w H s.heap a (ExO D a) from I.hok a _ e)
  exact kia_one kx I.kIn p hk (fun z=>nomatch z) fun tk=>⟨.bl b,H,I.tok tk,rfl,q⟩
end L2
namespace L2
open PySem PySem.Spec PyProof.Rows
section
variable {P:Program}{w:World}{fs:List Addr}{H H':Hp}{h h1 h':Heap}{a D:Addr}{T:Option Addr}{ox:Obj}
theorem Un.noted (un:Un fs [] H H' h h1) (lv:Lv fs a T h1 h') (na:h.get? a=none) (nt:∀ t,T=some t->h.get? t=none) (h0:H a=none) (o:HO):Un fs [] H (upd H' a o) h h':=by
 have nea:∀ {b:Addr}{o:Obj},h.get? b=some o->b≠a:=fun {b o} hb z=>by rw [z,na] at hb;cases hb
 have neT:∀ {b:Addr}{o:Obj},h.get? b=some o->some b≠T:=fun {b o} hb z=>by rw [nt b z.symm] at hb;cases hb
 refine ⟨fun b o hb n1 n2 n3=>lv.keep b o (un.keep b o hb n1 n2 n3) (nea hb) (neT hb) n2,fun b o hb n1 n2 n3=>?_,fun b o hb n1 n3=>?_,fun b o hb n3=>?_,?_,?_,?_⟩
 .obtain ⟨sl,e⟩:=un.slot b o hb n1 n2 n3
  obtain ⟨sl',e'⟩:=lv.slot b _ e (nea hb) (neT hb) n2
  exact ⟨sl',e'⟩
 .rw [yU (nea hb)]
  exact un.free b o hb n1 n3
 .obtain ⟨o',e⟩:=un.there b o hb n3
  exact lv.there b o' e
 .intro b xs q
  rw [yU (fun z=>by rw [z,h0] at q;cases q)]
  exact un.tups b xs q
 .intro b o u q
  rw [yU (fun z=>by rw [z,h0] at q;cases q)]
  exact un.frzs b o u q
 .intro b ps q
  rw [yU (fun z=>by rw [z,h0] at q;cases q)]
  exact un.tbls b ps q
theorem HOk.noted (ok:HOk P w H' h1) (lv:Lv fs a T h1 h') (ha:H' a=none) (hT:∀ t,T=some t->H' t=none) (hfs:∀ b∈fs,H' b=none) (I:PySem.W.InstAt h' a ox D none):HOk P w (upd H' a (ExO D a)) h':=by
 intro b o hb
 by_cases e:b=a
 .rw [e,yG] at hb
  cases hb
  rw [e]
  exact ExO.ok I
 .rw [yU e] at hb
  have kp:∀ c u,(∃ v,H' c=some v)->h1.get? c=some u->h'.get? c=some u:=fun c u ⟨v,hv⟩ hc=>lv.keep c u hc (fun z=>by rw [z,ha] at hv;cases hv) (fun z=>by rw [hT c z.symm] at hv;cases hv) fun z=>by rw [hfs c z] at hv;cases hv
  have ne:∀ c v,H' c=some v->c≠a:=fun c v hv z=>by rw [z,ha] at hv;cases hv
  refine (ok b o hb).stay (fun c u hc=>kp c u ?_) (fun c q=>by rw [yU (ne c _ q)];exact q) fun c xs q=>by rw [yU (ne c _ q)];exact q
  rcases hc with e|e
  .exact ⟨o,by rw [e];exact hb⟩
  .exact ⟨_,e⟩
end
end L2
namespace L2
open PySem PySem.Spec PyProof.Rows
theorem Exc.inst {h:Heap}{a D:Addr}{T:Option Addr}(x:Exc h a (.ref D) T):∃ ox,PySem.W.InstAt h a ox D none:=by
 obtain ⟨o,vs,ho,⟨hc,hd⟩,dd,_⟩:=x
 refine ⟨o,ho,hc,?_,?_⟩
 .unfold PySem.W.notCls
  rw [dd]
 .rw [hd];trivial
theorem ymO {K:PySem.W.Frag}{bmB:List Value}{v:Value}(hb:bmB.contains v=true):∀ {l:List Value},PySem.W.tailIn K bmB l=true->l.contains v=true
 | [],e=>by rw [show bmB=[] from (beq_iff_eq.mp e).symm ▸ rfl] at hb;cases hb
 | u::r,e=>by
  unfold PySem.W.tailIn at e
  rcases Bool.or_eq_true_iff.mp e with q|q
  .rw [beq_iff_eq.mp q];exact hb
  .split at q
   .split at q
    .simp only [and_eq_true] at q
     rw [List.contains_cons,ymO hb q.2,Bool.or_true]
    .cases q
   .cases q
theorem XCls.of {K:PySem.W.Frag}{C:Addr}(q:PySem.W.excIn K C [.type "ValueError",.type "Exception",.type "BaseException",.type "object"] "ValueError.__new__" = true):XCls K C:=by
 unfold PySem.W.excIn at q
 split at q
 .rename_i dd cd sl ho
  split at q
  .rename_i C' bm k0 k1 k2 k3 n k5 hm hs
   simp only [and_eq_true,beq_iff_eq,Bool.not_eq_true'] at q
   obtain ⟨⟨⟨⟨⟨rfl,rfl⟩,hdel⟩,ht⟩,hok⟩,hni⟩:=q
   obtain ⟨nm,bs,mro,ns,qn,hd,sn,sub,ab,col,del⟩:=cd
   dsimp only at hm hdel hok hni
   subst hm hdel
   have hsl:sl = #[k0,k1,k2,k3,some (.builtin "ValueError.__new__"),k5]:=by
    obtain ⟨l⟩:=sl
    simp only at hs
    rw [hs]
   subst hsl
   have:∃ c d es m sl,K.lookup ns=some ⟨c,d,.dict es m,sl⟩:=by
    unfold PySem.W.nsOkIn at hok
    split at hok
    .rename_i c d es m sl ho
     exact ⟨_,_,_,_,_,ho⟩
    .cases hok
   obtain ⟨c,d,es,m,sl,hl⟩:=this
   have hmap:∀ h:Heap,K.In h->h.nsMap ns=nsFind es:=fun h X=>by
    funext x
    unfold Heap.nsMap
    rw [X _ _ hl]
   refine ⟨⟨nm,qn,ns,bs,bm,_,hd,sn,sub,ab,col,dd,k0,k1,k2,k3,k5,"ValueError","ValueError.__new__","ValueError.__init__",nsFind es,PySem.F.excBase_ValueError,ymO (by decide) ht,?_,fun h X=>⟨X _ _ ho,?_,PySem.W.tail_of_in X ht⟩⟩⟩
   .unfold nsIn at hni
    rw [hl] at hni
    dsimp only at hni
    split at hni
    .cases hni
    .rename_i he
     unfold nsFind findBy
     rw [<- Array.find?_toList,he]
     rfl
   .rw [<- hmap h X]
    exact .of_isNs (PySem.W.isNs_of_in X hok)
  .cases q
 .cases q
structure XSub (K:PySem.W.Frag) (D C:Addr):Prop where
 d:XCls K D
 c:XCls K C
 m:mroIn K D (.ref C)=some true
theorem XSub.hit {M:Model}{A:Around}{E:Value->Shared->Prop}{s:Shared}{K:PySem.W.Frag}{D C e:Addr}{Q:Bool->Shared->Prop}{T:Option Addr}(z:XSub K D C) (X:K.In s.heap) (x:Exc s.heap e (.ref D) T) (hq:Q true s):wpAny M A (excMatches (.ref e) (.ref C)) Q E s:=by
 obtain ⟨nm,q,N,bs,bm,bmB,hdct,sn,sub,ab,col,dd,k0,k1,k2,k3,k5,B,newId,initId,mN,F,hb,hi,hk⟩:=z.d.ex
 obtain ⟨nm',q',N',bs',bm',bmB',hdct',sn',sub',ab',col',dd',k0',k1',k2',k3',k5',B',newId',initId',mN',F',hb',hi',hk'⟩:=z.c.ex
 obtain ⟨g1,g2,g3⟩:=hk _ X
 obtain ⟨g1',g2',g3'⟩:=hk' _ X
 obtain ⟨o,vs,ho,⟨hc,hd⟩,_⟩:=x
 have hm:=z.m
 refine yoT g1 g1' ho hc hb' ?_
 have:(Value.ref D::bm).contains (.ref C)=true:=by
  unfold mroIn PySem.W.clsIn at hm
  split at hm
  .rename_i c0 d0 cd sl0 hl
   have:=X _ _ hl
   rw [g1] at this
   cases this
   simpa using hm
  .cases hm
 rw [this]
 exact hq
end L2
namespace L2
open PySem PySem.Spec PyProof.Rows
def Cx.inX (X:Cx) (a:Addr) (xe:Value->Shared->Prop):Cx:={ X with A:=X.A.mark (some (.ref a)),calm:=false,xe:=xe }
def Cx.wX (X:Cx) (xe:Value->Shared->Prop):Cx:={ X with xe:=xe }
section
variable {X:Cx}{pins:List (Addr×Obj)}{σ:St}{H:Hp}{s:Shared}{h':Heap}{a:Addr}{xe:Value->Shared->Prop}
theorem Inv.inX (I:Inv X pins σ H s):Inv (X.inX a xe) pins σ H s :=
 ⟨⟨I.ok.mod,I.ok.kind,I.ok.glob,I.ok.blt,I.ok.above,I.ok.inj,I.ok.has,I.ok.cab,(fun z=>by cases z),I.ok.frames,I.ok.stk,I.ok.exf,I.ok.bs,I.ok.bsz,I.ok.noex,I.ok.exfs,I.ok.funs,I.ok.frf⟩,I.os,I.bare,I.base,I.loc,I.cell,I.free,I.freeC,I.pin,I.hok,I.len⟩
theorem Inv.outX (ok:X.Ok) (I:Inv (X.inX a xe) pins σ H s):Inv X pins σ H s:=⟨ok,I.os,I.bare,I.base,I.loc,I.cell,I.free,I.freeC,I.pin,I.hok,I.len⟩
theorem Inv.wX (I:Inv X pins σ H s):Inv (X.wX xe) pins σ H s :=
 ⟨⟨I.ok.mod,I.ok.kind,I.ok.glob,I.ok.blt,I.ok.above,I.ok.inj,I.ok.has,I.ok.cab,I.ok.hd,I.ok.frames,I.ok.stk,I.ok.exf,I.ok.bs,I.ok.bsz,I.ok.noex,I.ok.exfs,I.ok.funs,I.ok.frf⟩,I.os,I.bare,I.base,I.loc,I.cell,I.free,I.freeC,I.pin,I.hok,I.len⟩
theorem Inv.unX (ok:X.Ok) (I:Inv (X.wX xe) pins σ H s):Inv X pins σ H s:=⟨ok,I.os,I.bare,I.base,I.loc,I.cell,I.free,I.freeC,I.pin,I.hok,I.len⟩
theorem ytT {M:Model}{A:Around}{E:Value->Shared->Prop}{i:Nat}{x:Str}{pos:Pos}{Q:Unit->Shared->Prop}(I:Inv X pins σ H s) (hN:X.N.Nodup) (hi:X.N[i]?=some x) (hk:X.env.scope.names.lookup x=some .local)
  (h:∀ s',Inv X pins (σ.set i none) H s'->Q () s'):wpAny M A (do bindName X.env x .none;unbindBehindTheSuite X.env x pos) Q E s:=by
 obtain ⟨m,hn,hl⟩:=id I.loc
 have hcls:(X.env.scope.kind == .class || (X.env.scope.kind == .module && X.env.locals != X.env.globals))=false:=by rw [I.ok.kind];rfl
 have hiσ:i<σ.length:=by rw [I.len];exact (List.getElem?_eq_some_iff.mp hi).1
 have cne:=I.cne
 have tracked:∀ {a:Addr}{h':Heap},(∃ o,s.heap.get? a=some o/\H a=none)->Heap.SameBut a s.heap h'->HOk X.prog X.w H h':=fun {a h'} ha hs b ob e=>by
  obtain ⟨_,_,hfree⟩:=ha
  refine (I.hok b ob e).stay (fun c w' hc q=>(hs.2 c ?_).trans q) (fun _ q=>q) fun _ _ q=>q
  rintro rfl
  rcases hc with rfl|hc
  .rw [hfree] at e;cases e
  .rw [hfree] at hc;cases hc
 refine wpAny_nameGoes_keeps hk hn hcls fun h' v hn' hs=>?_
 obtain ⟨oL,_,_,hoL,_⟩:=id hn
 refine h _ ⟨I.ok,I.os,I.bare,⟨fun b o e n hb hx=>?_,fun b o e n hb hx=>?_,I.base.free,fun b o e hx=>?_,I.base.tups,I.base.frzs,I.base.tbls⟩,⟨_,hn',fun j y v' e1 e2 e3=>?_⟩,fun y c e=>?_,I.free,I.freeC,fun p hp=>?_,tracked ⟨oL,hoL,I.free⟩ hs,by simpa using I.len⟩
 .exact (hs.2 b (ne_of_lt (lt_of_lt_of_le (Heap.lt_size e) I.ok.above))).trans (I.base.keep b o e n hb hx)
 .obtain ⟨sl,e1⟩:=I.base.slot b o e n hb hx
  exact ⟨sl,(hs.2 b (ne_of_lt (lt_of_lt_of_le (Heap.lt_size e) I.ok.above))).trans e1⟩
 .obtain ⟨o',e1⟩:=I.base.there b o e hx
  exact ⟨o',(hs.2 b (ne_of_lt (lt_of_lt_of_le (Heap.lt_size e) I.ok.above))).trans e1⟩
 .by_cases hj:j=i
  .subst hj
   rw [getElem?_set_self hiσ] at e2
   cases e2
  .rw [getElem?_set_ne (Ne.symm hj)] at e2
   obtain ⟨u',r',q⟩:=hl j y v' e1 e2 e3
   refine ⟨u',r',?_⟩
   rcases q with ⟨k,e⟩|⟨k,c,e,z⟩
   .refine .inl ⟨k,?_⟩
    have:y≠x:=fun e=>hj (yiJ hN e1 (e ▸ hi))
    simp [this,e]
   .exact .inr ⟨k,c,e,z.sameBut hs (cne y c e)⟩
 .obtain ⟨w',z⟩:=I.cell y c e
  exact ⟨w',z.sameBut hs (cne y c e)⟩
 .obtain ⟨e,n,ne,nf,d⟩:=I.pin p hp
  exact ⟨(hs.2 p.1 ne).trans e,n,ne,nf,d⟩
theorem ylP {M:Model}{A:Around}{E:Value->Shared->Prop}{C:Value}{t:Addr}{Q:Unit->Shared->Prop}(x:Exc s.heap a C (some t)) (k:∀ h',(∀ b,h'.get? b=s.heap.get? b)->Q () { s with heap:=h' }):wpAny M A (setFlight (.ref a) none) Q E s:=by
 obtain ⟨o,vs,ho,_,d,h1,hta,oT,ts,hT,dT,h3⟩:=x
 have h3':3<ts.size:=(Array.getElem?_eq_some_iff.mp h3).1
 refine yhw ho d h1 hT dT h3' (k _ fun b=>?_)
 by_cases e:b=t
 .subst e
  obtain ⟨m1,m2⟩:=yvv (f:=fun x=>x.setIfInBounds 3 .none) dT
  rw [Heap.get?_update_self _ hT m2,m1,hT]
  have:ts.setIfInBounds 3 .none=ts:=by
   apply Array.ext_getElem?
   intro j
   rw [Array.getElem?_setIfInBounds]
   split
   .rename_i q;subst q;rw [h3]
   .rfl
  rw [this]
  obtain ⟨c,dd,da,sl⟩:=oT
  cases dT
  rfl
 .exact Heap.get?_update_ne _ _ _ _ e
end
def BX (X:Cx) (body:List Stmt) (t:XK->St->Hp->Prop):Prop:=∀ (pins:List (Addr×Obj)) (s:Shared) (σ:St) (H:Hp) (E:XK) (XE:Value->Shared->Prop),Inv X pins σ H s->t E σ H ->
 (∀ H1 s1 e s',Inv X pins σ H1 s1->CXr X.prog X.w X.stack H1 s1 E e s'->XE e s')->wpAny (model X.prog X.w) X.A (execs body X.env) (fun _ _=>False) XE s
noncomputable def yAY (K:PySem.W.Frag) (C:Addr) (i:Nat) (t:XK->St->Hp->Prop) (ts:TS):TS:=fun D σ H=>t (fun c oa H'=>∃ D' a,c=.ref D'/\oa=some a/\XSub K D' C/\ts ⟨fun σ' H''=>D.nx (σ'.set i none) H'',fun _ _=>False,fun _ _=>False,fun _ _=>False⟩ (σ.set i (some (.ref a))) (upd H' a (ExO D' a))) σ H
theorem ywq {X:Cx}{C:Addr}{i:Nat}{x n:Str}{np hpos pos:Pos}{body suite:List Stmt}{b₀:Stmt}{t:XK->St->Hp->Prop}{ts:TS}(hb:BX X body t) (hs:∀ a xe,PSs (X.inX a xe) (b₀::suite) ts) (hg:Gl X x) (hm:X.mg x=some (.ref C)) (hN:X.N.Nodup) (hi:X.N[i]?=some n) (hk:X.env.scope.names.lookup n=some .local)
  (hst:X.stack=X.env::X.outer) (hL:X.env.frame=some X.env.locals) (hd:(x == ("__debug__":Str))=false:=by decide) :
  PS X (.Try body [.ExceptHandler (some (.Name x np)) (some n) (b₀::suite) hpos] [] [] pos) (yAY X.K C i t ts):=by
 intro pins s σ H D I h
 refine wpAny_Try_except (wpAny_mono (hb pins s σ H _ (fun e s'=>∃ H1 s1,Inv X pins σ H1 s1/\CXr X.prog X.w X.stack H1 s1 _ e s') I h fun H1 s1 e s' I1 q=>⟨H1,s1,I1,q⟩) (fun _ _ z=>z.elim) ?_)
 rintro e s' ⟨H1,s1,I1,a,C0,T,H',rfl,x0,na,nt,ha,ht,os,bare,un,hok,D',a',rfl,ea,sb,q⟩
 cases ea
 have st:s1.heap.FunFrames X.base X.stack:=I1.stack
 have st':s'.heap.FunFrames X.base X.stack:=(I1.call' (s':=s') os un hok bare (fun b z=>absurd z (by simp))).stack
 rw [hst] at st' un
 have hfs:∀ b∈frs (X.env::X.outer),H' b=none:=by
  have:=(I1.call' (s':=s') os (by rw [hst];exact un) hok bare (fun b z=>absurd z (by simp))).stkFree
  rw [hst] at this
  exact this
 have hf:X.A.frames=some (X.env::X.outer):=by rw [I.ok.frames,hst]
 have h1a:H1 a=none:=by
  cases q:H1 a with
  | none=>rfl
  | some o =>
   obtain ⟨u,e⟩:=(I1.hok a o q).there
   rw [na] at e;cases e
 refine ymN (L:=X.env.locals) hf st' hL x0.w fun h' t' x' ht' lv=>?_
 obtain ⟨ox,J⟩:=x'.inst
 have un2:=Un.noted un lv na (fun t z=>by cases z;exact nt) h1a (ExO D' a)
 have hok2:HOk X.prog X.w (upd H' a (ExO D' a)) h':=HOk.noted hok lv ha (fun t z=>by cases z;exact ht) hfs J
 have I2:Inv X pins σ (upd H' a (ExO D' a)) { s' with heap:=h' }:=I1.call' (s':={ s' with heap:=h' }) os (by rw [hst];exact un2) hok2 bare (fun b z=>absurd z (by simp))
 refine wpAny_handleBy_cons (codeAny_handlers_test ?_) (by intro z;cases z)
 refine yeS (X:=X.inX a X.xe) I2.inX hg hm ?_ hd
 refine sb.hit (s:={ s' with heap:=h' }) I2.kIn x' ?_
 refine codeAny_handlers_suite_as ?_
 refine ylP (s:={ s' with heap:=h' }) x' fun h2 e2=>?_
 have I3:Inv X pins σ (upd H' a (ExO D' a)) { s' with heap:=h2 }:=I2.more (h':=h2) fun b o e=>by rw [e2];exact e
 refine yiK (X:=X) (v:=.ref a) I3 hN hi (.inl hk) rfl (fun s4 I4=>?_) (.inr hk)
 refine wpAny_mono (hs a _ pins s4 _ _ _ I4.inX q) (fun f s5 h5=>?_) fun _ _ z=>z
 cases f with
 | next =>
  obtain ⟨σ',H'',I5,q5⟩:=h5
  exact ytT (I5.outX I.ok) hN hi hk fun s6 I6=>⟨_,_,I6,q5⟩
 | brk=>obtain ⟨_,_,_,z⟩:=h5;exact z.elim
 | cont=>obtain ⟨_,_,_,z⟩:=h5;exact z.elim
 | ret u=>obtain ⟨_,_,_,_,_,z⟩:=h5;exact z.elim
end L2
namespace L2
open PySem PySem.Spec PyProof.Rows
theorem yoV {M:Model}{A:Around}{E:Value->Shared->Prop}{s:Shared}{a t:Addr}{C:Value}{ce:Env}{what:String}(x:ExcW s.heap a C (some t)) (k:∀ h',ExcW h' a C (some t)->(∀ b,b≠t->h'.get? b=s.heap.get? b)->(∀ b o,s.heap.get? b=some o->∃ o',h'.get? b=some o')->E (.ref a) { s with heap:=h' }) :
  wpAny M A (PySem.passOn what (.ref a) ce:Sem Value) (fun _ _=>False) E s:=by
 obtain ⟨o,vs,ho,hc,d,h1,hta,oT,ts,hT,dT,h3⟩:=x
 unfold PySem.passOn
 refine wpAny_bind (wpAny_field ho d h1 ?_)
 rw [if_neg (by intro z;cases z)]
 refine wpAny_bind ?_
 unfold setFlight
 refine wpAny_bind (wpAny_field ho d h1 ?_)
 rw [if_pos (show (Value.ref t != Value.none)=true from rfl)]
 refine wpAny_setField hT dT h3 (wpAny_throw ?_)
 obtain ⟨m1,m2⟩:=yvv (f:=fun x=>x.setIfInBounds 3 (ce.frame.elim Value.none fun f=>rawInt f)) dT
 refine k _ ⟨o,vs,by rw [Heap.get?_update_ne _ _ _ _ hta.symm];exact ho,hc,d,h1,hta,_,_,Heap.get?_update_self _ hT m2,by rw [m1],by simp [h3]⟩ (fun b hb=>Heap.get?_update_ne _ _ _ _ hb) fun b ob hb=>?_
 by_cases e:b=t
 .exact ⟨_,by rw [e];exact Heap.get?_update_self _ hT m2⟩
 .exact ⟨ob,by rw [Heap.get?_update_ne _ _ _ _ e];exact hb⟩
end L2
namespace L2
open PySem PySem.Spec PyProof.Rows
theorem ytU {X:Cx}{pins:List (Addr×Obj)}{σ:St}{scope:Scope}{cl:List (Str×Addr)}{C a:Addr}{N:List Str}{s3 s:Shared}{H3 H:Hp}{fp:List Addr}{E:XK}{c:Value}{T:Option Addr}{XE:Value->Shared->Prop}{use:Option (Value->Sem Unit)}{Q:Value->Shared->Prop}{acc:Value}
  (I3:Inv X pins σ H3 s3) (hC:s3.heap.objs.size=C) (f3:∀ b∈fp,yll X pins H3 b) (hst:X.stack=X.env::X.outer) (hL:X.env.frame=some X.env.locals) (hx:X.ex=[]) (hE:XEs X E) (F:Fly ((cxC X scope cl C N s3 H3 fp pins).wX XE) a c T H s) (q:E c (some a) H) :
  notedBy (model X.prog X.w) X.A (compEnvC scope cl C X.env) (fun x s'=>compPost (model X.prog X.w) X.A X.xe use Q acc C (.error x) s') (.ref a) s:=by
 obtain ⟨x,na,nt,ha,pins',σ',I⟩:=F
 have na:s3.heap.get? a=none:=na
 have nt:∀ t,T=some t->s3.heap.get? t=none/\H t=none:=nt
 have un:Un (frs X.stack) fp H3 H s3.heap s.heap:=I.base
 have st:s.heap.FunFrames X.base X.stack:=I.stack
 have sf:∀ b∈frs X.stack,H b=none:=I.stkFree
 rw [hst] at st sf
 have hCn:H C=none:=I.free
 obtain ⟨m,hn,_⟩:=I.loc
 have hn:s.heap.Ns C m:=hn
 have Cne:∀ b o,s3.heap.get? b=some o->b≠C:=fun b o e=>by rw [<- hC];exact ne_of_lt (Heap.lt_size e)
 have Cnf:C∉frs (X.env::X.outer):=fun z=>by
  obtain ⟨o,es,ep,eo,d1,_⟩:=hn
  obtain ⟨_,o',e1,e2⟩:=I3.stack.mem (by rw [hst];exact z)
  exact Cne _ _ e1 rfl
 have hf:X.A.frames=some (X.env::X.outer):=by rw [<- hst];exact I3.ok.frames
 have Ca:C≠a:=fun z=>by
  obtain ⟨o,es,ep,eo,d1,_⟩:=hn
  obtain ⟨o',vs,eo',_,d',_⟩:=x
  rw [z,eo'] at eo
  cases eo
  rw [d'] at d1
  cases d1
 have CT:some C≠T:=fun z=>by
  obtain ⟨o,es,ep,eo,d1,_⟩:=hn
  obtain ⟨o',vs,eo',_,d',r⟩:=x
  rw [<- z] at r
  obtain ⟨_,_,oT,ts,e1,e2,_⟩:=r
  rw [eo] at e1
  cases e1
  rw [d1] at e2
  cases e2
 refine yqZ (env:=X.env) (outer:=X.outer) (L:=X.env.locals) rfl hf st hL x fun h1 t x1 ht lv=>?_
 have n1:h1.Ns C m:=by
  obtain ⟨o,es,ep,eo,r⟩:=hn
  exact ⟨o,es,ep,lv.keep C o eo Ca CT Cnf,r⟩
 show ∃ m,h1.Ns C m/\_
 refine ⟨m,n1,fun h2 sb ce hce=>?_⟩
 have tC:t≠C:=fun z=>by
  obtain ⟨o,es,ep,eo,d1,_⟩:=n1
  obtain ⟨_,_,_,_,_,_,_,oT,ts,e1,e2,_⟩:=x1
  rw [z,eo] at e1
  cases e1
  rw [d1] at e2
  cases e2
 have x2:ExcW h2 a c (some t):=by
  obtain ⟨o,vs,e1,e2,e3,e4,e5,oT,ts,e6,e7,e8⟩:=x1
  exact ⟨o,vs,by rw [sb.2 a Ca.symm];exact e1,e2,e3,e4,e5,oT,ts,by rw [sb.2 t tC];exact e6,e7,e8⟩
 have nt3:s3.heap.get? t=none/\H t=none:=by
  rcases ht with ht|ht
  .refine ⟨?_,I.hok.fresh ht⟩
   cases e:s3.heap.get? t with
   | none=>rfl
   | some o=>exact absurd (lt_of_lt_of_le (Heap.lt_size e) (Nat.le_trans I.sz ht)) (lt_irrefl _)
  .exact nt t ht
 refine yoV (s:={ s with heap:=h2 }) x2 fun h3 x3 k3 th3=>?_
 have kp:∀ b o,s.heap.get? b=some o->b≠a->some b≠T->b∉frs (X.env::X.outer)->b≠C->b≠t->h3.get? b=some o:=fun b o e g1 g2 g3 g4 g5=>by
  rw [k3 b g5,show (h2.get? b)=h1.get? b from sb.2 b g4]
  exact lv.keep b o e g1 g2 g3
 have nea:∀ {b:Addr}{o:Obj},s3.heap.get? b=some o->b≠a:=fun {b o} hb z=>by rw [z,na] at hb;cases hb
 have neT:∀ {b:Addr}{o:Obj},s3.heap.get? b=some o->some b≠T:=fun {b o} hb z=>by rw [(nt b z.symm).1] at hb;cases hb
 have net:∀ {b:Addr}{o:Obj},s3.heap.get? b=some o->b≠t:=fun {b o} hb z=>by rw [z,nt3.1] at hb;cases hb
 have U':Un (frs X.stack) fp H3 H s3.heap h3:=by
  refine ⟨fun b o e n g1 g2=>?_,fun b o e n g1 g2=>?_,un.free,fun b o e g2=>?_,un.tups,un.frzs,un.tbls⟩
  .exact kp b o (un.keep b o e n g1 g2) (nea e) (neT e) (by rw [<- hst];exact g1) (Cne b o e) (net e)
  .obtain ⟨sl,e'⟩:=un.slot b o e n g1 g2
   obtain ⟨sl',e''⟩:=lv.slot b _ e' (nea e) (neT e) (by rw [<- hst];exact g1)
   exact ⟨sl',by rw [k3 b (net e),show (h2.get? b)=h1.get? b from sb.2 b (Cne b o e)];exact e''⟩
  .obtain ⟨o',e'⟩:=un.there b o e g2
   obtain ⟨o'',e''⟩:=lv.there b o' e'
   exact ⟨o'',by rw [k3 b (net e),show (h2.get? b)=h1.get? b from sb.2 b (Cne b o e)];exact e''⟩
 have hok:HOk X.prog X.w H h3:=fun b ob e=>by
  refine (I.hok b ob e).stay (fun c' w' hc' q'=>?_) (fun _ q=>q) fun _ _ q=>q
  have tr:∃ v,H c'=some v:=by
   rcases hc' with rfl|hc'
   .exact ⟨ob,e⟩
   .exact ⟨_,hc'⟩
  obtain ⟨v,hv⟩:=tr
  exact kp c' w' q' (fun z=>by rw [z,ha] at hv;cases hv) (fun z=>by rw [(nt c' z.symm).2] at hv;cases hv) (fun z=>by rw [sf c' z] at hv;cases hv) (fun z=>by rw [z,hCn] at hv;cases hv) (fun z=>by rw [z,nt3.2] at hv;cases hv)
 have IX:Inv X pins σ H { s with heap:=h3 }:=I3.call' (s':={ s with heap:=h3 }) (by show s.os=s3.os;exact I.os) U' hok I.bare fun b hb=>⟨(f3 b hb).2.2.2.1,(f3 b hb).2.1,(f3 b hb).2.2.2.2.1,(f3 b hb).2.2.2.2.2⟩
 have up:∀ b,s3.heap.get? b=none->X.s₀.heap.get? b=none:=fun b hb=>by
  cases e:X.s₀.heap.get? b with
  | none=>rfl
  | some o =>
   obtain ⟨o',e'⟩:=I3.base.there b o e (by rw [hx];simp)
   rw [hb] at e';cases e'
 exact hE a c (some t) H _ ⟨x3,up a na,fun t' z=>by cases z;exact ⟨up _ nt3.1,nt3.2⟩,ha,pins,σ,IX⟩ q
end L2
namespace L2
open PySem PySem.Spec PyProof.Rows
def cxP (X:Cx) (pl:List (Addr×Obj)) (XE:Value->Shared->Prop):Cx:={ X with pn:=X.pn++pl,xe:=XE }
section
variable {X:Cx}{pl pins:List (Addr×Obj)}{XE:Value->Shared->Prop}{σ:St}{H:Hp}{s:Shared}{E:XK}
theorem Inv.toP (I:Inv X ([]++pl) σ H s):Inv (cxP X pl XE) [] σ H s :=
 ⟨⟨I.ok.mod,I.ok.kind,I.ok.glob,I.ok.blt,I.ok.above,I.ok.inj,I.ok.has,I.ok.cab,I.ok.hd,I.ok.frames,I.ok.stk,I.ok.exf,I.ok.bs,I.ok.bsz,I.ok.noex,I.ok.exfs,I.ok.funs,I.ok.frf⟩,I.os,I.bare,I.base,I.loc,I.cell,I.free,I.freeC,fun p hp=>I.pin p (by simpa [cxP] using hp),I.hok,I.len⟩
theorem Inv.ofP (I:Inv (cxP X pl XE) [] σ H s):Inv X ([]++pl) σ H s :=
 ⟨⟨I.ok.mod,I.ok.kind,I.ok.glob,I.ok.blt,I.ok.above,I.ok.inj,I.ok.has,I.ok.cab,I.ok.hd,I.ok.frames,I.ok.stk,I.ok.exf,I.ok.bs,I.ok.bsz,I.ok.noex,I.ok.exfs,I.ok.funs,I.ok.frf⟩,I.os,I.bare,I.base,I.loc,I.cell,I.free,I.freeC,fun p hp=>I.pin p (by simpa [cxP] using hp),I.hok,I.len⟩
theorem Inv.unP (I:Inv (cxP X pl XE) pins σ H s):Inv (X.wX XE) (pl++pins) σ H s :=
 ⟨⟨I.ok.mod,I.ok.kind,I.ok.glob,I.ok.blt,I.ok.above,I.ok.inj,I.ok.has,I.ok.cab,I.ok.hd,I.ok.frames,I.ok.stk,I.ok.exf,I.ok.bs,I.ok.bsz,I.ok.noex,I.ok.exfs,I.ok.funs,I.ok.frf⟩,I.os,I.bare,I.base,I.loc,I.cell,I.free,I.freeC,fun p hp=>I.pin p (by simpa [cxP,Cx.wX] using hp),I.hok,I.len⟩
theorem Fly.unP {a:Addr}{C:Value}{T:Option Addr}(F:Fly (cxP X pl XE) a C T H s):Fly (X.wX XE) a C T H s:=by
 obtain ⟨x,na,nt,ha,pins,σ,I⟩:=F
 exact ⟨x,na,nt,ha,_,σ,I.unP⟩
theorem Passes.of (hE:XEs X E) (hex:∀ b∈X.ex,∃ o,(b,o)∈X.pn):Passes (CXr X.prog X.w) X E:=by
 rintro pins σ H1 s1 e s' I ⟨a,C,T,H',rfl,x,na,nt,ha,ht,os,bare,un,hok,q⟩
 have I':=I.call' (s':=s') os un hok bare (fun b z=>absurd z (by simp))
 have up:∀ b,s1.heap.get? b=none->X.s₀.heap.get? b=none:=fun b hb=>by
  cases e:X.s₀.heap.get? b with
  | none=>rfl
  | some o =>
   by_cases hx:b∈X.ex
   .obtain ⟨o',ho⟩:=hex b hx
    have:=(I.pin (b,o') (mem_append_left _ ho)).1
    rw [hb] at this;cases this
   .obtain ⟨o',e'⟩:=I.base.there b o e hx
    rw [hb] at e';cases e'
 exact hE a C (some T) H' s' ⟨x.w,up a na,fun t z=>by cases z;exact ⟨up _ nt,ht⟩,ha,pins,σ,I'⟩ q
end
theorem yre {E:XK}{X:Cx}{elt iter:Expr}{x:Str}{px:Pos}{scope:Scope}{cpos:Pos}{wi:TI}{te:TE}(ix:List Nat) (fr:List Str) (hc:X.calm=true) (hi:PI X (.Name x px) iter wi) (hfr:FrOk X scope ix fr)
  (he:∀ (cl:List (Str×Addr)) (C:Addr) (s₃:Shared) (H₃:Hp) (fp:List Addr) (pins pn:List (Addr×Obj)) (XE:Value->Shared->Prop),Passes (CXr X.prog X.w) (cxP (cxC X scope cl C (x::fr) s₃ H₃ fp pins) pn XE) E->PE (cxP (cxC X scope cl C (x::fr) s₃ H₃ fp pins) pn XE) elt te)
  (hst:X.stack=X.env::X.outer) (hL:X.env.frame=some X.env.locals) (hex:X.ex=[]) (hE:XEs X E)
  (hnd:(x::fr).Nodup) (hkind:scope.kind=.function) (hcell:∀ y∈scope.names,y.2≠.cell)
  (hnames:∀ y∈scope.names,y.2=.local->scope.names.lookup y.1=some .local) (hfree0:∀ y∈scope.names,y.2=.free->y.1∈fr) (hx:scope.names.lookup x=some .local)
  (hs:∀ v,foldedSetIterable iter X.env v=pure v):PE X (.ListComp elt [⟨.Name x px,iter,[],0⟩] scope cpos) (ynG wi ix te):=by
 intro pins s σ H Q I h
 have hfn:X.env.scope.kind=.function:=I.ok.kind
 have hfree:∀ y∈scope.names,y.2=.free->X.env.kindOf y.1=some .cell/\scope.names.lookup y.1=some .free:=fun y hy e=>by
  obtain ⟨j,hj,ej⟩:=getElem_of_mem (hfree0 y hy e)
  obtain ⟨i,_,_,h3,h4⟩:=hfr.get (j:=j) (y:=y.1) (by rw [List.getElem?_eq_getElem hj,ej])
  exact ⟨h4,h3⟩
 obtain ⟨cl,ecl,hcl1,hcl2⟩:=ycR (env:=X.env) scope.names [] fun n hn=>I.ok.has n (.inl (hfree _ hn rfl).1)
 have hclos:closureFor scope X.env=pure cl:=by
  unfold closureFor
  have:(forIn scope.names ([]:List (Str×Addr)) (fun (x:Str×NameKind) (r:List (Str×Addr))=>if (x.2 == NameKind.free)=true then do let c <- cellOf X.env x.1;pure (ForInStep.yield ((x.1,c)::r)) else pure (ForInStep.yield r)):Sem (List (Str×Addr)))=pure cl:=ecl
  first
   | exact (by simpa using congrArg (· >>= fun r=>pure r) this)
   | (rw [show (pure cl:Sem (List (Str×Addr)))=(pure cl >>= fun r=>pure r) from rfl,<- this];rfl)
 have hcle:∀ y c,cl.lookup y=some c->X.env.cells.lookup y=some c/\(y,NameKind.free)∈scope.names:=fun y c e=>by
  by_cases hy:(y,NameKind.free)∈scope.names
  .exact ⟨by rw [<- hcl1 y hy];exact e,hy⟩
  .rw [hcl2 y hy] at e;simp at e
 rw [eval_ListComp]
 refine wpAny_comprehension_free (use:=none) rfl hs hclos hkind hnames ?_
 refine thn (hi pins s σ H _ I h) fun v s1 h1=>thn h1 fun itv s2 h2=>?_
 obtain ⟨it,fp,tn,J,H2,e,I2,T,st2,f2,q2⟩:=h2
 subst e
 refine wpAny_newObj_type ?_
 generalize hs3:({ s2 with heap:=s2.heap.push { cls:=.type "list",dict:=none,data:=.seq ([]:List Value).toArray } }:Shared)=s3
 generalize hD:s2.heap.objs.size=D
 have hDn:H2 D=none:=by rw [<- hD];exact I2.hok.fresh (Nat.le_refl _)
 have I3:Inv X pins σ (upd H2 D (.lst [])) s3:=by
  rw [<- hs3,<- hD]
  exact I2.lnew (t':=s2.toks) (ys:=[]) (its:=[]) .nil (zero_le _)
 have k3:∀ b o,s2.heap.get? b=some o->s3.heap.get? b=some o:=fun b o e=>by rw [<- hs3];exact Heap.get?_push_of_some _ e
 have st3:tn 0 s3.heap:=T.keep _ _ _ st2 fun b _ o e=>k3 b o e
 have fne:∀ b∈fp,b≠D:=fun b hb=>by
  obtain ⟨o,e,_⟩:=T.obj _ _ st2 b hb
  rw [<- hD]
  exact ne_of_lt (Heap.lt_size e)
 have f3:∀ b∈fp,yll X pins (upd H2 D (.lst [])) b:=fun b hb=>⟨by rw [yU (fne b hb)];exact (f2 b hb).1,(f2 b hb).2⟩
 have q3:=q2 D hDn
 generalize upd H2 D (.lst [])=H3 at I3 f3 q3
 obtain ⟨W,⟨m0,w0⟩,turn⟩:=q3
 refine wpAny_newFunctionEnv hcell (by intro y hy;simp at hy) (fun h4 hns hsb=>?_) hkind
 try dsimp only at hns hsb ⊢
 generalize hC:s3.heap.objs.size=C at hns hsb ⊢
 have k4:∀ b o,s3.heap.get? b=some o->h4.get? b=some o:=fun b o e=>(hsb.2 b (by rw [<- hC];exact ne_of_lt (Heap.lt_size e))).trans (Heap.get?_push_of_some _ e)
 have Cne:∀ b o,s3.heap.get? b=some o->b≠C:=fun b o e=>by rw [<- hC];exact ne_of_lt (Heap.lt_size e)
 have stk:=I3.stkSub
 have pinF:∀ p∈X.pn++pins,p.1∉frs X.stack:=fun p hp z=>by
  obtain ⟨_,_,n1,n2,_⟩:=I3.pin p hp
  rcases mem_cons.mp (stk _ z) with z|z
  .exact n1 z
  .exact n2 z
 have okC:(cxC X scope cl C (x::fr) s3 H3 fp pins).Ok:=by
  refine ⟨I3.ok.mod,by show (relabel scope X.env).kind=_;exact hkind,I3.ok.glob,I3.ok.blt,le_of_eq hC,fun y z c h1 h2=>I3.ok.inj y z c (hcle y c h1).1 (hcle z c h2).1,fun y hy=>?_,fun y c hf _=>(by cases hf),I3.ok.hd,I3.ok.frames,.inl rfl,fun b hb=>⟨?_,fun y c e z=>?_⟩,I3.bs,?_,fun b o e hb=>?_,fun b hb z=>?_,I3.stack,I3.stkFree⟩
  .have hy:((relabel scope X.env).names.lookup y=some .cell)\/((relabel scope X.env).names.lookup y=some .free):=hy
   rw [show (relabel scope X.env).names.lookup y=_ from ybt y scope.names] at hy
   cases e:scope.names.lookup y with
   | none=>rw [e] at hy;simp at hy
   | some k =>
    have hm:(y,k)∈scope.names:=PySem.mem_of_lookup e
    have hkf:k=.free:=by
     rw [e] at hy
     cases k<;>simp at hy ⊢
     exact absurd rfl (hcell _ hm)
    subst hkf
    obtain ⟨c,hc'⟩:=I3.ok.has y (.inl (hfree _ hm rfl).1)
    exact ⟨c,by show cl.lookup y=_;rw [hcl1 y hm];exact hc'⟩
  .obtain ⟨o,e,_⟩:=T.obj _ _ st3 b hb
   exact Cne b o e
  .exact (f3 b hb).2.2.2.2.1 y c (hcle y c e).1 z
  .exact Nat.le_trans I3.ok.bsz I3.sz
  .rcases (f3 b hb).2.2.2.1 with z|z
   .exact I3.ok.noex b o e z
   .exact absurd (lt_of_lt_of_le (Heap.lt_size e) (Nat.le_trans I3.ok.bsz z)) (lt_irrefl _)
  .rcases mem_cons.mp (stk _ z) with z|z
   .exact (f3 b hb).2.1 z
   .exact (f3 b hb).2.2.1 z
 have inn:∀ v,(inner ix σ v)=some v::ix.map fun i=>(σ[i]?).getD none:=fun _=>rfl
 have I4:Inv (cxC X scope cl C (x::fr) s3 H3 fp pins) [] (none::ix.map fun i=>(σ[i]?).getD none) H3 { s3 with heap:=h4,toks:=s3.toks+([]:List (Str×Value)).length }:=by
  refine ⟨okC,rfl,I3.bare,Un.kept k4,⟨_,hns,fun j y v e1 e2 e3=>?_⟩,fun y c e=>?_,I3.hok.fresh (le_of_eq hC),fun y c e=>I3.freeC y c (hcle y c e).1,fun p hp=>?_,I3.hok.kept k4,?_⟩
  .match j,e1,e2 with
   | 0,e1,e2=>simp at e2
   | j+1,e1,e2 =>
    obtain ⟨i,hi1,hi2,hi3,hi4⟩:=hfr.get (j:=j) (y:=y) (by have e1':(x::fr)[j+1]?=some y:=e1;simpa using e1')
    have e2':σ[i]?=some (some v):=by
     have e2:(ix.map fun i=>(σ[i]?).getD none)[j]?=some (some v):=by simpa using e2
     rw [getElem?_map,hi1] at e2
     simp at e2
     cases z:σ[i]? with
     | none=>rw [z] at e2;simp at e2
     | some o=>rw [z] at e2;simp at e2;rw [e2]
    obtain ⟨m,_,hl⟩:=I3.loc
    obtain ⟨u,r,l⟩:=hl i y v hi2 e2' (.inr (.inl hi4))
    refine ⟨u,r,?_⟩
    rcases l with ⟨k,_⟩|⟨k,c,ec,z⟩
    .rw [hi4] at k;cases k
    .have hm:(y,NameKind.free)∈scope.names:=PySem.mem_of_lookup hi3
     refine .inr ⟨.inl ?_,c,by show cl.lookup y=_;rw [hcl1 y hm];exact ec,?_⟩
     .show (relabel scope X.env).names.lookup y=_
      rw [show (relabel scope X.env).names.lookup y=_ from ybt y scope.names,hi3]
      simp [hfn,hi4]
     .obtain ⟨o,ho,hd⟩:=z
      exact ⟨o,k4 _ _ ho,hd⟩
  .obtain ⟨v,o,ho,hd⟩:=I3.cell y c (hcle y c e).1
   exact ⟨v,o,k4 _ _ ho,hd⟩
  .have hp:p∈X.pn++pins:=by simpa [cxC] using hp
   obtain ⟨e,n,ne,nf,d⟩:=I3.pin p hp
   exact ⟨k4 _ _ e,n,Cne _ _ e,pinF p hp,d⟩
  .show (none::ix.map fun i=>(σ[i]?).getD none).length=(x::fr).length
   rw [length_cons,length_cons,length_map,hfr.len]
 have st4:tn 0 h4:=T.keep _ _ _ st3 fun b _ o e=>k4 b o e
 have f4:∀ b∈fp,b≠C/\b∉frs X.stack/\(∀ y c,cl.lookup y=some c->c≠b)/\∀ p∈(X.pn++pins)++([]:List (Addr×Obj)),p.1≠b:=fun b hb=>by
  obtain ⟨o,e,_⟩:=T.obj _ _ st3 b hb
  refine ⟨Cne b o e,fun z=>?_,fun y c e=>(f3 b hb).2.2.2.2.1 y c (hcle y c e).1,fun p hp=>(f3 b hb).2.2.2.2.2 p (by simpa using hp)⟩
  rcases mem_cons.mp (stk _ z) with z|z
  .exact (f3 b hb).2.1 z
  .exact (f3 b hb).2.2.1 z
 have stat:∀ {H':Hp},(∀ b∈fp,H' b=none)->∀ b∈fp,yll (cxC X scope cl C (x::fr) s3 H3 fp pins) [] H' b:=fun hn b hb=>⟨hn b hb,(f4 b hb).1,(f4 b hb).2.1,.inl hb,(f4 b hb).2.2.1,(f4 b hb).2.2.2⟩
 have fin:∀ {σ':St}{H':Hp}{s':Shared},Inv (cxC X scope cl C (x::fr) s3 H3 fp pins) [] σ' H' s'->Q (.ref D) H'->compPost (model X.prog X.w) X.A X.xe none (EP X pins σ Q) (.ref D) C (.ok .next) s':=fun {σ' H' s'} I' q'=>by
  obtain ⟨m,hn,_⟩:=I'.loc
  refine ⟨m,hn,fun h' sb=>⟨.ref D,H',?_,rfl,q'⟩⟩
  have hCn:H' C=none:=I'.free
  have same:∀ b,b≠C->h'.get? b=s'.heap.get? b:=fun b hb=>sb.2 b hb
  have U:=I'.base
  have U':Un (frs X.stack) fp H3 H' s3.heap h':=by
   refine ⟨fun b o e n h1 h2=>?_,fun b o e n h1 h2=>?_,U.free,fun b o e h2=>?_,U.tups,U.frzs,U.tbls⟩
   .rw [same b (Cne b o e)];exact U.keep b o e n h1 h2
   .rw [same b (Cne b o e)];exact U.slot b o e n h1 h2
   .rw [same b (Cne b o e)];exact U.there b o e h2
  refine I3.call' (s':={ s' with heap:=h' }) (by show s'.os=s3.os;exact I'.os) U' ?_ I'.bare fun b hb=>⟨(f3 b hb).2.2.2.1,(f3 b hb).2.1,(f3 b hb).2.2.2.2.1,(f3 b hb).2.2.2.2.2⟩
  intro b ob e
  refine (I'.hok b ob e).stay (fun c w' hc q=>?_) (fun _ q=>q) fun _ _ q=>q
  show h'.get? c=_
  rw [same c ?_]
  .exact q
  rintro rfl
  rcases hc with rfl|hc
  .rw [hCn] at e;cases e
  .rw [hCn] at hc;cases hc
 have loop:∀ s5:Shared,s5={ s3 with heap:=h4,toks:=s3.toks+([]:List (Str×Value)).length } ->
   codeAny (model X.prog X.w) X.A (.compLoop (.ListComp elt [⟨.Name x px,iter,[],0⟩] scope cpos) 0 (.ref it) (.ref D) (compEnvC scope cl C X.env)) (compPost (model X.prog X.w) X.A X.xe none (EP X pins σ Q) (.ref D) C) s5:=by
  rintro s5 rfl
  refine codeAny_loop rfl (fun n s'=>∃ i o H',Inv (cxC X scope cl C (x::fr) s3 H3 fp pins) [] (o::ix.map fun i=>(σ[i]?).getD none) H' s'/\tn i s'.heap/\(∀ b∈fp,H' b=none)/\W i n H') ?_ m0 ⟨0,none,H3,I4,st4,fun b hb=>(f3 b hb).1,w0⟩
  rintro n s6 ⟨i,o,H6,I6,st6,fr6,w6⟩
  show wpAny _ _ ((compTurn (.ListComp elt [⟨.Name x px,iter,[],0⟩] scope cpos) 0 (.ref it) (.ref D) (compEnvC scope cl C X.env)).onRaise (fun x=>do noteFrame x (compEnvC scope cl C X.env);theTreesLotGoes x)) _ _ s6
  refine wpAny_noted ?_
  rw [compTurn_list]
  rcases turn i n H6 w6 with ⟨stop,qn⟩|⟨go,step⟩
  .refine wpAny_bind (wpAny_standAt (wpAny_bind (thn (T.done (cxC X scope cl C (x::fr) s3 H3 fp pins) rfl rfl rfl hc i [] s6 _ H6 _ I6 (stat fr6) st6 stop) fun r s7 ⟨hr,I7⟩=>?_)))
   subst hr
   exact wpAny_pure (fin I7 qn)
  .refine wpAny_bind (wpAny_standAt (wpAny_bind (thn (T.item (cxC X scope cl C (x::fr) s3 H3 fp pins) rfl rfl rfl hc i [] s6 _ H6 _ I6 (stat fr6) st6 go) fun r s7 ⟨u,hr,h7⟩=>?_)))
   subst hr
   refine wpAny_bind (thn h7 fun _ s8 ⟨y,H8,I8,r8,y8,st8,fr8⟩=>?_)
   have I8':=I8.pinned (stat fr8) (T.obj _ _ st8)
   have hx':Loc (cxC X scope cl C (x::fr) s3 H3 fp pins).env.scope x:=.inl (lookup_relabel_local hx)
   refine wpAny_bind (wpAny_mono (yfO (X:=cxC X scope cl C (x::fr) s3 H3 fp pins) (i:=0) (x:=x) (pos:=px) hnd rfl hx' (.inr (lookup_relabel_local hx)) _ s8 _ H8 y u (fun σ9 H9=>σ9=inner ix σ y/\H9=H8) I8' r8 ⟨rfl,rfl⟩) (fun _ s9 ⟨σ9,H9,I9,e9,e9'⟩=>?_) fun _ _ f=>f.elim)
   subst e9 e9'
   refine wpAny_bind (wpAny_tests_nil ?_)
   have pp:=Passes.of (X:=cxP (cxC X scope cl C (x::fr) s3 H3 fp pins) (yij fp s8.heap) (notedBy (model X.prog X.w) X.A (compEnvC scope cl C X.env) (fun e s'=>compPost (model X.prog X.w) X.A X.xe none (EP X pins σ Q) (.ref D) C (.error e) s'))) (E:=E) (fun a c T H s F q=>ytU I3 hC f3 hst hL hex hE F.unP q) fun b hb=>by
    obtain ⟨o,e,_⟩:=T.obj _ _ st8 b hb
    exact ⟨o,mem_append_right _ (yba hb e)⟩
   refine wpAny_bind (wpAny_bind (wpAny_mono (he cl C s3 H3 fp pins (yij fp s8.heap) _ pp [] s9 _ _ _ I9.toP (step y _ y8)) (fun v s10 ⟨z,H10,I10,r10,acc,a10,l10,m',hm',w10⟩=>?_) fun _ _ f=>f))
   have I10:=I10.ofP
   refine wpAny_bind (wpAny_mono (ycW (X:=cxC X scope cl C (x::fr) s3 H3 fp pins) _ s10 _ H10 (.ref D) [z] (.ref D) [v] (fun _ H11=>H11=upd H10 D (.lst (acc++[z]))) I10 rfl (.cons r10 .nil) ⟨D,acc,z,rfl,rfl,a10,l10,rfl⟩) (fun _ s11 ⟨_,H11,I11,_,e11⟩=>?_) fun _ _ f=>f.elim)
   subst e11
   refine wpAny_pure (wpAny_pure ⟨rfl,m',hm',i+1,some y,_,I11.unpinned,T.keep _ _ _ st8 fun b hb o e=>(I11.pin (b,o) (mem_append_right _ (mem_append_right _ (yba hb e)))).1,fun b hb=>?_,w10⟩)
   obtain ⟨o,e,d⟩:=T.obj _ _ st8 b hb
   exact (I11.pin (b,o) (mem_append_right _ (mem_append_right _ (yba hb e)))).2.1
 exact codeAny_compStart_list (loop _ rfl) (T.self X.A 0 _ _ _ st4 (loop _ rfl))
end L2
namespace PX
open PySem L2
structure Ck where
 K:PySem.W.Frag
 A:Nat->Addr
inductive PV where
 | non|bl (b:Bool)|int (i:Int)|str (s:Str)|ty (n:String)|cls (k:Nat)
 | scr (ns:List Int)
 | lst (xs:List PV)|tup (xs:List PV)
 | ins (k:Nat) (ns:List Str) (xs:List PV)
 | loc (n:Nat)
 | exc (n:Str)|xcl (n:Str)
inductive Nd where
 | lst (xs:List PV)|dct (ks:List Key) (xs:List PV)|fz (ks:List Key) (xs:List PV)|ins (k:Nat) (ns:List Str) (xs:List PV)|dead
abbrev AH:=List Nd
inductive PVar where|no|val (x:PV)|own (d:Nd)
abbrev PSt:=List PVar
inductive Out where|nx (ρ:PSt)|rt (x:PV)|bk (ρ:PSt)|ct (ρ:PSt)
abbrev XE:=PSt->AH->Option (PV×AH)
abbrev XT:=PSt->AH->Option (Bool×AH)
abbrev XA:=PSt->AH->Option (List PV×AH)
abbrev XO:=PSt->AH->Option (Nd×AH)
abbrev XS:=PSt->AH->Option (Out×AH)
abbrev Fn:=List PV->AH->Option (PV×AH)
def KTp (K:PySem.W.Frag) (a:Addr) (xs:List V):Prop:=∃ (o:Obj) (its:Array Value) (n:Nat),K.lookup a=some o/\o.cls=.type "tuple"/\o.data=.seq its n/\its.size<=sizeLine/\Vals xs its.toList
def TpAt (K:PySem.W.Frag) (F:Hp) (a:Addr) (xs:List V):Prop:=F a=some (.tup xs)\/KTp K a xs
theorem TpAt.mono {K:PySem.W.Frag}{F F':Hp}{a:Addr}{xs:List V}(s:Same F F') (h:TpAt K F a xs):TpAt K F' a xs:=h.elim (fun h=>.inl (s _ _ h)) .inr
mutual
noncomputable def Rep (K:Ck) (F:Hp) (m:List Addr):PV->V->Prop
 | .non,v=>v=.non
 | .bl b,v=>v=.bl b
 | .int i,v=>v=.int i
 | .str s,v=>v=.str s
 | .ty n,v=>v=.ty n
 | .cls k,v=>v=.ref (K.A k)
 | .scr ns,v=>∃ a,v=.ref a/\SqL K.K F a (ns.map V.int)
 | .lst xs,v=>∃ a vs,v=.ref a/\F a=some (.lst vs)/\RepL K F m xs vs
 | .tup xs,v=>∃ a vs,v=.ref a/\TpAt K.K F a vs/\RepL K F m xs vs
 | .ins k ns xs,v=>∃ a dx vs,v=.ref a/\F a=some (.ins (K.A k) dx (ns.zip vs))/\vs.length=ns.length/\RepL K F m xs vs
 | .loc n,v=>∃ a,v=.ref a/\m[n]?=some a
 | .exc n,v=>∃ a,v=.ref a/\F a=some (ExO (xAd K.K n) a)
 | .xcl n,v=>v=.ref (xAd K.K n)
noncomputable def RepL (K:Ck) (F:Hp) (m:List Addr):List PV->List V->Prop
 | [],vs=>vs=[]
 | x::xs,vs=>∃ v r,vs=v::r/\Rep K F m x v/\RepL K F m xs r
end
section
variable {K:Ck}{F F' H H':Hp}{m m':List Addr}
theorem yeU {n:Nat}{a:Addr}(p:m <+: m') (h:m[n]?=some a):m'[n]?=some a:=by
 obtain ⟨r,rfl⟩:=p
 rw [getElem?_append_left (List.getElem?_eq_some_iff.mp h).1];exact h
mutual
theorem Rep.mono (s:Same F F') (p:m <+: m'):∀ (x:PV) (v:V),Rep K F m x v->Rep K F' m' x v
 | .non,_,h=>h
 | .bl _,_,h=>h
 | .int _,_,h=>h
 | .str _,_,h=>h
 | .ty _,_,h=>h
 | .cls _,_,h=>h
 | .scr _,_,⟨a,e,h⟩=>⟨a,e,s.seq h⟩
 | .lst xs,_,⟨a,vs,e,h,r⟩=>⟨a,vs,e,s _ _ h,RepL.mono s p xs vs r⟩
 | .tup xs,_,⟨a,vs,e,h,r⟩=>⟨a,vs,e,h.mono s,RepL.mono s p xs vs r⟩
 | .ins _ _ xs,_,⟨a,dx,vs,e,h,l,r⟩=>⟨a,dx,vs,e,s _ _ h,l,RepL.mono s p xs vs r⟩
 | .loc _,_,⟨a,e,h⟩=>⟨a,e,yeU p h⟩
 | .exc _,_,⟨a,e,h⟩=>⟨a,e,s _ _ h⟩
 | .xcl _,_,h=>h
theorem RepL.mono (s:Same F F') (p:m <+: m'):∀ (xs:List PV) (vs:List V),RepL K F m xs vs->RepL K F' m' xs vs
 | [],_,h=>h
 | x::xs,_,⟨v,r,e,h,l⟩=>⟨v,r,e,Rep.mono s p x v h,RepL.mono s p xs r l⟩
end
theorem RepL.len:∀ {xs:List PV}{vs:List V},RepL K F m xs vs->vs.length=xs.length
 | [],_,h=>by rw [show _=[] from h];rfl
 | x::xs,_,⟨v,r,e,h,l⟩=>by rw [e,length_cons,length_cons,RepL.len l]
theorem RepL.get:∀ {xs:List PV}{vs:List V}{i:Nat}{x:PV},RepL K F m xs vs->xs[i]?=some x->∃ v,vs[i]?=some v/\Rep K F m x v
 | x::xs,_,0,y,⟨v,r,e,h,l⟩,q=>by
  simp at q;subst q;subst e;exact ⟨v,rfl,h⟩
 | x::xs,_,i+1,y,⟨v,r,e,h,l⟩,q=>by
  subst e
  obtain ⟨w,h1,h2⟩:=RepL.get (i:=i) l (by simpa using q)
  exact ⟨w,by simpa using h1,h2⟩
theorem RepL.get' {xs:List PV}{vs:List V}{i:Nat}{v:V}(h:RepL K F m xs vs) (e:vs[i]?=some v):∃ x,xs[i]?=some x/\Rep K F m x v:=by
 have hl:=h.len
 have hi:i<vs.length:=(List.getElem?_eq_some_iff.mp e).1
 have hx:xs[i]?=some xs[i]:=List.getElem?_eq_getElem (by omega)
 obtain ⟨w,h1,h2⟩:=h.get hx
 rw [e] at h1;cases h1
 exact ⟨_,hx,h2⟩
theorem RepL.app:∀ {xs ys:List PV}{vs us:List V},RepL K F m xs vs->RepL K F m ys us->RepL K F m (xs++ys) (vs++us)
 | [],_,_,_,h,k=>by rw [show _=[] from h];exact k
 | x::xs,ys,_,us,⟨v,r,e,h,l⟩,k=>by subst e;exact ⟨v,r++us,rfl,h,RepL.app l k⟩
theorem RepL.snoc {xs:List PV}{vs:List V}{x:PV}{v:V}(h:RepL K F m xs vs) (k:Rep K F m x v):RepL K F m (xs++[x]) (vs++[v]):=h.app ⟨v,[],rfl,k,rfl⟩
theorem RepL.set:∀ {xs:List PV}{vs:List V}{x:PV}{v:V}(i:Nat),RepL K F m xs vs->Rep K F m x v->RepL K F m (xs.set i x) (vs.set i v)
 | [],_,_,_,_,h,_=>by rw [show _=[] from h];rfl
 | y::xs,_,x,v,0,⟨w,r,e,h,l⟩,k=>by subst e;exact ⟨v,r,rfl,k,l⟩
 | y::xs,_,x,v,i+1,⟨w,r,e,h,l⟩,k=>by subst e;exact ⟨w,r.set i v,rfl,h,RepL.set i l k⟩
theorem RepL.of_ints:∀ (ns:List Int),RepL K F m (ns.map PV.int) (ns.map V.int)
 | []=>rfl
 | n::ns=>⟨_,_,rfl,rfl,RepL.of_ints ns⟩
end
noncomputable def NdAt (K:Ck) (F H:Hp) (m:List Addr):Nd->Addr->Prop
 | .dead,a=>∃ o,H a=some o
 | .lst xs,a=>F a=none/\∃ vs,H a=some (.lst vs)/\RepL K F m xs vs
 | .dct ks xs,a=>F a=none/\∃ vs,H a=some (.dK (ks.zip vs))/\vs.length=ks.length/\RepL K F m xs vs
 | .fz ks xs,a=>F a=none/\∃ o vs,H a=some (.frz o (.dK (ks.zip vs)))/\vs.length=ks.length/\RepL K F m xs vs
 | .ins k ns xs,a=>F a=none/\∃ dx vs,H a=some (.ins (K.A k) dx (ns.zip vs))/\vs.length=ns.length/\RepL K F m xs vs
structure Wd where
 F:Hp
 H:Hp
 m:List Addr
 h:AH
structure WOk (K:Ck) (W:Wd):Prop where
 le:Same W.F W.H
 len:W.m.length=W.h.length
 nd:W.m.Nodup
 at_:∀ (n:Nat) (d:Nd) (a:Addr),W.h[n]?=some d->W.m[n]?=some a->NdAt K W.F W.H W.m d a
structure Le (K:Ck) (W W':Wd):Prop where
 ok:WOk K W'
 fs:Same W.F W'.F
 pre:W.m <+: W'.m
 keep:∀ b o,W.H b=some o->b∉W.m->W'.H b=some o
 new:∀ b o,W.H b=some o->b∉W.m->W.F b=none->W'.F b=none
 mn:∀ b∈W'.m,b∉W.m->W.H b=none
 fz:∀ (n:Nat) (ks:List Key) (xs:List PV),W.h[n]?=some (.fz ks xs)->W'.h[n]?=some (.fz ks xs)/\∀ a,W.m[n]?=some a->W'.H a=W.H a
theorem Le.refl {K:Ck}{W:Wd}(h:WOk K W):Le K W W:=⟨h,Same.refl _,prefix_refl _,fun _ _ e _=>e,fun _ _ _ _ e=>e,fun _ h h'=>absurd h h',fun _ _ _ e=>⟨e,fun _ _=>rfl⟩⟩
theorem Le.trans {K:Ck}{W W1 W2:Wd}(a:Le K W W1) (b:Le K W1 W2):Le K W W2 where
 ok:=b.ok
 fs:=a.fs.trans b.fs
 pre:=a.pre.trans b.pre
 keep:=fun c o e n=>b.keep c o (a.keep c o e n) fun z=>by rw [a.mn c z n] at e;cases e
 new:=fun c o e n f=>b.new c o (a.keep c o e n) (fun z=>by rw [a.mn c z n] at e;cases e) (a.new c o e n f)
 mn:=fun c z n=>by
  by_cases hc:c∈W1.m
  .exact a.mn c hc n
  .have:=b.mn c z hc
   cases e:W.H c with
   | none=>rfl
   | some o=>rw [a.keep c o e n] at this;cases this
 fz:=fun n ks xs e=>by
  obtain ⟨e1,q1⟩:=a.fz n ks xs e
  obtain ⟨e2,q2⟩:=b.fz n ks xs e1
  exact ⟨e2,fun c em=>(q2 c (yeU a.pre em)).trans (q1 c em)⟩
abbrev yda (K:Ck) (W:Wd) (x:PV) (v:V):Prop:=Rep K W.F W.m x v
abbrev ycL (K:Ck) (W:Wd) (x:List PV) (v:List V):Prop:=RepL K W.F W.m x v
theorem Le.rep {K:Ck}{W W':Wd}(l:Le K W W') {x:PV}{v:V}(h:yda K W x v):yda K W' x v:=Rep.mono l.fs l.pre x v h
theorem Le.repL {K:Ck}{W W':Wd}(l:Le K W W') {x:List PV}{v:List V}(h:ycL K W x v):ycL K W' x v:=RepL.mono l.fs l.pre x v h
theorem NdAt.mono {K:Ck}{F F' H H':Hp}{m m':List Addr}(s:Same F F') (p:m <+: m') {d:Nd}{a:Addr}(hH:∀ o,H a=some o->H' a=some o) (hF:F a=none->F' a=none) (h:NdAt K F H m d a):NdAt K F' H' m' d a:=by
 cases d with
 | dead=>obtain ⟨o,e⟩:=h;exact ⟨o,hH _ e⟩
 | lst xs=>obtain ⟨f,vs,e,r⟩:=h;exact ⟨hF f,vs,hH _ e,RepL.mono s p _ _ r⟩
 | dct ks xs=>obtain ⟨f,vs,e,l,r⟩:=h;exact ⟨hF f,vs,hH _ e,l,RepL.mono s p _ _ r⟩
 | fz ks xs=>obtain ⟨f,o,vs,e,l,r⟩:=h;exact ⟨hF f,o,vs,hH _ e,l,RepL.mono s p _ _ r⟩
 | ins C ns xs=>obtain ⟨f,dx,vs,e,l,r⟩:=h;exact ⟨hF f,dx,vs,hH _ e,l,RepL.mono s p _ _ r⟩
theorem NdAt.some {K:Ck}{F H:Hp}{m:List Addr}{d:Nd}{a:Addr}(h:NdAt K F H m d a):∃ o,H a=some o:=by
 cases d with
 | dead=>exact h
 | lst xs=>obtain ⟨f,vs,e,r⟩:=h;exact ⟨_,e⟩
 | dct ks xs=>obtain ⟨f,vs,e,r⟩:=h;exact ⟨_,e⟩
 | fz ks xs=>obtain ⟨f,o,vs,e,r⟩:=h;exact ⟨_,e⟩
 | ins C ns xs=>obtain ⟨f,dx,vs,e,r⟩:=h;exact ⟨_,e⟩
structure Good (K:Ck) (W0 W:Wd) (ρ:PSt) (σ:St):Prop where
 le:Le K W0 W
 len:σ.length=ρ.length
 val:∀ (i:Nat) (x:PV),ρ[i]?=some (.val x)->∃ v,σ[i]?=some (some v)/\yda K W x v
 own:∀ (i:Nat) (d:Nd),ρ[i]?=some (.own d)->∃ p,σ[i]?=some (some (.ref p))/\p∉W.m/\W0.H p=none/\d≠.dead/\NdAt K W.F W.H W.m d p
 ne:∀ (i j:Nat) (d d':Nd),i≠j->ρ[i]?=some (.own d)->ρ[j]?=some (.own d')->σ[i]?≠σ[j]?
theorem Good.ok {K:Ck}{W0 W:Wd}{ρ:PSt}{σ:St}(g:Good K W0 W ρ σ):WOk K W:=g.le.ok
theorem Good.step {K:Ck}{W0 W W':Wd}{ρ:PSt}{σ:St}(g:Good K W0 W ρ σ) (l:Le K W W'):Good K W0 W' ρ σ where
 le:=g.le.trans l
 len:=g.len
 val:=fun i x e=>let ⟨v,h1,h2⟩:=g.val i x e;⟨v,h1,l.rep h2⟩
 own:=fun i d e=>by
  obtain ⟨p,h1,h2,h3,h4,h5⟩:=g.own i d e
  obtain ⟨o,ho⟩:=h5.some
  have n':p∉W'.m:=fun z=>by rw [l.mn p z h2] at ho;cases ho
  refine ⟨p,h1,n',h3,h4,h5.mono l.fs l.pre (fun o e=>l.keep p o e h2) fun f=>l.new p o ho h2 f⟩
 ne:=g.ne
theorem WOk.some {K:Ck}{W:Wd}(w:WOk K W) {a:Addr}(h:a∈W.m):∃ o,W.H a=some o:=by
 obtain ⟨n,hn,e⟩:=getElem_of_mem h
 have hl:n<W.h.length:=by rw [<- w.len];exact hn
 exact (w.at_ n W.h[n] a (List.getElem?_eq_getElem hl) (by rw [List.getElem?_eq_getElem hn,e])).some
theorem Le.fresh {K:Ck}{W W':Wd}(l:Le K W W') {p:Addr}(h:W'.H p=none):W.H p=none:=by
 cases e:W.H p with
 | none=>rfl
 | some o =>
  by_cases hm:p∈W.m
  .obtain ⟨o,q⟩:=l.ok.some (l.pre.subset hm)
   rw [h] at q;cases q
  .rw [l.keep p o e hm] at h;cases h
theorem WOk.out {K:Ck}{W:Wd}(w:WOk K W) {p:Addr}(h:W.H p=none):p∉W.m:=fun z=>by
 obtain ⟨o,q⟩:=w.some z
 rw [h] at q;cases q
theorem WOk.ff {K:Ck}{W:Wd}(w:WOk K W) {p:Addr}(h:W.H p=none):W.F p=none:=Same.free w.le h
structure Lf (K:Ck) (W W':Wd):Prop where
 fs:Same W.F W'.F
 pre:W.m <+: W'.m
 fz:∀ (n:Nat) (ks:List Key) (xs:List PV),W.h[n]?=some (.fz ks xs)->W'.h[n]?=some (.fz ks xs)/\∀ a,W.m[n]?=some a->W'.H a=W.H a
theorem Le.lf {K:Ck}{W W':Wd}(l:Le K W W'):Lf K W W':=⟨l.fs,l.pre,l.fz⟩
theorem Lf.refl {K:Ck}{W:Wd}:Lf K W W:=⟨Same.refl _,prefix_refl _,fun _ _ _ e=>⟨e,fun _ _=>rfl⟩⟩
theorem Lf.trans {K:Ck}{W W1 W2:Wd}(a:Lf K W W1) (b:Lf K W1 W2):Lf K W W2:=⟨a.fs.trans b.fs,a.pre.trans b.pre,fun n ks xs e=>by
  obtain ⟨e1,q1⟩:=a.fz n ks xs e
  obtain ⟨e2,q2⟩:=b.fz n ks xs e1
  exact ⟨e2,fun c em=>(q2 c (yeU a.pre em)).trans (q1 c em)⟩⟩
theorem Lf.rep {K:Ck}{W W':Wd}(l:Lf K W W') {x:PV}{v:V}(h:yda K W x v):yda K W' x v:=Rep.mono l.fs l.pre x v h
noncomputable def ycH (K:Ck) (t:TE) (e:XE):Prop:=∀ (W0 W:Wd) (ρ:PSt) (σ:St) (Q:VK) (x:PV) (h':AH),Good K W0 W ρ σ->e ρ W.h=some (x,h') ->
 (∀ v W',W'.h=h'->Le K W W'->yda K W' x v->Q v W'.H)->t σ W.H Q
noncomputable def yjK (K:Ck) (t:TT) (e:XT):Prop:=∀ (W0 W:Wd) (ρ:PSt) (σ:St) (Q:Bool->Hp->Prop) (x:Bool) (h':AH),Good K W0 W ρ σ->e ρ W.h=some (x,h') ->
 (∀ W',W'.h=h'->Le K W W'->Q x W'.H)->t σ W.H Q
noncomputable def ylm (K:Ck) (t:TA) (e:XA):Prop:=∀ (W0 W:Wd) (ρ:PSt) (σ:St) (Q:List V->Hp->Prop) (x:List PV) (h':AH),Good K W0 W ρ σ->e ρ W.h=some (x,h') ->
 (∀ v W',W'.h=h'->Le K W W'->ycL K W' x v->Q v W'.H)->t σ W.H Q
def yln (K:Ck) (t:TE) (e:XO):Prop:=∀ (W0 W:Wd) (ρ:PSt) (σ:St) (Q:VK) (d:Nd) (h':AH),Good K W0 W ρ σ->e ρ W.h=some (d,h') ->
 (∀ p W',W'.h=h'->Le K W W'->p∉W'.m->W.H p=none->d≠.dead->NdAt K W'.F W'.H W'.m d p->Q (.ref p) W'.H)->t σ W.H Q
noncomputable def Ends.Ok (K:Ck) (W0 W:Wd) (D:Ends) (h':AH):Out->Prop
 | .nx ρ'=>∀ W' σ',W'.h=h'->Lf K W W'->Good K W0 W' ρ' σ'->D.nx σ' W'.H
 | .bk ρ'=>∀ W' σ',W'.h=h'->Lf K W W'->Good K W0 W' ρ' σ'->D.bk σ' W'.H
 | .ct ρ'=>∀ W' σ',W'.h=h'->Lf K W W'->Good K W0 W' ρ' σ'->D.ct σ' W'.H
 | .rt x=>∀ W' v,W'.h=h'->Le K W0 W'->yda K W' x v->D.rt v W'.H
def yge (K:Ck) (t:TS) (s:XS):Prop:=∀ (W0 W:Wd) (ρ:PSt) (σ:St) (D:Ends) (o:Out) (h':AH),Good K W0 W ρ σ->s ρ W.h=some (o,h')->Ends.Ok K W0 W D h' o->t D σ W.H
noncomputable def ob {α β:Type}(o:Option (α×AH)) (f:α->AH->Option β):Option β:=o.bind fun q=>f q.1 q.2
theorem yh {α β:Type}{o:Option (α×AH)}{f:α->AH->Option β}{b:β}(h:ob o f=some b):∃ x h',o=some (x,h')/\f x h'=some b:=by
 obtain ⟨⟨x,h'⟩,e,k⟩:=Option.bind_eq_some_iff.mp h
 exact ⟨x,h',e,k⟩
end PX
namespace PX
open PySem L2
variable {K:Ck}
def ye (i:Nat):XE:=fun ρ h=>match ρ[i]? with|some (.val x)=>some (x,h)|_=>none
def xC (x:PV):XE:=fun _ h=>some (x,h)
abbrev P2:=PV->PV->AH->Option (PV×AH)
abbrev P2O:=PV->PV->AH->Option (Nd×AH)
def xOp (p:P2) (a b:XE):XE:=fun ρ h=>ob (a ρ h) fun x h1=>ob (b ρ h1) fun y h2=>p x y h2
def yjL (p:P2O) (a b:XE):XO:=fun ρ h=>ob (a ρ h) fun x h1=>ob (b ρ h1) fun y h2=>p x y h2
def xUn (p:PV->AH->Option (PV×AH)) (a:XE):XE:=fun ρ h=>ob (a ρ h) fun x h1=>p x h1
def oB (x:PV) (h:AH):Option (Bool×AH):=match x with|.bl b=>some (b,h)|_=>none
def ydF (p p':P2) (a b c:XE):XE:=fun ρ h=>ob (a ρ h) fun x h1=>ob (b ρ h1) fun y h2=>ob (p x y h2) fun z h3=>ob (oB z h3) fun k h3=>if k=true then ob (c ρ h3) fun w h4=>p' y w h4 else some (.bl false,h3)
def yy (a:XE):XT:=fun ρ h=>ob (a ρ h) oB
def yiW (a b:XE):XE:=fun ρ h=>ob (a ρ h) fun x h1=>ob (oB x h1) fun k h1=>if k=true then b ρ h1 else some (.bl false,h1)
def ynL (a:XE):XE:=fun ρ h=>ob (a ρ h) fun x h1=>ob (oB x h1) fun k h1=>some (.bl (!k),h1)
def yvw (a b:XT):XT:=fun ρ h=>ob (a ρ h) fun k h1=>if k=true then b ρ h1 else some (false,h1)
def xOr (a b:XT):XT:=fun ρ h=>ob (a ρ h) fun k h1=>if k=true then some (true,h1) else b ρ h1
def ygz (a:XT):XT:=fun ρ h=>ob (a ρ h) fun k h1=>some (!k,h1)
def xIf (c:XT) (a b:XE):XE:=fun ρ h=>ob (c ρ h) fun k h1=>if k=true then a ρ h1 else b ρ h1
def yg:XA:=fun _ h=>some ([],h)
def yb (a:XE) (r:XA):XA:=fun ρ h=>ob (a ρ h) fun x h1=>ob (r ρ h1) fun xs h2=>some (x::xs,h2)
def ygT (a:XA):XE:=fun ρ h=>ob (a ρ h) fun xs h1=>if xs.length<=1000 then some (.tup xs,h1) else none
def ydn (a:XA):XO:=fun ρ h=>ob (a ρ h) fun xs h1=>if xs.length<=1000 then some (.lst xs,h1) else none
def xFz (e:XO):XE:=fun ρ h=>ob (e ρ h) fun d h1=>match d with|.lst xs=>some (.lst xs,h1)|.ins k ns xs=>some (.ins k ns xs,h1)|_=>none
def yfZ (e:XO):XE:=fun ρ h=>ob (e ρ h) fun d h1=>some (.loc h1.length,h1++[d])
def yN (f:Fn) (a:XA):XE:=fun ρ h=>ob (a ρ h) f
def xCB (p:List PV->AH->Option (PV×AH)) (a:XA):XE:=fun ρ h=>ob (a ρ h) p
def ygZ (p:List PV->AH->Option (Nd×AH)) (a:XA):XO:=fun ρ h=>ob (a ρ h) p
abbrev PM:=PV->List PV->AH->Option (PV×AH)
def xBM (c:PV->AH->Bool) (p:PM) (o:XE) (a:XA):XE:=fun ρ h=>ob (o ρ h) fun x h1=>if c x h1=true then ob (a ρ h1) fun xs h2=>p x xs h2 else none
def yAZ (e:XE):PSt->AH->Option (Option Int×AH):=fun ρ h=>ob (e ρ h) fun x h1=>match x with|.int i=>some (some i,h1)|_=>none
noncomputable def ycB (K:Ck) (r:R2) (p:P2):Prop:=∀ (W:Wd) (x y:PV) (v u:V) (Q:VK) (z:PV) (h':AH),WOk K W->yda K W x v->yda K W y u->p x y W.h=some (z,h')->(∀ w W',W'.h=h'->Le K W W'->yda K W' z w->Q w W'.H)->r v u W.H Q
def yoW (K:Ck) (W:Wd) (d:Nd) (h':AH) (Q:VK):Prop:=∀ p W',W'.h=h'->Le K W W'->p∉W'.m->W.H p=none->d≠.dead->NdAt K W'.F W'.H W'.m d p->Q (.ref p) W'.H
def ymP (K:Ck) (r:R2) (p:P2O):Prop:=∀ (W:Wd) (x y:PV) (v u:V) (Q:VK) (d:Nd) (h':AH),WOk K W->yda K W x v->yda K W y u->p x y W.h=some (d,h')->yoW K W d h' Q->r v u W.H Q
noncomputable def ytV (K:Ck) (r:V->Hp->VK->Prop) (p:PV->AH->Option (PV×AH)):Prop:=∀ (W:Wd) (x:PV) (v:V) (Q:VK) (z:PV) (h':AH),WOk K W->yda K W x v->p x W.h=some (z,h')->(∀ w W',W'.h=h'->Le K W W'->yda K W' z w->Q w W'.H)->r v W.H Q
noncomputable def yhx (K:Ck) (r:List V->Hp->VK->Prop) (p:List PV->AH->Option (PV×AH)):Prop:=∀ (W:Wd) (xs:List PV) (vs:List V) (Q:VK) (z:PV) (h':AH),WOk K W->ycL K W xs vs->p xs W.h=some (z,h')->(∀ w W',W'.h=h'->Le K W W'->yda K W' z w->Q w W'.H)->r vs W.H Q
def yoX (K:Ck) (r:List V->Hp->VK->Prop) (p:List PV->AH->Option (Nd×AH)):Prop:=∀ (W:Wd) (xs:List PV) (vs:List V) (Q:VK) (d:Nd) (h':AH),WOk K W->ycL K W xs vs->p xs W.h=some (d,h')->yoW K W d h' Q->r vs W.H Q
def yrf (K:Ck) (T:String) (c:PV->AH->Bool) (r:V->List V->Hp->VK->Prop) (p:PM):Prop :=
 (∀ (W:Wd) (x:PV) (v:V),WOk K W->yda K W x v->c x W.h=true->tyV K.K T v W.H) /\
 ∀ (W:Wd) (x:PV) (v:V) (xs:List PV) (vs:List V) (Q:VK) (z:PV) (h':AH),WOk K W->yda K W x v->ycL K W xs vs->p x xs W.h=some (z,h')->(∀ w W',W'.h=h'->Le K W W'->yda K W' z w->Q w W'.H)->r v vs W.H Q
theorem ytW (i:Nat):ycH K (yny i) (ye i):=by
 intro W0 W ρ σ Q x h' g e q
 unfold ye at e
 split at e
 .rename_i y hy
  cases e
  obtain ⟨v,h1,h2⟩:=g.val i _ hy
  exact ⟨v,h1,q v W rfl (.refl g.ok) h2⟩
 .cases e
theorem ynM {v:V}{x:PV}(h:∀ W:Wd,yda K W x v):ycH K (tC v) (xC x):=by
 intro W0 W ρ σ Q y h' g e q
 cases e
 exact q v W rfl (.refl g.ok) (h W)
theorem yoY {i:Int}:ycH K (tC (.int i)) (xC (.int i)):=ynM fun _=>rfl
theorem yoZ {i:Str}:ycH K (tC (.str i)) (xC (.str i)):=ynM fun _=>rfl
theorem ywr {i:Bool}:ycH K (tC (.bl i)) (xC (.bl i)):=ynM fun _=>rfl
theorem ytX:ycH K (tC .non) (xC .non):=ynM fun _=>rfl
theorem yws {n:String}:ycH K (tC (.ty n)) (xC (.ty n)):=ynM fun _=>rfl
theorem ytY {k:Nat}:ycH K (tC (.ref (K.A k))) (xC (.cls k)):=ynM fun _=>rfl
section
variable {ta tb tc:TE}{ea eb ec:XE}{t:TA}{e:XA}
theorem ymQ {r:R2}{p:P2}(o:ycB K r p) (a:ycH K ta ea) (b:ycH K tb eb):ycH K (tOp r ta tb) (xOp p ea eb):=by
 intro W0 W ρ σ Q z h' g e q
 obtain ⟨x,h1,e1,f1⟩:=yh e
 obtain ⟨y,h2,e2,f2⟩:=yh f1
 refine a W0 W ρ σ _ x h1 g e1 fun v W1 w1 l1 r1=>?_
 subst w1
 refine b W0 W1 ρ σ _ y h2 (g.step l1) e2 fun u W2 w2 l2 r2=>?_
 subst w2
 exact o W2 x y v u Q z h' l2.ok (l2.rep r1) r2 f2 fun w W3 w3 l3 r3=>q w W3 w3 (l1.trans (l2.trans l3)) r3
theorem yip {W W1:Wd}{d:Nd}{h':AH}{Q:VK}(l:Le K W W1) (q:yoW K W d h' Q):yoW K W1 d h' Q:=fun p W' e l' n f=>q p W' e (l.trans l') n (l.fresh f)
theorem ytZ {r:R2}{p:P2O}(o:ymP K r p) (a:ycH K ta ea) (b:ycH K tb eb):yln K (tOp r ta tb) (yjL p ea eb):=by
 intro W0 W ρ σ Q z h' g e q
 obtain ⟨x,h1,e1,f1⟩:=yh e
 obtain ⟨y,h2,e2,f2⟩:=yh f1
 refine a W0 W ρ σ _ x h1 g e1 fun v W1 w1 l1 r1=>?_
 subst w1
 refine b W0 W1 ρ σ _ y h2 (g.step l1) e2 fun u W2 w2 l2 r2=>?_
 subst w2
 exact o W2 x y v u Q z h' l2.ok (l2.rep r1) r2 f2 (yip (l1.trans l2) q)
theorem ywt {r} {p} (o:ytV K r p) (a:ycH K ta ea):ycH K (tUn r ta) (xUn p ea):=by
 intro W0 W ρ σ Q z h' g e q
 obtain ⟨x,h1,e1,f1⟩:=yh e
 refine a W0 W ρ σ _ x h1 g e1 fun v W1 w1 l1 r1=>?_
 subst w1
 exact o W1 x v Q z h' l1.ok r1 f1 fun w W3 w3 l3 r3=>q w W3 w3 (l1.trans l3) r3
theorem yiX {x:PV}{h:AH}{k:Bool}{h':AH}(e:oB x h=some (k,h')):x=.bl k/\h'=h:=by
 unfold oB at e
 split at e
 .cases e;exact ⟨rfl,rfl⟩
 .cases e
theorem ykp {r r':R2}{p p':P2}(o:ycB K r p) (o':ycB K r' p') (a:ycH K ta ea) (b:ycH K tb eb) (c:ycH K tc ec):ycH K (yoE r r' ta tb tc) (ydF p p' ea eb ec):=by
 intro W0 W ρ σ Q z h' g e q
 obtain ⟨x,h1,e1,f1⟩:=yh e
 obtain ⟨y,h2,e2,f2⟩:=yh f1
 obtain ⟨z',h3,e3,f3⟩:=yh f2
 obtain ⟨k,h3',e3',f4⟩:=yh f3
 obtain ⟨rfl,rfl⟩:=yiX e3'
 refine a W0 W ρ σ _ x h1 g e1 fun v W1 w1 l1 r1=>?_
 subst w1
 refine b W0 W1 ρ σ _ y h2 (g.step l1) e2 fun u W2 w2 l2 r2=>?_
 subst w2
 refine o W2 x y v u _ _ _ l2.ok (l2.rep r1) r2 e3 fun w W3 w3 l3 r3=>⟨k,r3,?_⟩
 subst w3
 have l:=l1.trans (l2.trans l3)
 cases k with
 | false =>
  rw [if_neg (by decide)] at f4 ⊢
  cases f4
  exact q _ W3 rfl l rfl
 | true =>
  rw [if_pos rfl] at f4 ⊢
  obtain ⟨w',h4,e4,f5⟩:=yh f4
  refine c W0 W3 ρ σ _ w' h4 (g.step l) e4 fun u' W4 w4 l4 r4=>?_
  subst w4
  exact o' W4 y w' u u' Q z h' l4.ok ((l3.trans l4).rep r2) r4 f5 fun w W5 w5 l5 r5=>q w W5 w5 (l.trans (l4.trans l5)) r5
theorem yiY (a:ycH K ta ea):yjK K (ytH ta) (yy ea):=by
 intro W0 W ρ σ Q k h' g e q
 obtain ⟨x,h1,e1,f1⟩:=yh e
 obtain ⟨rfl,rfl⟩:=yiX f1
 exact a W0 W ρ σ _ _ _ g e1 fun v W1 w1 l1 r1=>⟨k,r1,q W1 w1 l1⟩
theorem ywu (a:ycH K ta ea):yjK K (tB ta) (yy ea):=yiY a
theorem yrg (a:ycH K ta ea) (b:ycH K tb eb):ycH K (yvQ ta tb) (yiW ea eb):=by
 intro W0 W ρ σ Q z h' g e q
 obtain ⟨x,h1,e1,f1⟩:=yh e
 obtain ⟨k,h1',e1',f2⟩:=yh f1
 obtain ⟨rfl,rfl⟩:=yiX e1'
 refine a W0 W ρ σ _ _ _ g e1 fun v W1 w1 l1 r1=>⟨k,r1,?_⟩
 subst w1
 cases k with
 | false =>
  rw [if_neg (by decide)] at f2 ⊢
  cases f2
  exact q _ W1 rfl l1 rfl
 | true =>
  rw [if_pos rfl] at f2 ⊢
  exact b W0 W1 ρ σ _ z h' (g.step l1) f2 fun v W2 w2 l2 r2=>q v W2 w2 (l1.trans l2) r2
theorem yrh (a:ycH K ta ea):ycH K (yvR ta) (ynL ea):=by
 intro W0 W ρ σ Q z h' g e q
 obtain ⟨x,h1,e1,f1⟩:=yh e
 obtain ⟨k,h1',e1',f2⟩:=yh f1
 obtain ⟨rfl,rfl⟩:=yiX e1'
 cases f2
 exact a W0 W ρ σ _ _ _ g e1 fun v W1 w1 l1 r1=>⟨k,r1,q _ W1 w1 l1 rfl⟩
section
variable {tA tB':TT}{eA eB:XT}
theorem yua (a:yjK K tA eA) (b:yjK K tB' eB):yjK K (yAj tA tB') (yvw eA eB):=by
 intro W0 W ρ σ Q z h' g e q
 obtain ⟨k,h1,e1,f1⟩:=yh e
 refine a W0 W ρ σ _ _ _ g e1 fun W1 w1 l1=>?_
 subst w1
 cases k with
 | false =>
  rw [if_neg (by decide)] at f1 ⊢
  cases f1
  exact q W1 rfl l1
 | true =>
  rw [if_pos rfl] at f1 ⊢
  exact b W0 W1 ρ σ _ z h' (g.step l1) f1 fun W2 w2 l2=>q W2 w2 (l1.trans l2)
theorem ywv (a:yjK K tA eA) (b:yjK K tB' eB):yjK K (tOr tA tB') (xOr eA eB):=by
 intro W0 W ρ σ Q z h' g e q
 obtain ⟨k,h1,e1,f1⟩:=yh e
 refine a W0 W ρ σ _ _ _ g e1 fun W1 w1 l1=>?_
 subst w1
 cases k with
 | true =>
  rw [if_pos rfl] at f1 ⊢
  cases f1
  exact q W1 rfl l1
 | false =>
  rw [if_neg (by decide)] at f1 ⊢
  exact b W0 W1 ρ σ _ z h' (g.step l1) f1 fun W2 w2 l2=>q W2 w2 (l1.trans l2)
theorem yub (a:yjK K tA eA):yjK K (yyu tA) (ygz eA):=by
 intro W0 W ρ σ Q z h' g e q
 obtain ⟨k,h1,e1,f1⟩:=yh e
 cases f1
 exact a W0 W ρ σ _ _ _ g e1 fun W1 w1 l1=>q W1 w1 l1
theorem yww (c:yjK K tA eA) (a:ycH K ta ea) (b:ycH K tb eb):ycH K (tIf tA ta tb) (xIf eA ea eb):=by
 intro W0 W ρ σ Q z h' g e q
 obtain ⟨k,h1,e1,f1⟩:=yh e
 refine c W0 W ρ σ _ _ _ g e1 fun W1 w1 l1=>?_
 subst w1
 cases k with
 | true =>
  rw [if_pos rfl] at f1 ⊢
  exact a W0 W1 ρ σ _ z h' (g.step l1) f1 fun v W2 w2 l2 r2=>q v W2 w2 (l1.trans l2) r2
 | false =>
  rw [if_neg (by decide)] at f1 ⊢
  exact b W0 W1 ρ σ _ z h' (g.step l1) f1 fun v W2 w2 l2 r2=>q v W2 w2 (l1.trans l2) r2
end
theorem ylQ:ylm K ysU yg:=by
 intro W0 W ρ σ Q z h' g e q
 cases e
 exact q [] W rfl (.refl g.ok) rfl
theorem yri (a:ycH K ta ea) (r:ylm K t e):ylm K (yls ta t) (yb ea e):=by
 intro W0 W ρ σ Q z h' g e q
 obtain ⟨x,h1,e1,f1⟩:=yh e
 obtain ⟨xs,h2,e2,f2⟩:=yh f1
 cases f2
 refine a W0 W ρ σ _ x h1 g e1 fun v W1 w1 l1 r1=>?_
 subst w1
 exact r W0 W1 ρ σ _ xs _ (g.step l1) e2 fun vs W2 w2 l2 r2=>q (v::vs) W2 w2 (l1.trans l2) ⟨v,vs,rfl,l2.rep r1,r2⟩
def ytd (W:Wd) (p:Addr) (o:HO):Wd:=⟨upd W.F p o,upd W.H p o,W.m,W.h⟩
theorem ylR {W:Wd}{p:Addr}{o:HO}(w:WOk K W) (h:W.H p=none):Le K W (ytd W p o):=by
 have hm:=w.out h
 have hf:=w.ff h
 have sF:Same W.F (upd W.F p o):=ydQ hf o
 refine ⟨⟨?_,w.len,w.nd,fun n d a e1 e2=>?_⟩,sF,prefix_refl _,fun b u e _=>ydQ h o b u e,fun b u e _ f=>?_,fun b z n=>absurd z n,fun n ks xs e1=>⟨e1,fun a e2=>yU fun z=>hm (z ▸ mem_of_getElem? e2)⟩⟩
 .intro b u e
  show upd W.H p o b=some u
  by_cases hb:b=p
  .subst hb;rw [show (ytd W b o).F b=upd W.F b o b from rfl,yG] at e;rw [yG];exact e
  .rw [show (ytd W p o).F b=upd W.F p o b from rfl,yU hb] at e;rw [yU hb];exact w.le _ _ e
 .have ha:a≠p:=fun z=>hm (z ▸ mem_of_getElem? e2)
  exact (w.at_ n d a e1 e2).mono sF (prefix_refl _) (fun u e=>by rw [show (ytd W p o).H a=upd W.H p o a from rfl,yU ha];exact e) fun f=>(yU ha).trans f
 .have:b≠p:=ybQ e h
  rw [show (ytd W p o).F b=upd W.F p o b from rfl,yU this];exact f
def yfs (W:Wd) (p:Addr) (o:HO):Wd:=⟨W.F,upd W.H p o,W.m,W.h⟩
theorem ycp {W:Wd}{p:Addr}{o:HO}(w:WOk K W) (h:W.H p=none):Le K W (yfs W p o):=by
 have hm:=w.out h
 refine ⟨⟨?_,w.len,w.nd,fun n d a e1 e2=>?_⟩,Same.refl _,prefix_refl _,fun b u e _=>ydQ h o b u e,fun b u e _ f=>f,fun b z n=>absurd z n,fun n ks xs e1=>⟨e1,fun a e2=>yU fun z=>hm (z ▸ mem_of_getElem? e2)⟩⟩
 .exact fun b u e=>ydQ h o b u (w.le _ _ e)
 .exact (w.at_ n d a e1 e2).mono (Same.refl _) (prefix_refl _) (fun u e=>ydQ h o _ _ e) id
theorem small {n:Nat}(h:n<=1000):n<=sizeLine:=le_of_lt (yoR h)
theorem yuc (a:ylm K t e):ycH K (yAt t) (ygT e):=by
 intro W0 W ρ σ Q z h' g e q
 obtain ⟨xs,h1,e1,f1⟩:=yh e
 split at f1
 .rename_i hl
  cases f1
  refine a W0 W ρ σ _ xs _ g e1 fun vs W1 w1 l1 r1=>⟨small (by rw [r1.len];exact hl),fun p hp=>?_⟩
  have l2:=ylR (o:=.tup vs) l1.ok hp
  exact q (.ref p) (ytd W1 p (.tup vs)) w1 (l1.trans l2) ⟨p,vs,rfl,.inl yG,l2.repL r1⟩
 .cases f1
theorem yud (a:ylm K t e):yln K (yAu t) (ydn e):=by
 intro W0 W ρ σ Q z h' g e q
 obtain ⟨xs,h1,e1,f1⟩:=yh e
 split at f1
 .rename_i hl
  cases f1
  refine a W0 W ρ σ _ xs _ g e1 fun vs W1 w1 l1 r1=>⟨small (by rw [r1.len];exact hl),fun p hp=>?_⟩
  have l2:=ycp (o:=.lst vs) l1.ok hp
  exact q p (yfs W1 p (.lst vs)) w1 (l1.trans l2) (l1.ok.out hp) (l1.fresh hp) (fun z=>by cases z) ⟨l1.ok.ff hp,vs,yG,r1⟩
 .cases f1
def yrj (W:Wd) (p:Addr) (o:HO):Wd:=⟨upd W.F p o,W.H,W.m,W.h⟩
theorem ypa {W:Wd}{p:Addr}{o:HO}(w:WOk K W) (h:W.H p=some o) (hm:p∉W.m) (hf:W.F p=none):WOk K (yrj W p o)/\Same W.F (upd W.F p o):=by
 have sF:Same W.F (upd W.F p o):=ydQ hf o
 refine ⟨⟨?_,w.len,w.nd,fun n d a e1 e2=>?_⟩,sF⟩
 .intro b u e
  by_cases hb:b=p
  .subst hb;rw [show (yrj W b o).F b=upd W.F b o b from rfl,yG] at e;cases e;exact h
  .rw [show (yrj W p o).F b=upd W.F p o b from rfl,yU hb] at e;exact w.le _ _ e
 .have ha:a≠p:=fun z=>hm (z ▸ mem_of_getElem? e2)
  exact (w.at_ n d a e1 e2).mono sF (prefix_refl _) (fun u e=>e) fun f=>(yU ha).trans f
theorem ylS {W W1:Wd}{p:Addr}{o:HO}(l:Le K W W1) (h:W1.H p=some o) (hm:p∉W1.m) (hf:W1.F p=none) (hn:W.H p=none):Le K W (yrj W1 p o):=by
 obtain ⟨k,sF⟩:=ypa l.ok h hm hf
 refine ⟨k,l.fs.trans sF,l.pre,l.keep,fun b u e n f=>?_,l.mn,l.fz⟩
 have:b≠p:=ybQ e hn
 rw [show (yrj W1 p o).F b=upd W1.F p o b from rfl,yU this];exact l.new b u e n f
theorem yte {o:XO}(a:yln K ta o):ycH K ta (xFz o):=by
 intro W0 W ρ σ Q z h' g e q
 obtain ⟨d,h1,e1,f1⟩:=yh e
 refine a W0 W ρ σ _ d h1 g e1 fun p W1 w1 l1 hm hn hd at_=>?_
 split at f1
 .rename_i xs
  cases f1
  obtain ⟨hf,vs,hp,r⟩:=at_
  have l2:=ylS l1 hp hm hf hn
  exact q (.ref p) (yrj W1 p (.lst vs)) w1 l2 ⟨p,vs,rfl,yG,RepL.mono (ydQ hf _) (prefix_refl _) _ _ r⟩
 .rename_i k ns xs
  cases f1
  obtain ⟨hf,dx,vs,hp,hl,r⟩:=at_
  have l2:=ylS l1 hp hm hf hn
  exact q (.ref p) (yrj W1 p _) w1 l2 ⟨p,dx,vs,rfl,yG,hl,RepL.mono (ydQ hf _) (prefix_refl _) _ _ r⟩
 .cases f1
theorem ypb {o:XO}(a:yln K ta o):ycH K ta (yfZ o):=by
 intro W0 W ρ σ Q z h' g e q
 obtain ⟨d,h1,e1,f1⟩:=yh e
 cases f1
 refine a W0 W ρ σ _ d h1 g e1 fun p W1 w1 l1 hm hn hd at_=>?_
 subst w1
 have pre:W1.m <+: W1.m++[p]:=List.prefix_append _ _
 refine q (.ref p) ⟨W1.F,W1.H,W1.m++[p],W1.h++[d]⟩ rfl ⟨⟨l1.ok.le,?_,?_,fun n d' a e1 e2=>?_⟩,l1.fs,l1.pre.trans pre,l1.keep,l1.new,fun b z n=>?_,fun n ks xs e1=>⟨by
  have:=(l1.fz n ks xs e1).1
  show (W1.h++[d])[n]?=_
  rw [getElem?_append_left (List.getElem?_eq_some_iff.mp this).1];exact this,(l1.fz n ks xs e1).2⟩⟩ ⟨p,rfl,?_⟩
 .show (W1.m++[p]).length=(W1.h++[d]).length
  rw [length_append,length_append,l1.ok.len];rfl
 .show (W1.m++[p]).Nodup
  rw [List.nodup_append]
  refine ⟨l1.ok.nd,by simp,?_⟩
  intro a ha b hb
  simp at hb
  subst hb
  exact fun z=>hm (z ▸ ha)
 .have e1:(W1.h++[d])[n]?=some d':=e1
  have e2:(W1.m++[p])[n]?=some a:=e2
  by_cases hlt:n<W1.h.length
  .rw [getElem?_append_left hlt] at e1
   rw [getElem?_append_left (by rw [l1.ok.len];exact hlt)] at e2
   exact (l1.ok.at_ n d' a e1 e2).mono (Same.refl _) pre (fun _ f1=>f1) id
  .rw [getElem?_append_right (by omega)] at e1
   rw [getElem?_append_right (by rw [l1.ok.len];omega)] at e2
   rw [l1.ok.len] at e2
   cases hk:n-W1.h.length with
   | zero =>
    rw [hk] at e1 e2
    simp at e1 e2
    subst e1 e2
    exact at_.mono (Same.refl _) pre (fun _ f1=>f1) id
   | succ k=>rw [hk] at e1;simp at e1
 .have z:b∈W1.m++[p]:=z
  rcases List.mem_append.mp z with z|z
  .exact l1.mn b z n
  .simp at z;subst z;exact hn
 .show (W1.m++[p])[W1.h.length]?=some p
  rw [<- l1.ok.len];simp
noncomputable def spE (K:Ck) (n:Nat) (f:Fn):Sp:=fun vs H Q _=>∃ (W:Wd) (xs:List PV) (x:PV) (h':AH),W.H=H/\WOk K W/\ycL K W xs vs/\xs.length=n/\f xs W.h=some (x,h')/\∀ v W',W'.h=h'->Le K W W'->yda K W' x v->Q v W'.H
theorem yrk {n:Nat}{f:Fn}{ex:XK}(a:ylm K t e) (hn:∀ ρ h xs h',e ρ h=some (xs,h')->xs.length=n):ycH K (yqQ (spE K n f) [] ex t) (yN f e):=by
 intro W0 W ρ σ Q z h' g e' q
 obtain ⟨xs,h1,e1,e2⟩:=yh e'
 refine a W0 W ρ σ _ xs h1 g e1 fun vs W1 w1 l1 r1=>?_
 subst w1
 rw [append_nil]
 exact ⟨W1,xs,z,h',rfl,l1.ok,r1,hn _ _ _ _ e1,e2,fun v W2 w2 l2 r2=>q v W2 w2 (l1.trans l2) r2⟩
theorem ylT:∀ ρ h xs h',yg ρ h=some (xs,h')->xs.length=0:=fun ρ h xs h' e=>by cases e;rfl
theorem yrl {n:Nat}(l:∀ ρ h xs h',e ρ h=some (xs,h')->xs.length=n):∀ ρ h xs h',yb ea e ρ h=some (xs,h')->xs.length=n+1:=fun ρ h xs h' q=>by
 obtain ⟨x,h1,e1,q⟩:=yh q
 obtain ⟨ys,h2,e2,q⟩:=yh q
 cases q
 rw [length_cons,l _ _ _ _ e2]
theorem ytf {r} {p} (o:yhx K r p) (a:ylm K t e):ycH K (tCB r t) (xCB p e):=by
 intro W0 W ρ σ Q z h' g e' q
 obtain ⟨xs,h1,e1,e2⟩:=yh e'
 refine a W0 W ρ σ _ xs h1 g e1 fun vs W1 w1 l1 r1=>?_
 subst w1
 exact o W1 xs vs Q z h' l1.ok r1 e2 fun v W2 w2 l2 r2=>q v W2 w2 (l1.trans l2) r2
theorem yue {r} {p} (o:yoX K r p) (a:ylm K t e):yln K (tCB r t) (ygZ p e):=by
 intro W0 W ρ σ Q z h' g e' q
 obtain ⟨xs,h1,e1,e2⟩:=yh e'
 refine a W0 W ρ σ _ xs h1 g e1 fun vs W1 w1 l1 r1=>?_
 subst w1
 exact o W1 xs vs Q z h' l1.ok r1 e2 (yip l1 q)
theorem ywx {T:String}{c} {r} {p} (o:yrf K T c r p) (b:ycH K ta ea) (a:ylm K t e):ycH K (tBM K.K T r ta t) (xBM c p ea e):=by
 intro W0 W ρ σ Q z h' g e' q
 obtain ⟨x,h1,e1,f1⟩:=yh e'
 split at f1
 .rename_i hc
  obtain ⟨xs,h2,e2,f2⟩:=yh f1
  refine b W0 W ρ σ _ x h1 g e1 fun v W1 w1 l1 r1=>⟨o.1 W1 x v l1.ok r1 (by rw [w1];exact hc),?_⟩
  subst w1
  refine a W0 W1 ρ σ _ xs h2 (g.step l1) e2 fun vs W2 w2 l2 r2=>?_
  subst w2
  exact o.2 W2 x v xs vs Q z h' l2.ok (l2.rep r1) r2 f2 fun w W3 w3 l3 r3=>q w W3 w3 (l1.trans (l2.trans l3)) r3
 .cases f1
end
end PX
namespace PX
open PySem L2
variable {K:Ck}
def ybi:XS:=fun ρ h=>some (.nx ρ,h)
def yv (s u:XS):XS:=fun ρ h=>ob (s ρ h) fun o h1=>match o with|.nx ρ'=>u ρ' h1|.rt x=>some (.rt x,h1)|.bk ρ'=>some (.bk ρ',h1)|.ct ρ'=>some (.ct ρ',h1)
def ydN (e:XE):XS:=fun ρ h=>ob (e ρ h) fun _ h1=>some (.nx ρ,h1)
def ybf (e:XE):XS:=fun ρ h=>ob (e ρ h) fun x h1=>some (.rt x,h1)
def ycT (c:XT) (s u:XS):XS:=fun ρ h=>ob (c ρ h) fun k h1=>if k=true then s ρ h1 else u ρ h1
abbrev XG:=PV->PSt->Option PSt
abbrev XGs:=List PV->PSt->Option PSt
def yz (i:Nat):XG:=fun x ρ=>some (ρ.set i (.val x))
def yyl:XGs:=fun xs ρ=>match xs with|[]=>some ρ|_=>none
def ypc (g:XG) (r:XGs):XGs:=fun xs ρ=>match xs with|[]=>none|x::xs=>(g x ρ).bind fun ρ'=>r xs ρ'
def ywy (n:Nat) (g:XGs):XG:=fun x ρ=>match x with|.tup xs=>if xs.length=n then g xs ρ else none|_=>none
def ybM (e:XE) (g:XG):XS:=fun ρ h=>ob (e ρ h) fun x h1=>(g x ρ).bind fun ρ'=>some (.nx ρ',h1)
def ylU (e:XO) (i:Nat):XS:=fun ρ h=>ob (e ρ h) fun d h1=>some (.nx (ρ.set i (.own d)),h1)
def yqD:PVar->PVar
 | .own (.lst xs)=>.val (.lst xs)
 | .own (.ins k ns xs)=>.val (.ins k ns xs)
 | v=>v
def ylV (i:Nat) (ρ:PSt):PSt:=ρ.modify i yqD
def yuf (i:Nat) (s:XS):XS:=fun ρ h=>s (ylV i ρ) h
def yiZ (i:Nat) (e:XE):XS:=fun ρ h=>match ρ[i]? with
 | some (.own (.lst xs))=>ob (e ρ h) fun x h1=>if xs.length<100000 then some (.nx (ρ.set i (.own (.lst (xs++[x])))),h1) else none
 | _=>none
def yid (g:XG) (s:XS):List PV->PSt->AH->Option (Out×AH)
 | [],ρ,h=>some (.nx ρ,h)
 | x::xs,ρ,h=>(g x ρ).bind fun ρ1=>ob (s ρ1 h) fun o h1=>match o with|.nx ρ'=>yid g s xs ρ' h1|.ct ρ'=>yid g s xs ρ' h1|.bk ρ'=>some (.nx ρ',h1)|.rt y=>some (.rt y,h1)
def yoj (it:XA) (g:XG) (s:XS):XS:=fun ρ h=>ob (it ρ h) fun xs h1=>yid g s xs ρ h1
def whl (c:XT) (s:XS):Nat->PSt->AH->Option (Out×AH)
 | 0,_,_=>none
 | n+1,ρ,h=>ob (c ρ h) fun k h1=>if k=true then ob (s ρ h1) fun o h2=>(match o with|.nx ρ'=>whl c s n ρ' h2|.ct ρ'=>whl c s n ρ' h2|.bk ρ'=>some (.nx ρ',h2)|.rt y=>some (.rt y,h2)) else some (.nx ρ,h1)
def yiq (fuel:Nat) (c:XT) (s:XS):XS:=fun ρ h=>whl c s fuel ρ h
def ycr (N:Nat) (s:XS):Fn:=fun xs h=>ob (s (xs.map .val++replicate (N-xs.length) .no) h) fun o h1=>match o with|.rt x=>some (x,h1)|.nx _=>some (.non,h1)|_=>none
def yir (ρ:PSt) (i:Nat):PVar:=match ρ[i]? with|some (.val y)=>.val y|_=>.no
def yga (ix:List Nat) (ρ:PSt) (x:PV):PSt:=.val x::ix.map (yir ρ)
def ylW (e:XE) (inn:PV->PSt):List PV->AH->Option (List PV×AH)
 | [],h=>some ([],h)
 | x::xs,h=>ob (e (inn x) h) fun y h1=>ob (ylW e inn xs h1) fun ys h2=>some (y::ys,h2)
def yha (it:XA) (ix:List Nat) (e:XE):XO:=fun ρ h=>ob (it ρ h) fun xs h1=>if xs.length<=100000 then ob (ylW e (yga ix ρ) xs h1) fun ys h2=>some (.lst ys,h2) else none
theorem Ends.Ok.from_ {W0 W W1:Wd}{D:Ends}{h':AH}{o:Out}(l:Lf K W W1) (k:Ends.Ok K W0 W D h' o):Ends.Ok K W0 W1 D h' o:=by
 cases o with
 | nx ρ=>exact fun W' σ' e l' g=>k W' σ' e (l.trans l') g
 | bk ρ=>exact fun W' σ' e l' g=>k W' σ' e (l.trans l') g
 | ct ρ=>exact fun W' σ' e l' g=>k W' σ' e (l.trans l') g
 | rt x=>exact k
section
variable {ta tb:TE}{ea eb:XE}{t u:TS}{s s':XS}{tA:TT}{eA:XT}
theorem yrm:yge K yvV ybi:=by
 intro W0 W ρ σ D o h' g e q
 cases e
 exact q W σ rfl .refl g
theorem yug (a:yge K t s) (b:yge K u s'):yge K (yyw t u) (yv s s'):=by
 intro W0 W ρ σ D o h' g e q
 obtain ⟨o1,h1,e1,f1⟩:=yh e
 refine a W0 W ρ σ _ o1 h1 g e1 ?_
 cases o1 with
 | nx ρ'=>exact fun W' σ' w l g'=>b W0 W' ρ' σ' D o h' g' (by rw [w];exact f1) (q.from_ l)
 | rt x=>cases f1;exact q
 | bk ρ'=>cases f1;exact q
 | ct ρ'=>cases f1;exact q
theorem yrn (a:ycH K ta ea):yge K (yor ta) (ydN ea):=by
 intro W0 W ρ σ D o h' g e q
 obtain ⟨x,h1,e1,f1⟩:=yh e
 cases f1
 exact a W0 W ρ σ _ x _ g e1 fun v W1 w1 l1 r1=>q W1 σ w1 l1.lf (g.step l1)
theorem yuh (a:ycH K ta ea):yge K (yAk ta) (ybf ea):=by
 intro W0 W ρ σ D o h' g e q
 obtain ⟨x,h1,e1,f1⟩:=yh e
 cases f1
 exact a W0 W ρ σ _ x _ g e1 fun v W1 w1 l1 r1=>q W1 v w1 (g.le.trans l1) r1
theorem yui (c:yjK K tA eA) (a:yge K t s) (b:yge K u s'):yge K (yAl tA t u) (ycT eA s s'):=by
 intro W0 W ρ σ D o h' g e q
 obtain ⟨k,h1,e1,f1⟩:=yh e
 refine c W0 W ρ σ _ k h1 g e1 fun W1 w1 l1=>?_
 subst w1
 cases k with
 | true =>
  rw [if_pos rfl] at f1 ⊢
  exact a W0 W1 ρ σ D o h' (g.step l1) f1 (q.from_ l1.lf)
 | false =>
  rw [if_neg (by decide)] at f1 ⊢
  exact b W0 W1 ρ σ D o h' (g.step l1) f1 (q.from_ l1.lf)
theorem Good.set {W0 W:Wd}{ρ:PSt}{σ:St}(g:Good K W0 W ρ σ) (i:Nat) {x:PV}{v:V}(r:yda K W x v):Good K W0 W (ρ.set i (.val x)) (σ.set i (some v)) where
 le:=g.le
 len:=by simp [g.len]
 val:=fun j y e=>by
  by_cases hj:i=j
  .subst hj
   by_cases hl:i<ρ.length
   .rw [getElem?_set_self hl] at e
    cases e
    exact ⟨v,getElem?_set_self (by rw [g.len];exact hl),r⟩
   .rw [getElem?_eq_none (by simp;omega)] at e;cases e
  .rw [getElem?_set_ne hj] at e
   obtain ⟨w,h1,h2⟩:=g.val j y e
   exact ⟨w,by rw [getElem?_set_ne hj];exact h1,h2⟩
 own:=fun j d e=>by
  by_cases hj:i=j
  .subst hj
   by_cases hl:i<ρ.length
   .rw [getElem?_set_self hl] at e;cases e
   .rw [getElem?_eq_none (by simp;omega)] at e;cases e
  .rw [getElem?_set_ne hj] at e
   obtain ⟨p,h1,h2⟩:=g.own j d e
   exact ⟨p,by rw [getElem?_set_ne hj];exact h1,h2⟩
 ne:=fun j k d d' hjk e1 e2=>by
  have f:∀ {j:Nat}{d:Nd},(ρ.set i (.val x))[j]?=some (.own d)->i≠j/\ρ[j]?=some (.own d):=fun {j d} e=>by
   by_cases hj:i=j
   .subst hj
    by_cases hl:i<ρ.length
    .rw [getElem?_set_self hl] at e;cases e
    .rw [getElem?_eq_none (by simp;omega)] at e;cases e
   .rw [getElem?_set_ne hj] at e;exact ⟨hj,e⟩
  obtain ⟨a1,a2⟩:=f e1
  obtain ⟨b1,b2⟩:=f e2
  rw [getElem?_set_ne a1,getElem?_set_ne b1]
  exact g.ne j k d d' hjk a2 b2
theorem Good.setO {W0 W:Wd}{ρ:PSt}{σ:St}(g:Good K W0 W ρ σ) (i:Nat) {d:Nd}{p:Addr}(hm:p∉W.m) (h0:W0.H p=none) (hd:d≠.dead) (at_:NdAt K W.F W.H W.m d p)
  (ne:∀ j d',i≠j->ρ[j]?=some (.own d')->σ[j]?≠some (some (.ref p))):Good K W0 W (ρ.set i (.own d)) (σ.set i (some (.ref p))) where
 le:=g.le
 len:=by simp [g.len]
 val:=fun j y e=>by
  by_cases hj:i=j
  .subst hj
   by_cases hl:i<ρ.length
   .rw [getElem?_set_self hl] at e;cases e
   .rw [getElem?_eq_none (by simp;omega)] at e;cases e
  .rw [getElem?_set_ne hj] at e
   obtain ⟨w,h1,h2⟩:=g.val j y e
   exact ⟨w,by rw [getElem?_set_ne hj];exact h1,h2⟩
 own:=fun j d' e=>by
  by_cases hj:i=j
  .subst hj
   by_cases hl:i<ρ.length
   .rw [getElem?_set_self hl] at e
    cases e
    exact ⟨p,getElem?_set_self (by rw [g.len];exact hl),hm,h0,hd,at_⟩
   .rw [getElem?_eq_none (by simp;omega)] at e;cases e
  .rw [getElem?_set_ne hj] at e
   obtain ⟨p,h1,h2⟩:=g.own j d' e
   exact ⟨p,by rw [getElem?_set_ne hj];exact h1,h2⟩
 ne:=fun j k d1 d2 hjk e1 e2=>by
  have self:∀ {j:Nat}{d':Nd},i=j->(ρ.set i (.own d))[j]?=some (.own d')->(σ.set i (some (.ref p)))[j]?=some (some (.ref p)):=fun {j d'} hj e=>by
   subst hj
   by_cases hl:i<ρ.length
   .exact getElem?_set_self (by rw [g.len];exact hl)
   .rw [getElem?_eq_none (by simp;omega)] at e;cases e
  by_cases hj:i=j
  .have hk:i≠k:=fun z=>hjk (hj.symm.trans z)
   rw [self hj e1,getElem?_set_ne hk]
   rw [getElem?_set_ne hk] at e2
   exact (ne k d2 hk e2).symm
  .rw [getElem?_set_ne hj]
   rw [getElem?_set_ne hj] at e1
   by_cases hk:i=k
   .rw [self hk e2]
    exact ne j d1 hj e1
   .rw [getElem?_set_ne hk] at e2 ⊢
    exact g.ne j k d1 d2 hjk e1 e2
noncomputable def yro (K:Ck) (g:TG) (y:XG):Prop:=∀ (W0 W:Wd) (ρ ρ':PSt) (σ:St) (x:PV) (v:V) (Q:St->Hp->Prop),Good K W0 W ρ σ->yda K W x v->y x ρ=some ρ'->(∀ σ',Good K W0 W ρ' σ'->Q σ' W.H)->g v σ W.H Q
noncomputable def ynN (K:Ck) (g:TGs) (y:XGs):Prop:=∀ (W0 W:Wd) (ρ ρ':PSt) (σ:St) (x:List PV) (v:List V) (Q:St->Hp->Prop),Good K W0 W ρ σ->ycL K W x v->y x ρ=some ρ'->(∀ σ',Good K W0 W ρ' σ'->Q σ' W.H)->g v σ W.H Q
theorem ygf (i:Nat):yro K (ynz i) (yz i):=by
 intro W0 W ρ ρ' σ x v Q g r e q
 cases e
 exact q _ (g.set i r)
theorem yrp:ynN K yAn yyl:=by
 intro W0 W ρ ρ' σ x v Q g r e q
 cases x with
 | nil=>cases e;exact ⟨r,q _ g⟩
 | cons _ _=>cases e
theorem ypd {g:TG}{gs:TGs}{y:XG}{ys:XGs}(a:yro K g y) (b:ynN K gs ys):ynN K (yvX g gs) (ypc y ys):=by
 intro W0 W ρ ρ' σ x v Q gd r e q
 cases x with
 | nil=>cases e
 | cons x xs =>
  obtain ⟨v1,vs,rfl,r1,r2⟩:=r
  obtain ⟨ρ1,e1,e2⟩:=Option.bind_eq_some_iff.mp e
  exact ⟨v1,vs,rfl,a W0 W ρ ρ1 σ x v1 _ gd r1 e1 fun σ' g'=>b W0 W ρ1 ρ' σ' xs vs Q g' r2 e2 q⟩
theorem yrq {n:Nat}{gs:TGs}{ys:XGs}(b:ynN K gs ys):yro K (yAo K.K n gs) (ywy n ys):=by
 intro W0 W ρ ρ' σ x v Q g r e q
 unfold ywy at e
 split at e
 .rename_i xs
  split at e
  .rename_i hl
   obtain ⟨a,vs,rfl,hs,rs⟩:=r
   exact ⟨a,vs,rfl,(hs.elim (fun h=>SqT.of (g.ok.le _ _ h)) .inr),by rw [rs.len];exact hl,b W0 W ρ ρ' σ xs vs Q g rs e q⟩
  .cases e
 .cases e
theorem yja {g:TG}{y:XG}(a:ycH K ta ea) (b:yro K g y):yge K (ysN ta g) (ybM ea y):=by
 intro W0 W ρ σ D o h' gd e q
 obtain ⟨x,h1,e1,f1⟩:=yh e
 obtain ⟨ρ',e2,f2⟩:=Option.bind_eq_some_iff.mp f1
 cases f2
 exact a W0 W ρ σ _ x _ gd e1 fun v W1 w1 l1 r1=>b W0 W1 ρ ρ' σ x v _ (gd.step l1) r1 e2 fun σ' g'=>q W1 σ' w1 l1.lf g'
theorem yrr {o:XO}(i:Nat) (a:yln K ta o):yge K (ysN ta (ynz i)) (ylU o i):=by
 intro W0 W ρ σ D o h' gd e q
 obtain ⟨d,h1,e1,f1⟩:=yh e
 cases f1
 refine a W0 W ρ σ _ d _ gd e1 fun p W1 w1 l1 hm hn hd at_=>q W1 _ w1 l1.lf ((gd.step l1).setO i hm (gd.le.fresh hn) hd at_ fun j d' hj e hs=>?_)
 obtain ⟨p',h1,h2,_,_,h5⟩:=gd.own j d' e
 rw [h1] at hs
 cases hs
 obtain ⟨o,ho⟩:=h5.some
 rw [hn] at ho;cases ho
theorem Good.frz {W0 W:Wd}{ρ:PSt}{σ:St}(g:Good K W0 W ρ σ) (i:Nat):∃ W',W'.h=W.h/\W'.H=W.H/\Lf K W W'/\Good K W0 W' (ylV i ρ) σ:=by
 unfold ylV
 cases e:ρ[i]? with
 | none=>exact ⟨W,rfl,rfl,.refl,by rw [List.modify_eq_self (by simpa using e)];exact g⟩
 | some v =>
  have hl:i<ρ.length:=(List.getElem?_eq_some_iff.mp e).1
  have em:ρ.modify i yqD=ρ.set i (yqD v):=by
   apply List.ext_getElem?
   intro j
   rw [List.getElem?_modify,List.getElem?_set]
   by_cases hj:i=j
   .subst hj
    obtain ⟨_,ev⟩:=List.getElem?_eq_some_iff.mp e
    simp [hl,ev]
   .simp [hj]
  have same:yqD v=v->∃ W',W'.h=W.h/\W'.H=W.H/\Lf K W W'/\Good K W0 W' (ρ.modify i yqD) σ:=fun z=>⟨W,rfl,rfl,.refl,by
   rw [em,z]
   have:ρ.set i v=ρ:=by
    apply List.ext_getElem?
    intro j
    by_cases hj:i=j
    .subst hj;rw [getElem?_set_self hl,e]
    .rw [getElem?_set_ne hj]
   rw [this];exact g⟩
  have go:∀ (d:Nd) (x:PV) (p:Addr) (o:HO),v=.own d->yqD v=.val x->σ[i]?=some (some (.ref p))->p∉W.m->W0.H p=none->W.H p=some o->W.F p=none->(∀ (F':Hp),Same W.F F'->F' p=some o->Rep K F' W.m x (.ref p)) ->
    ∃ W',W'.h=W.h/\W'.H=W.H/\Lf K W W'/\Good K W0 W' (ρ.modify i yqD) σ:=fun d x p o hv hx hs hm h0 hp hf hr=>by
   obtain ⟨k,sF⟩:=ypa (K:=K) g.ok hp hm hf
   have lf:Lf K W (yrj W p o):=⟨sF,prefix_refl _,fun _ _ _ e=>⟨e,fun _ _=>rfl⟩⟩
   refine ⟨yrj W p o,rfl,rfl,lf,⟨ylS g.le hp hm hf h0,by rw [List.length_modify];exact g.len,fun j y e'=>?_,fun j d' e'=>?_,fun j1 j2 d1 d2 hj e1 e2=>?_⟩⟩
   .rw [em,hx] at e'
    by_cases hj:i=j
    .subst hj
     rw [getElem?_set_self hl] at e'
     cases e'
     exact ⟨_,hs,hr _ sF yG⟩
    .rw [getElem?_set_ne hj] at e'
     obtain ⟨w,a1,a2⟩:=g.val j y e'
     exact ⟨w,a1,lf.rep a2⟩
   .rw [em,hx] at e'
    by_cases hj:i=j
    .subst hj
     rw [getElem?_set_self hl] at e'
     cases e'
    .rw [getElem?_set_ne hj] at e'
     obtain ⟨q,a1,a2,a3,a4,a5⟩:=g.own j d' e'
     have hq:q≠p:=fun z=>g.ne j i d' d (fun z=>hj z.symm) e' (hv ▸ e) (by rw [a1,hs,z])
     exact ⟨q,a1,a2,a3,a4,a5.mono sF (prefix_refl _) (fun _ e=>e) fun f=>(yU hq).trans f⟩
   .rw [em,hx] at e1 e2
    have f:∀ {j:Nat}{d:Nd},(ρ.set i (.val x))[j]?=some (.own d)->ρ[j]?=some (.own d):=fun {j d} e=>by
     by_cases hj:i=j
     .subst hj;rw [getElem?_set_self hl] at e;cases e
     .rw [getElem?_set_ne hj] at e;exact e
    exact g.ne j1 j2 d1 d2 hj (f e1) (f e2)
  cases v with
  | no=>exact same rfl
  | val x=>exact same rfl
  | own d =>
   obtain ⟨p,a1,a2,a3,a4,a5⟩:=g.own i d e
   cases d with
   | lst xs =>
    obtain ⟨hf,vs,hp,r⟩:=a5
    exact go _ (.lst xs) p _ rfl rfl a1 a2 a3 hp hf fun F' s hF=>⟨p,vs,rfl,hF,RepL.mono s (prefix_refl _) _ _ r⟩
   | dct ks xs=>exact same rfl
   | fz ks xs=>exact same rfl
   | ins k ns xs =>
    obtain ⟨hf,dx,vs,hp,hl,r⟩:=a5
    exact go _ (.ins k ns xs) p _ rfl rfl a1 a2 a3 hp hf fun F' s hF=>⟨p,dx,vs,rfl,hF,hl,RepL.mono s (prefix_refl _) _ _ r⟩
   | dead=>exact same rfl
theorem yuj (i:Nat) (a:yge K t s):yge K t (yuf i s):=by
 intro W0 W ρ σ D o h' g e q
 obtain ⟨W',e1,e2,l,g'⟩:=g.frz i
 rw [<- e2]
 exact a W0 W' _ σ D o h' g' (by rw [e1];exact e) (q.from_ l)
end
end PX
namespace PX
open PySem L2
variable {K:Ck}
section
variable {ta tb:TE}{ea eb:XE}{t u:TS}{s s':XS}{tA:TT}{eA:XT}
def yok (W:Wd) (p:Addr) (o:HO):Wd:=⟨W.F,upd W.H p o,W.m,W.h⟩
theorem yuk {W:Wd}{p:Addr}{o:HO}(w:WOk K W) (hm:p∉W.m) (hf:W.F p=none):WOk K (yok W p o):=by
 refine ⟨fun b u e=>?_,w.len,w.nd,fun n d a e1 e2=>?_⟩
 .have:b≠p:=ybQ e hf
  exact (yU this).trans (w.le _ _ e)
 .have ha:a≠p:=fun z=>hm (z ▸ mem_of_getElem? e2)
  exact (w.at_ n d a e1 e2).mono (Same.refl _) (prefix_refl _) (fun u e=>(yU ha).trans e) id
theorem ygC {W W1:Wd}{p:Addr}{o:HO}(l:Le K W W1) (hm:p∉W1.m) (hf:W1.F p=none) (hn:W.H p=none):Le K W (yok W1 p o) :=
 ⟨yuk l.ok hm hf,l.fs,l.pre,fun b u e n=>(yU (ybQ e hn)).trans (l.keep b u e n),l.new,l.mn,fun n ks xs e1=>⟨(l.fz n ks xs e1).1,fun a e2=>(yU (fun (z:a=p)=>hm (z ▸ mem_of_getElem? (yeU l.pre e2)))).trans ((l.fz n ks xs e1).2 a e2)⟩⟩
theorem ype {W W1:Wd}{p:Addr}{o:HO}(l:Le K W W1) (hm:p∉W1.m):Lf K W (yok W1 p o) :=
 ⟨l.fs,l.pre,fun n ks xs e1=>⟨(l.fz n ks xs e1).1,fun a e2=>(yU (fun (z:a=p)=>hm (z ▸ mem_of_getElem? (yeU l.pre e2)))).trans ((l.fz n ks xs e1).2 a e2)⟩⟩
theorem Good.mut {W0 W:Wd}{ρ:PSt}{σ:St}(g:Good K W0 W ρ σ) {i:Nat}{d d':Nd}{p:Addr}{o:HO}(e:ρ[i]?=some (.own d)) (hs:σ[i]?=some (some (.ref p))) (hm:p∉W.m) (h0:W0.H p=none) (hf:W.F p=none) (hd:d'≠.dead)
  (at_:NdAt K W.F (upd W.H p o) W.m d' p):Good K W0 (yok W p o) (ρ.set i (.own d')) σ:=by
 have hl:i<ρ.length:=(List.getElem?_eq_some_iff.mp e).1
 refine ⟨ygC g.le hm hf h0,by rw [length_set];exact g.len,fun j y e'=>?_,fun j d1 e'=>?_,fun j1 j2 d1 d2 hj e1 e2=>?_⟩
 .by_cases hj:i=j
  .subst hj;rw [getElem?_set_self hl] at e';cases e'
  .rw [getElem?_set_ne hj] at e';exact g.val j y e'
 .by_cases hj:i=j
  .subst hj;rw [getElem?_set_self hl] at e';cases e';exact ⟨p,hs,hm,h0,hd,at_⟩
  .rw [getElem?_set_ne hj] at e'
   obtain ⟨q,a1,a2,a3,a4,a5⟩:=g.own j d1 e'
   have hq:q≠p:=fun z=>g.ne j i d1 d (fun z=>hj z.symm) e' e (by rw [a1,hs,z])
   exact ⟨q,a1,a2,a3,a4,a5.mono (Same.refl _) (prefix_refl _) (fun u e=>(yU hq).trans e) id⟩
 .have f:∀ {j:Nat}{d1:Nd},(ρ.set i (.own d'))[j]?=some (.own d1)->∃ d2,ρ[j]?=some (.own d2):=fun {j d1} e'=>by
   by_cases hj:i=j
   .subst hj;exact ⟨d,e⟩
   .rw [getElem?_set_ne hj] at e';exact ⟨_,e'⟩
  obtain ⟨_,f1⟩:=f e1
  obtain ⟨_,f2⟩:=f e2
  exact g.ne j1 j2 _ _ hj f1 f2
theorem big {n:Nat}(h:n<100000):n<sizeLine:=lt_of_lt_of_le h (by decide)
theorem yul {n:Nat}(h:n<=100000):n<=sizeLine:=Nat.le_trans h (by decide)
theorem yrs (i:Nat) (a:ycH K ta ea):yge K (yor (tBM K.K "list" yly (yny i) (yls ta ysU))) (yiZ i ea):=by
 intro W0 W ρ σ D o h' g e q
 unfold yiZ at e
 split at e
 .rename_i xs0 hx
  obtain ⟨x,h1,e1,f1⟩:=yh e
  split at f1
  .rename_i hlen
   cases f1
   obtain ⟨p,a1,a2,a3,a4,hf,vs,hp,r⟩:=g.own i _ hx
   refine ⟨.ref p,a1,.inl ⟨rfl,_,SqL.of hp⟩,?_⟩
   refine a W0 W ρ σ _ x _ g e1 fun v W1 w1 l1 r1=>⟨p,vs,v,rfl,rfl,l1.keep _ _ hp a2,by rw [r.len];exact big hlen,?_⟩
   have g1:=g.step l1
   obtain ⟨p',b1,b2,b3,b4,b5,vs',b6,b7⟩:=g1.own i _ hx
   rw [a1] at b1
   cases b1
   rw [l1.keep _ _ hp a2] at b6
   cases b6
   exact q (yok W1 p (.lst (vs++[v]))) σ w1 (ype l1 b2) (g1.mut hx a1 b2 b3 b5 (fun z=>by cases z) ⟨b5,_,yG,b7.snoc r1⟩)
  .cases f1
 .cases e
structure yyV (K:Ck) (W:Wd) (J:It) (xs:List PV):Prop where
 go:∀ (i:Nat) (W':Wd),Lf K W W'->WOk K W'->i<xs.length->J.go i W'.H
 yld:∀ (i:Nat) (W':Wd) (v:V) (H2:Hp),Lf K W W'->WOk K W'->i<xs.length->J.yld i W'.H v H2->H2=W'.H/\∃ x,xs[i]?=some x/\yda K W' x v
 stop:∀ (W':Wd),Lf K W W'->WOk K W'->J.stop xs.length W'.H
noncomputable def yrt (K:Ck) (wi:TI) (e:XA):Prop:=∀ (W0 W:Wd) (ρ:PSt) (σ:St) (R:It->Hp->Prop) (xs:List PV) (h':AH),Good K W0 W ρ σ->e ρ W.h=some (xs,h')->(∀ J W',W'.h=h'->Le K W W'->yyV K W' J xs->R J W'.H)->wi σ W.H R
def xIL (e:XE):XA:=fun ρ h=>ob (e ρ h) fun x h1=>match x with|.lst xs=>some (xs,h1)|.scr ns=>some (ns.map .int,h1)|_=>none
def sgn (c:Nat):PV:=.str ⟨#[c]⟩
def xIS (e:XE):XA:=fun ρ h=>ob (e ρ h) fun x h1=>match x with|.str z=>if z.length<=100000 then some (z.cps.toList.map sgn,h1) else none|_=>none
def yfF (lo:Int) (n:Nat):List PV:=(List.range n).map fun (k:Nat)=>.int (lo+(k:Int))
def yjb (a:XA):XA:=fun ρ h=>ob (a ρ h) fun xs h1=>match xs with|[.int j]=>if -1000000000<=j/\j<=1000000000 then some (yfF 0 j.toNat,h1) else none|_=>none
theorem yfQ {W:Wd}(w:WOk K W) {a:Addr}{vs:List V}(h:SqL K.K W.F a vs):SqL K.K W.H a vs:=Same.seq w.le h
theorem ydu {W:Wd}(w:WOk K W) {a:Addr}{vs:List V}(h:TpAt K.K W.F a vs):SqT K.K W.H a vs:=h.elim (fun h=>SqT.of (w.le _ _ h)) .inr
theorem ypf (a:ycH K ta ea):yrt K (yqL K.K ta) (xIL ea):=by
 intro W0 W ρ σ R xs h' g e q
 obtain ⟨x,h1,e1,f1⟩:=yh e
 refine a W0 W ρ σ _ x h1 g e1 fun v W1 w1 l1 r1=>?_
 have key:∀ (a:Addr) (vs:List V),v=.ref a->SqL K.K W1.F a vs->RepL K W1.F W1.m xs vs->h1=h'->∃ a,v=.ref a/\(∃ xs,SqL K.K W1.H a xs)/\R (Itl K.K a) W1.H:=fun a vs ev hs rs eh=>by
  subst eh
  refine ⟨a,ev,⟨vs,yfQ l1.ok hs⟩,q _ W1 w1 l1 ⟨fun i W' l w hi=>?_,fun i W' v' H2 l w hi hy=>?_,fun W' l w=>?_⟩⟩
  .obtain ⟨v',h1,_⟩:=rs.get (List.getElem?_eq_getElem hi)
   exact ⟨vs,v',yfQ w (Same.seq l.fs hs),h1⟩
  .obtain ⟨h1,h2⟩:=hy
   have:=h2 vs (yfQ w (Same.seq l.fs hs))
   obtain ⟨x,h3,h4⟩:=rs.get' this
   exact ⟨h1,x,h3,l.rep h4⟩
  .exact ⟨vs,yfQ w (Same.seq l.fs hs),by rw [rs.len];exact Nat.le_refl _⟩
 split at f1
 .cases f1
  obtain ⟨a,vs,ev,hs,rs⟩:=r1
  exact key a vs ev (SqL.of hs) rs rfl
 .rename_i ns
  cases f1
  obtain ⟨a,ev,hs⟩:=r1
  exact key a _ ev hs (RepL.of_ints ns) rfl
 .cases f1
theorem yru (a:ycH K ta ea):yrt K (yAE ta) (xIS ea):=by
 intro W0 W ρ σ R xs h' g e q
 obtain ⟨x,h1,e1,f1⟩:=yh e
 refine a W0 W ρ σ _ x h1 g e1 fun v W1 w1 l1 r1=>?_
 split at f1
 .rename_i z
  split at f1
  .rename_i hz
   cases f1
   have hl:z.length=z.cps.toList.length:=by simp [Str.length]
   refine ⟨z,r1,yul hz,q _ W1 w1 l1 ⟨fun i W' l w hi=>?_,fun i W' v' H2 l w hi hy=>?_,fun W' l w=>?_⟩⟩
   .show i<z.length
    rw [hl];simpa using hi
   .obtain ⟨h1,c,h2,h3⟩:=hy
    exact ⟨h1,sgn c,by rw [getElem?_map,h2];rfl,h3⟩
   .show _=z.length
    rw [hl];simp
  .cases f1
 .cases f1
theorem ywz (W:Wd) (lo:Int) (n:Nat):yyV K W (Itr lo n) (yfF lo n):=by
 refine ⟨fun i W' l w hi=>?_,fun i W' v' H2 l w hi hy=>?_,fun W' l w=>?_⟩
 .show i<n
  simpa [yfF] using hi
 .obtain ⟨h1,h2⟩:=hy
  have hi:i<n:=by simpa [yfF] using hi
  exact ⟨h1,.int (lo+(i:Int)),by simp [yfF,hi],h2⟩
 .show n<=_
  simp [yfF]
theorem ypg {t:TA}{e:XA}(a:ylm K t e):yrt K (yvZ t) (yjb e):=by
 intro W0 W ρ σ R xs h' g e q
 obtain ⟨ys,h1,e1,f1⟩:=yh e
 split at f1
 .rename_i j
  split at f1
  .rename_i hj
   cases f1
   refine a W0 W ρ σ _ _ _ g e1 fun vs W1 w1 l1 r1=>?_
   obtain ⟨v,r,rfl,rv,rr⟩:=r1
   obtain rfl:r=[]:=rr
   exact ⟨j,by rw [show v=.int j from rv],by omega,by omega,q _ W1 w1 l1 (ywz W1 0 _)⟩
  .cases f1
 .cases f1
theorem yum {wi:TI}{it:XA}{g:TG}{y:XG}(a:yrt K wi it) (b:yro K g y) (c:yge K t s):yge K (yyy wi g t) (yoj it y s):=by
 intro W0 W ρ σ D o h' gd e q
 obtain ⟨xs,h1,e1,f1⟩:=yh e
 refine a W0 W ρ σ _ xs h1 gd e1 fun J W1 w1 l1 J1=>?_
 subst w1
 have q1:=q.from_ l1.lf
 refine ⟨fun i m σ H=>m=xs.length-i/\i<=xs.length/\∃ W' ρ',W'.H=H/\Lf K W1 W'/\Good K W0 W' ρ' σ/\yid y s (xs.drop i) ρ' W'.h=some (o,h'),⟨_,rfl,zero_le _,W1,ρ,rfl,.refl,gd.step l1,by simpa using f1⟩,?_⟩
 rintro i m σ _ ⟨rfl,hi,W',ρ',rfl,l,g',f⟩
 by_cases hlt:i<xs.length
 .rw [List.drop_eq_getElem_cons hlt] at f
  obtain ⟨ρ1,k1,f⟩:=Option.bind_eq_some_iff.mp f
  obtain ⟨o1,h2,k2,f3⟩:=yh f
  refine .inr ⟨J1.go i W' l g'.ok hlt,fun σ2 H2=>i+1<=xs.length/\∃ W2 ρ2,W2.H=H2/\Lf K W1 W2/\Good K W0 W2 ρ2 σ2/\yid y s (xs.drop (i+1)) ρ2 W2.h=some (o,h'),fun σ2 H2 ⟨n1,n2⟩=>⟨xs.length-(i+1),by omega,rfl,n1,n2⟩,fun v H2 hy=>?_⟩
  obtain ⟨rfl,x,hx,rx⟩:=J1.yld i W' v H2 l g'.ok hlt hy
  rw [List.getElem?_eq_getElem hlt] at hx
  cases hx
  refine b W0 W' ρ' ρ1 σ _ v _ g' rx k1 fun σ2 g2=>?_
  refine c W0 W' ρ1 σ2 _ o1 h2 g2 k2 ?_
  cases o1 with
  | nx ρ2=>exact fun W2 σ3 w2 l2 g3=>⟨hlt,W2,ρ2,rfl,l.trans l2,g3,by rw [w2];exact f3⟩
  | ct ρ2=>exact fun W2 σ3 w2 l2 g3=>⟨hlt,W2,ρ2,rfl,l.trans l2,g3,by rw [w2];exact f3⟩
  | bk ρ2=>cases f3;exact fun W2 σ3 w2 l2 g3=>q1 W2 σ3 w2 (l.trans l2) g3
  | rt x=>cases f3;exact q1
 .have ei:i=xs.length:=by omega
  subst ei
  refine .inl ⟨J1.stop W' l g'.ok,?_⟩
  rw [List.drop_length] at f
  cases f
  exact q1 W' σ rfl l g'
theorem yph (n:Nat) (c:yjK K tA eA) (a:yge K t s):yge K (ysP tA t) (yiq n eA s):=by
 intro W0 W ρ σ D o h' gd e q
 refine ⟨fun m σ H=>∃ W' ρ',W'.H=H/\Lf K W W'/\Good K W0 W' ρ' σ/\whl eA s m ρ' W'.h=some (o,h'),⟨n,W,ρ,rfl,.refl,gd,e⟩,?_⟩
 rintro m σ _ ⟨W',ρ',rfl,l,g',f⟩
 cases m with
 | zero=>cases f
 | succ m =>
  obtain ⟨k,h1,e1,f1⟩:=yh f
  refine c W0 W' ρ' σ _ k h1 g' e1 fun W1 w1 l1=>?_
  subst w1
  cases k with
  | false =>
   rw [if_neg (by decide)] at f1 ⊢
   cases f1
   exact q W1 σ rfl (l.trans l1.lf) (g'.step l1)
  | true =>
   rw [if_pos rfl] at f1 ⊢
   obtain ⟨o1,h2,k2,f3⟩:=yh f1
   refine ⟨fun σ2 H2=>∃ W2 ρ2,W2.H=H2/\Lf K W W2/\Good K W0 W2 ρ2 σ2/\whl eA s m ρ2 W2.h=some (o,h'),fun σ2 H2 z=>⟨m,Nat.lt_succ_self _,z⟩,?_⟩
   refine a W0 W1 ρ' σ _ o1 h2 (g'.step l1) k2 ?_
   have l':=l.trans l1.lf
   cases o1 with
   | nx ρ2=>exact fun W2 σ3 w2 l2 g3=>⟨W2,ρ2,rfl,l'.trans l2,g3,by rw [w2];exact f3⟩
   | ct ρ2=>exact fun W2 σ3 w2 l2 g3=>⟨W2,ρ2,rfl,l'.trans l2,g3,by rw [w2];exact f3⟩
   | bk ρ2=>cases f3;exact fun W2 σ3 w2 l2 g3=>q W2 σ3 w2 (l'.trans l2) g3
   | rt x=>cases f3;exact q
theorem ypi {e:XE}{inn:PV->PSt}:∀ {xs:List PV}{h:AH}{ys:List PV}{h':AH},ylW e inn xs h=some (ys,h')->ys.length=xs.length
 | [],_,_,_,e=>by cases e;rfl
 | x::xs,_,_,_,e=>by
  obtain ⟨y,h1,e1,f1⟩:=yh e
  obtain ⟨ys,h2,e2,f2⟩:=yh f1
  cases f2
  rw [length_cons,length_cons,ypi e2]
theorem ygg {W0 W W':Wd}{ρ:PSt}{σ:St}(g:Good K W0 W ρ σ) (l:Le K W W') (ix:List Nat) {x:PV}{v:V}(r:yda K W' x v):Good K W' W' (yga ix ρ x) (inner ix σ v) where
 le:=.refl l.ok
 len:=by simp [yga,inner]
 val:=fun j y e=>by
  cases j with
  | zero=>simp [yga] at e;subst e;exact ⟨v,rfl,r⟩
  | succ j =>
   have e:(ix.map (yir ρ))[j]?=some (.val y):=e
   rw [getElem?_map] at e
   cases ei:ix[j]? with
   | none=>rw [ei] at e;cases e
   | some i =>
    rw [ei] at e
    have e:yir ρ i=.val y:=Option.some.inj e
    unfold yir at e
    split at e
    .rename_i z hz
     cases e
     obtain ⟨w,h1,h2⟩:=g.val i _ hz
     exact ⟨w,by show (ix.map fun i=>(σ[i]?).getD none)[j]?=_;rw [getElem?_map,ei];simp [h1],l.rep h2⟩
    .cases e
 own:=fun j d e=>by
  cases j with
  | zero=>simp [yga] at e
  | succ j =>
   have e:(ix.map (yir ρ))[j]?=some (.own d):=e
   rw [getElem?_map] at e
   cases ei:ix[j]? with
   | none=>rw [ei] at e;cases e
   | some i =>
    rw [ei] at e
    have e:yir ρ i=.own d:=Option.some.inj e
    unfold yir at e
    split at e<;>cases e
 ne:=fun j k d d' _ e _=>by
  cases j with
  | zero=>simp [yga] at e
  | succ j =>
   have e:(ix.map (yir ρ))[j]?=some (.own d):=e
   rw [getElem?_map] at e
   cases ei:ix[j]? with
   | none=>rw [ei] at e;cases e
   | some i =>
    rw [ei] at e
    have e:yir ρ i=.own d:=Option.some.inj e
    unfold yir at e
    split at e<;>cases e
theorem yjc {wi:TI}{it:XA}(ix:List Nat) (a:yrt K wi it) (b:ycH K ta ea):yln K (ynG wi ix ta) (yha it ix ea):=by
 intro W0 W ρ σ Q d h' gd e q
 obtain ⟨xs,h1,e1,f1⟩:=yh e
 split at f1
 .rename_i hlen
  obtain ⟨zs,h2,e2,f2⟩:=yh f1
  cases f2
  have hz:=ypi e2
  refine a W0 W ρ σ _ xs h1 gd e1 fun J W1 w1 l1 J1=>?_
  subst w1
  intro D hD
  have nm:=l1.ok.out hD
  have nf:=l1.ok.ff hD
  refine ⟨fun i m H=>m=xs.length-i/\i<=xs.length/\∃ W' acc done rest,W'.H=H/\Le K W1 W'/\D∉W'.m/\W'.F D=none/\H D=some (.lst acc)/\ycL K W' done acc/\done.length=i/\zs=done++rest/\ylW ea (yga ix ρ) (xs.drop i) W'.h=some (rest,h'),⟨_,rfl,zero_le _,yfs W1 D (.lst []),[],[],zs,rfl,ycp l1.ok hD,nm,nf,yG,rfl,rfl,rfl,by rw [List.drop_zero];exact e2⟩,?_⟩
  rintro i m _ ⟨rfl,hi,W',acc,done,rest,rfl,l,n1,n2,hd,rd,ld,ez,f⟩
  by_cases hlt:i<xs.length
  .rw [List.drop_eq_getElem_cons hlt] at f
   obtain ⟨y,h3,k1,f3⟩:=yh f
   obtain ⟨ys,h4,k2,f4⟩:=yh f3
   cases f4
   refine .inr ⟨J1.go i W' l.lf l.ok hlt,fun v H2 hy=>?_⟩
   obtain ⟨rfl,x,hx,rx⟩:=J1.yld i W' v H2 l.lf l.ok hlt hy
   rw [List.getElem?_eq_getElem hlt] at hx
   cases hx
   refine b W' W' _ _ _ y h3 (ygg gd (l1.trans l) ix rx) k1 fun w W2 w2 l2 r2=>?_
   obtain ⟨o2,n2'⟩:∃ o,W'.H D=some o:=⟨_,hd⟩
   have nm2:D∉W2.m:=fun z=>by rw [l2.mn D z n1] at hd;cases hd
   have nf2:W2.F D=none:=l2.new D _ hd n1 n2
   refine ⟨acc,l2.keep _ _ hd n1,?_,xs.length-(i+1),by omega,rfl,hlt,yok W2 D (.lst (acc++[w])),acc++[w],done++[y],ys,rfl,ygC (l.trans l2) nm2 nf2 hD,nm2,nf2,yG,(l2.repL rd).snoc r2,by simp [ld],by simp [ez],?_⟩
   .rw [rd.len,ld];exact big (by omega)
   .show ylW ea (yga ix ρ) (xs.drop (i+1)) W2.h=some (ys,h')
    rw [w2];exact k2
  .have ei:i=xs.length:=by omega
   subst ei
   rw [List.drop_length] at f
   cases f
   refine .inl ⟨J1.stop W' l.lf l.ok,?_⟩
   rw [append_nil] at ez
   subst ez
   exact q D W' rfl (l1.trans l) n1 (l1.fresh hD) (fun z=>by cases z) ⟨n2,acc,hd,rd⟩
 .cases f1
theorem yft {W:Wd}(w:WOk K W) {N:List Str}{xs:List PV}{vs:List V}(r:ycL K W xs vs):Good K W W (xs.map .val++replicate (N.length-xs.length) .no) (L2.start N vs) where
 le:=.refl w
 len:=by simp [L2.start,r.len]
 val:=fun j y e=>by
  by_cases hj:j<xs.length
  .rw [getElem?_append_left (by simpa using hj),getElem?_map,List.getElem?_eq_getElem hj] at e
   cases e
   obtain ⟨v,h1,h2⟩:=r.get (List.getElem?_eq_getElem hj)
   refine ⟨v,?_,h2⟩
   unfold L2.start
   rw [getElem?_append_left (by simp [r.len,hj]),getElem?_map,h1];rfl
  .rw [getElem?_append_right (by simp;omega),getElem?_replicate] at e
   split at e<;>cases e
 own:=fun j d e=>by
  by_cases hj:j<xs.length
  .rw [getElem?_append_left (by simpa using hj),getElem?_map,List.getElem?_eq_getElem hj] at e
   cases e
  .rw [getElem?_append_right (by simp;omega),getElem?_replicate] at e
   split at e<;>cases e
 ne:=fun j k d d' _ e _=>by
  by_cases hj:j<xs.length
  .rw [getElem?_append_left (by simpa using hj),getElem?_map,List.getElem?_eq_getElem hj] at e
   cases e
  .rw [getElem?_append_right (by simp;omega),getElem?_replicate] at e
   split at e<;>cases e
theorem yrv {N:List Str}{n:Nat}{vs:List V}{H:Hp}{Q:VK}{E:XK}{bk ct:St->Hp->Prop}(a:yge K t s) (h:spE K n (ycr N.length s) vs H Q E):t ⟨fun _ H'=>Q .non H',Q,bk,ct⟩ (L2.start N vs) H:=by
 obtain ⟨W,xs,x,h',rfl,w,r,_,e,q⟩:=h
 obtain ⟨o,h1,e1,f1⟩:=yh e
 refine a W W _ _ _ o h1 (yft w r) e1 ?_
 cases o with
 | rt y=>cases f1;exact fun W' v ew l rv=>q v W' ew l rv
 | nx ρ=>cases f1;exact fun W' σ' ew _ g=>q .non W' ew g.le rfl
 | bk ρ=>cases f1
 | ct ρ=>cases f1
theorem yun {n:Nat}{f:Fn}{vs:List V}{H:Hp}{Q:VK}{E:XK}(h:spE K n f vs H Q E):vs.length=n:=by
 obtain ⟨W,xs,x,h',rfl,w,r,hn,_⟩:=h
 rw [r.len,hn]
end
end PX
namespace PX
open PySem L2
variable {K:Ck}
def oI (g:Int->Int->PV):P2:=fun x y h=>match x,y with|.int i,.int j=>some (g i j,h)|_,_=>none
noncomputable def oIc (C:Int->Int->Prop) [∀ i j,Decidable (C i j)] (g:Int->Int->PV):P2:=fun x y h=>match x,y with|.int i,.int j=>if C i j then some (g i j,h) else none|_,_=>none
abbrev yfR:P2:=oI fun i j=>.int (i+j)
abbrev ywA:P2:=oI fun i j=>.int (i-j)
noncomputable def MulOk (i j:Int):Prop:=(-18446744073709551616<i/\i<18446744073709551616)\/(-18446744073709551616<j/\j<18446744073709551616)
instance (i j:Int):Decidable (MulOk i j):=by unfold MulOk;infer_instance
def ypj (i j:Int):Prop:=(0<=i/\i<18446744073709551616)/\0<=j/\j<=1000000
instance (i j:Int):Decidable (ypj i j):=by unfold ypj;infer_instance
abbrev ynO:P2:=oIc MulOk fun i j=>.int (i*j)
abbrev oDiv:P2:=oIc (fun _ j=>0<j/\j<1073741824) fun i j=>.int (i/j)
abbrev oMod:P2:=oIc (fun _ j=>0<j) fun i j=>.int (i%j)
abbrev yvx:P2:=oIc ypj fun i j=>.int (i ^ j.toNat)
abbrev oLt:P2:=oI fun i j=>.bl (decide (i<j))
abbrev oLe:P2:=oI fun i j=>.bl (decide (i<=j))
abbrev oGt:P2:=oI fun i j=>.bl (decide (j<i))
abbrev yym:PV->AH->Option (PV×AH):=fun x h=>match x with|.int i=>some (.int (-i),h)|_=>none
theorem ywB {g:Int->Int->PV}{gV:Int->Int->V}(h:∀ (W:Wd) i j,yda K W (g i j) (gV i j)):ycB K (rI0 gV) (oI g):=by
 intro W x y v u Q z h' w rx ry e q
 unfold oI at e
 split at e
 .rename_i i j
  cases e
  exact ⟨i,j,rx,ry,q _ W rfl (.refl w) (h W i j)⟩
 .cases e
theorem yrw {C:Int->Int->Prop} [∀ i j,Decidable (C i j)] {C':Int->Int->Prop}{g:Int->Int->PV}{gV:Int->Int->V}(hc:∀ i j,C i j->C' i j) (h:∀ (W:Wd) i j,yda K W (g i j) (gV i j)):ycB K (rI C' gV) (oIc C g):=by
 intro W x y v u Q z h' w rx ry e q
 unfold oIc at e
 split at e
 .rename_i i j
  split at e
  .rename_i c
   cases e
   exact ⟨i,j,rx,ry,hc i j c,q _ W rfl (.refl w) (h W i j)⟩
  .cases e
 .cases e
theorem ydv:ycB K yyG yfR:=ywB fun _ _ _=>rfl
theorem yrx:ycB K yyH ywA:=ywB fun _ _ _=>rfl
theorem ykq:ycB K yyI ynO:=yrw (fun i j h=>by unfold CMul;rw [show (2:Int) ^ 64=18446744073709551616 by decide];exact h) fun _ _ _=>rfl
theorem yfA:ycB K yyJ oDiv:=yrw (fun i j h=>h) fun _ _ _=>rfl
theorem ydo:ycB K yyK oMod:=yrw (fun i j h=>h) fun _ _ _=>rfl
theorem ypk:ycB K yyL yvx:=yrw (fun i j h=>by unfold yyC;rw [show 2 ^ 64=18446744073709551616 by decide];unfold ypj at h;omega) fun _ _ _=>rfl
theorem yuo:ycB K yAU oLt:=ywB fun _ _ _=>rfl
theorem yjd:ycB K yAV oLe:=ywB fun _ _ _=>rfl
theorem ypl:ycB K yAW oGt:=ywB fun _ _ _=>rfl
theorem ywC:ytV K yyM yym:=by
 intro W x v Q z h' w rx e q
 unfold yym at e
 split at e
 .rename_i i
  cases e
  exact ⟨i,rx,q _ W rfl (.refl w) rfl⟩
 .cases e
def sv:PV->Option V
 | .non=>some .non
 | .bl b=>some (.bl b)
 | .int i=>some (.int i)
 | .str s=>some (.str s)
 | _=>none
theorem yfG {W:Wd}{x:PV}{v u:V}(e:sv x=some u) (r:yda K W x v):v=u:=by
 cases x<;>cases e<;>exact r
def oEq:P2:=fun x y h=>match sv x,sv y with|some v,some u=>if ysS v u=true then some (.bl (decide (v=u)),h) else none|_,_=>none
def oNe:P2:=fun x y h=>match sv x,sv y with|some v,some u=>if ysS v u=true then some (.bl (!decide (v=u)),h) else none|_,_=>none
theorem ygh:ycB K rEq oEq:=by
 intro W x y v u Q z h' w rx ry e q
 unfold oEq at e
 split at e
 .rename_i v' u' e1 e2
  obtain rfl:=yfG e1 rx
  obtain rfl:=yfG e2 ry
  split at e
  .rename_i c
   cases e
   exact ⟨c,q _ W rfl (.refl w) rfl⟩
  .cases e
 .cases e
theorem yup:ycB K rNe oNe:=by
 intro W x y v u Q z h' w rx ry e q
 unfold oNe at e
 split at e
 .rename_i v' u' e1 e2
  obtain rfl:=yfG e1 rx
  obtain rfl:=yfG e2 ry
  split at e
  .rename_i c
   cases e
   exact ⟨c,q _ W rfl (.refl w) rfl⟩
  .cases e
 .cases e
def isN:PV->Bool
 | .non=>true
 | _=>false
def yqE:P2:=fun x y h=>match y with|.non=>some (.bl (isN x),h)|_=>none
def ypm:P2:=fun x y h=>match y with|.non=>some (.bl (!isN x),h)|_=>none
theorem ypn {W:Wd}{x:PV}{v:V}(r:yda K W x v):decide (v=.non)=isN x:=by
 cases x with
 | non=>rw [show v=.non from r];rfl
 | bl b=>rw [show v=.bl b from r];rfl
 | int b=>rw [show v=.int b from r];rfl
 | str b=>rw [show v=.str b from r];rfl
 | ty b=>rw [show v=.ty b from r];rfl
 | cls b=>rw [show v=.ref _ from r];rfl
 | scr b=>obtain ⟨a,e,_⟩:=r;rw [e];rfl
 | lst b=>obtain ⟨a,_,e,_⟩:=r;rw [e];rfl
 | tup b=>obtain ⟨a,_,e,_⟩:=r;rw [e];rfl
 | ins k n b=>obtain ⟨a,_,_,e,_⟩:=r;rw [e];rfl
 | loc n=>obtain ⟨a,e,_⟩:=r;rw [e];rfl
 | exc n=>obtain ⟨a,e,_⟩:=r;rw [e];rfl
 | xcl n=>rw [show v=.ref _ from r];rfl
theorem ylX:ycB K yAX yqE:=by
 intro W x y v u Q z h' w rx ry e q
 unfold yqE at e
 split at e
 .cases e
  exact ⟨ry,by rw [ypn rx];exact q _ W rfl (.refl w) rfl⟩
 .cases e
theorem ytg:ycB K yyO ypm:=by
 intro W x y v u Q z h' w rx ry e q
 unfold ypm at e
 split at e
 .cases e
  exact ⟨ry,by rw [ypn rx];exact q _ W rfl (.refl w) rfl⟩
 .cases e
noncomputable def yie:P2:=fun x y h=>match x,y with|.str i,.str j=>if i.length+j.length<=100000 then some (.str (i++j),h) else none|_,_=>none
theorem yhy:ycB K yyN yie:=by
 intro W x y v u Q z h' w rx ry e q
 unfold yie at e
 split at e
 .rename_i i j
  split at e
  .rename_i c
   cases e
   exact ⟨i,j,rx,ry,yul c,q _ W rfl (.refl w) rfl⟩
  .cases e
 .cases e
noncomputable def ywD:P2:=fun x y h=>match x,y with|.str s,.str j=>(match s.cps.toList with|[c]=>some (.bl (decide (c∈j.cps.toList)),h)|_=>none)|_,_=>none
theorem one_sign {s:Str}{c:Nat}(h:s.cps.toList=[c]):s=⟨#[c]⟩:=by
 obtain ⟨⟨l⟩⟩:=s
 have:l=[c]:=h
 rw [this]
theorem ywE:ycB K yAB ywD:=by
 intro W x y v u Q z h' w rx ry e q
 unfold ywD at e
 split at e
 .rename_i s j
  split at e
  .rename_i c hc
   cases e
   exact ⟨c,j,by rw [<- one_sign hc];exact rx,ry,q _ W rfl (.refl w) rfl⟩
  .cases e
 .cases e
def ydw:P2:=fun x y h=>match y with
 | .int i=>(match x with
  | .lst xs=>(match atI xs i with|some v=>some (v,h)|none=>none)
  | .scr ns=>(match atI ns i with|some v=>some (.int v,h)|none=>none)
  | .loc n=>(match h[n]? with|some (.lst xs)=>(match atI xs i with|some v=>some (v,h)|none=>none)|_=>none)
  | _=>none)
 | _=>none
def yth:P2:=fun x y h=>match x,y with|.tup xs,.int i=>(match atI xs i with|some v=>some (v,h)|none=>none)|_,_=>none
def ywF:P2:=fun x y h=>match x,y with|.str s,.int i=>(match atI s.cps.toList i with|some c=>if s.length<=100000 then some (sgn c,h) else none|none=>none)|_,_=>none
theorem RepL.at {F:Hp}{m:List Addr}{xs:List PV}{vs:List V}(r:RepL K F m xs vs) {i:Int}{x:PV}(e:atI xs i=some x):∃ v,atI vs i=some v/\Rep K F m x v:=by
 unfold atI at e ⊢
 rw [r.len]
 obtain ⟨j,e1,e2⟩:=Option.bind_eq_some_iff.mp e
 rw [e1]
 exact r.get e2
theorem WOk.loc {W:Wd}(w:WOk K W) {n:Nat}{d:Nd}{v:V}(e:W.h[n]?=Option.some d) (r:yda K W (.loc n) v):∃ a,v=.ref a/\W.m[n]?=Option.some a/\NdAt K W.F W.H W.m d a:=by
 obtain ⟨a,ea,h⟩:=r
 exact ⟨a,ea,h,w.at_ n d a e h⟩
theorem ydx:ycB K (yAv K.K) ydw:=by
 intro W x y v u Q z h' w rx ry e q
 unfold ydw at e
 split at e
 .rename_i i
  split at e
  .rename_i xs
   split at e
   .rename_i y hy
    cases e
    obtain ⟨a,vs,ev,hs,rs⟩:=rx
    obtain ⟨v',h1,h2⟩:=rs.at hy
    exact ⟨a,vs,i,v',ev,ry,SqL.of (w.le _ _ hs),h1,q _ W rfl (.refl w) h2⟩
   .cases e
  .rename_i ns
   split at e
   .rename_i y hy
    cases e
    obtain ⟨a,ev,hs⟩:=rx
    refine ⟨a,_,i,.int y,ev,ry,yfQ w hs,?_,q _ W rfl (.refl w) rfl⟩
    unfold atI at hy ⊢
    rw [length_map]
    obtain ⟨j,e1,e2⟩:=Option.bind_eq_some_iff.mp hy
    rw [e1]
    show (ns.map V.int)[j]?=_
    rw [getElem?_map,e2];rfl
   .cases e
  .rename_i n
   split at e
   .rename_i xs hn
    split at e
    .rename_i y hy
     cases e
     obtain ⟨a,ev,hm,hf,vs,hp,rs⟩:=w.loc hn rx
     obtain ⟨v',h1,h2⟩:=rs.at hy
     exact ⟨a,vs,i,v',ev,ry,SqL.of hp,h1,q _ W rfl (.refl w) h2⟩
    .cases e
   .cases e
  .cases e
 .cases e
theorem ynP:ycB K (yAw K.K) yth:=by
 intro W x y v u Q z h' w rx ry e q
 unfold yth at e
 split at e
 .rename_i xs i
  split at e
  .rename_i y hy
   cases e
   obtain ⟨a,vs,ev,hs,rs⟩:=rx
   obtain ⟨v',h1,h2⟩:=rs.at hy
   exact ⟨a,vs,i,v',ev,ry,ydu w hs,h1,q _ W rfl (.refl w) h2⟩
  .cases e
 .cases e
theorem yyW:ycB K yAx ywF:=by
 intro W x y v u Q z h' w rx ry e q
 unfold ywF at e
 split at e
 .rename_i s i
  split at e
  .rename_i c hc
   split at e
   .rename_i hl
    cases e
    exact ⟨s,i,c,rx,ry,yul hl,hc,q _ W rfl (.refl w) rfl⟩
   .cases e
  .cases e
 .cases e
noncomputable def yBa {α:Type}(xs:List α) (lo hi:Option Int):List α:=(xs.drop (HT.sIx xs.length 0 lo)).take (HT.sIx xs.length xs.length hi-HT.sIx xs.length 0 lo)
noncomputable def listOf (x:PV) (h:AH):Option (List PV):=match x with|.lst xs=>some xs|.scr ns=>some (ns.map .int)|.loc n=>(match h[n]? with|some (.lst xs)=>some xs|_=>none)|_=>none
theorem yis {W:Wd}(w:WOk K W) {x:PV}{v:V}{xs:List PV}(e:listOf x W.h=some xs) (r:yda K W x v):∃ a vs,v=.ref a/\SqL K.K W.H a vs/\ycL K W xs vs:=by
 unfold listOf at e
 split at e
 .cases e
  obtain ⟨a,vs,ev,hs,rs⟩:=r
  exact ⟨a,vs,ev,SqL.of (w.le _ _ hs),rs⟩
 .rename_i ns
  cases e
  obtain ⟨a,ev,hs⟩:=r
  exact ⟨a,_,ev,yfQ w hs,RepL.of_ints ns⟩
 .rename_i n
  split at e
  .rename_i ys hn
   cases e
   obtain ⟨a,ev,hm,hf,vs,hp,rs⟩:=w.loc hn r
   exact ⟨a,vs,ev,SqL.of hp,rs⟩
  .cases e
 .cases e
noncomputable def ycd (x:PV) (h:AH):Option (List PV):=match x with|.lst xs=>some xs|.loc n=>(match h[n]? with|some (.lst xs)=>some xs|_=>none)|_=>none
theorem ybj {W:Wd}(w:WOk K W) {x:PV}{v:V}{xs:List PV}(e:ycd x W.h=some xs) (r:yda K W x v):∃ a vs,v=.ref a/\W.H a=some (.lst vs)/\ycL K W xs vs:=by
 unfold ycd at e
 split at e
 .cases e
  obtain ⟨a,vs,ev,hs,rs⟩:=r
  exact ⟨a,vs,ev,w.le _ _ hs,rs⟩
 .rename_i n
  split at e
  .rename_i ys hn
   cases e
   obtain ⟨a,ev,hm,hf,vs,hp,rs⟩:=w.loc hn r
   exact ⟨a,vs,ev,hp,rs⟩
  .cases e
 .cases e
theorem yyn {W:Wd}(w:WOk K W) {p:Addr}(hp:W.H p=none) {xs:List PV}{vs:List V}(r:ycL K W xs vs) {Q:VK}(q:yoW K W (.lst xs) W.h Q):Q (.ref p) (upd W.H p (.lst vs)) :=
 q p (yfs W p (.lst vs)) rfl (ycp w hp) (w.out hp) hp (fun z=>by cases z) ⟨w.ff hp,vs,yG,r⟩
def yBM:PV->Option Int->Option Int->AH->Option (Nd×AH):=fun x lo hi h=>match listOf x h with|some xs=>some (.lst (yBa xs lo hi),h)|none=>none
def yol:P2O:=fun x y h=>match ycd x h,ycd y h with|some xs,some ys=>if xs.length+ys.length<=100000 then some (.lst (xs++ys),h) else none|_,_=>none
theorem yje:ymP K yAz yol:=by
 intro W x y v u Q d h' w rx ry e q
 unfold yol at e
 split at e
 .rename_i xs ys hx hy
  split at e
  .rename_i hl
   cases e
   obtain ⟨a,vs,ev,hs,rs⟩:=ybj w hx rx
   obtain ⟨b,us,eu,ht,ru⟩:=ybj w hy ry
   refine ⟨a,b,vs,us,ev,eu,hs,ht,by rw [rs.len,ru.len];exact yul hl,fun p hp=>yyn w hp (rs.app ru) q⟩
  .cases e
 .cases e
def repL {α:Type}(k:Nat) (xs:List α):List α:=(replicate k xs).flatten
theorem RepL.rep {F:Hp}{m:List Addr}{xs:List PV}{vs:List V}(r:RepL K F m xs vs):∀ k:Nat,RepL K F m (repL k xs) (repL k vs)
 | 0=>rfl
 | k+1=>by
  show RepL K F m ((replicate (k+1) xs).flatten) ((replicate (k+1) vs).flatten)
  rw [List.replicate_succ,List.replicate_succ,List.flatten_cons,List.flatten_cons]
  exact r.app (RepL.rep r k)
def yry:P2O:=fun x y h=>match ycd x h,y with|some xs,.int k=>if -1000000<=k/\k<=100000/\xs.length*k.toNat<=100000 then some (.lst (repL k.toNat xs),h) else none|_,_=>none
theorem ypo:ymP K yAA yry:=by
 intro W x y v u Q d h' w rx ry e q
 unfold yry at e
 split at e
 .rename_i xs k hx
  split at e
  .rename_i hl
   cases e
   obtain ⟨a,vs,ev,hs,rs⟩:=ybj w hx rx
   refine ⟨a,k,vs,ev,ry,hs,by omega,by omega,by rw [rs.len];exact yul hl.2.2,fun p hp=>yyn w hp (rs.rep _) q⟩
  .cases e
 .cases e
noncomputable def ymR (x:PV) (h:AH):Option Nat:=match x with|.tup xs=>some xs.length|.lst xs=>some xs.length|.scr ns=>some ns.length|.loc n=>(match h[n]? with|some (.lst xs)=>some xs.length|_=>none)|_=>none
def ybD:List PV->AH->Option (PV×AH):=fun xs h=>match xs with|[x]=>(match ymR x h with|some n=>some (.int n,h)|none=>none)|_=>none
noncomputable def ylY:List PV->AH->Option (PV×AH):=fun xs h=>match xs with|[.str z]=>if z.length<=100000 then some (.int z.length,h) else none|_=>none
theorem ypp {W:Wd}{x:PV}{vs:List V}(r:ycL K W [x] vs):∃ v,vs=[v]/\yda K W x v:=by
 obtain ⟨v,r',e,h,l⟩:=r
 exact ⟨v,by rw [e,show r'=[] from l],h⟩
theorem yAF {W:Wd}{x y:PV}{vs:List V}(r:ycL K W [x,y] vs):∃ v u,vs=[v,u]/\yda K W x v/\yda K W y u:=by
 obtain ⟨v,r',e,h,l⟩:=r
 obtain ⟨u,e2,h2⟩:=ypp l
 exact ⟨v,u,by rw [e,e2],h,h2⟩
theorem ybS:yhx K (ywh K.K) ybD:=by
 intro W xs vs Q z h' w r e q
 unfold ybD at e
 split at e
 .rename_i x
  split at e
  .rename_i n hn
   cases e
   obtain ⟨v,rfl,rx⟩:=ypp r
   have fin:∀ (ys:List V),ys.length=n->Q (.int ys.length) W.H:=fun ys hl=>by rw [hl];exact q _ W rfl (.refl w) rfl
   unfold ymR at hn
   split at hn
   .cases hn
    obtain ⟨a,us,rfl,hs,rs⟩:=rx
    exact ⟨a,us,rfl,.inr (ydu w hs),fin _ rs.len⟩
   .rename_i ys
    cases hn
    obtain ⟨a,us,rfl,hs,rs⟩:=rx
    exact ⟨a,us,rfl,.inl (SqL.of (w.le _ _ hs)),fin _ rs.len⟩
   .rename_i ns
    cases hn
    obtain ⟨a,rfl,hs⟩:=rx
    exact ⟨a,_,rfl,.inl (yfQ w hs),fin _ (by simp)⟩
   .split at hn
    .rename_i ys hy
     cases hn
     obtain ⟨a,rfl,hm,hf,us,hp,rs⟩:=w.loc hy rx
     exact ⟨a,us,rfl,.inl (SqL.of hp),fin _ rs.len⟩
    .cases hn
   .cases hn
  .cases e
 .cases e
theorem ymS:yhx K yyP ylY:=by
 intro W xs vs Q z h' w r e q
 unfold ylY at e
 split at e
 .rename_i s
  split at e
  .rename_i hl
   cases e
   obtain ⟨v,rfl,rx⟩:=ypp r
   exact ⟨s,by rw [show v=_ from rx],yul hl,q _ W rfl (.refl w) rfl⟩
  .cases e
 .cases e
noncomputable def ypq:List PV->AH->Option (PV×AH):=fun xs h=>match xs with|[.str z]=>if z.cps.toList≠[]/\(∀ c∈z.cps.toList,48<=c/\c<=57)/\z.length<=640 then some (.int (ysZ z.cps.toList),h) else none|_=>none
theorem ywG:yhx K ywi ypq:=by
 intro W xs vs Q z h' w r e q
 unfold ypq at e
 split at e
 .rename_i i
  split at e
  .rename_i hl
   cases e
   obtain ⟨v,rfl,rx⟩:=ypp r
   exact ⟨i,by rw [show v=_ from rx],hl.1,hl.2.1,hl.2.2,q _ W rfl (.refl w) rfl⟩
  .cases e
 .cases e
def ybo:List PV->AH->Option (Nd×AH):=fun xs h=>match xs with|[.tup ys]=>some (.lst ys,h)|[x]=>(match listOf x h with|some ys=>some (.lst ys,h)|none=>none)|_=>none
theorem ybE:yoX K (ytN K.K) ybo:=by
 intro W xs vs Q d h' w r e q
 unfold ybo at e
 split at e
 .rename_i ys
  cases e
  obtain ⟨v,rfl,a,us,rfl,hs,rs⟩:=ypp r
  exact ⟨a,us,rfl,.inr (ydu w hs),fun p hp=>yyn w hp rs q⟩
 .rename_i x _
  split at e
  .rename_i ys hy
   cases e
   obtain ⟨v,rfl,rx⟩:=ypp r
   obtain ⟨a,us,rfl,hs,rs⟩:=yis w hy rx
   exact ⟨a,us,rfl,.inl hs,fun p hp=>yyn w hp rs q⟩
  .cases e
 .cases e
def intsOf:List PV->Option (List Int)
 | []=>some []
 | .int s::r=>(intsOf r).map (s::·)
 | _=>none
def yjf:List PV->Option (List Bool)
 | []=>some []
 | .bl s::r=>(yjf r).map (s::·)
 | _=>none
theorem ykr:∀ ss:List Bool,yjf (ss.map .bl)=some ss
 | []=>rfl
 | s::ss=>by show (yjf (ss.map .bl)).map _=_;rw [ykr ss];rfl
theorem yit {F:Hp}{m:List Addr}:∀ {xs:List PV}{ss:List Int}{vs:List V},intsOf xs=some ss->RepL K F m xs vs->vs=ss.map V.int
 | [],_,_,e,r=>by cases e;exact r
 | x::xs,ss,_,e,⟨v,r',ev,h,l⟩=>by
  cases x<;>try cases e
  rename_i s
  obtain ⟨ts,e1,e2⟩:=Option.map_eq_some_iff.mp e
  subst e2
  rw [ev,show v=_ from h,yit e1 l];rfl
theorem yhz {F:Hp}{m:List Addr}:∀ {xs:List PV}{ss:List Bool}{vs:List V},yjf xs=some ss->RepL K F m xs vs->vs=ss.map V.bl
 | [],_,_,e,r=>by cases e;exact r
 | x::xs,ss,_,e,⟨v,r',ev,h,l⟩=>by
  cases x<;>try cases e
  rename_i s
  obtain ⟨ts,e1,e2⟩:=Option.map_eq_some_iff.mp e
  subst e2
  rw [ev,show v=_ from h,yhz e1 l];rfl
def yyX:List PV->AH->Option (PV×AH):=fun xs h=>match xs with|[x]=>(match ycd x h with|some ys=>(match intsOf ys with|some ns=>some (.int ns.sum,h)|none=>none)|none=>none)|_=>none
theorem yyY:yhx K yAD yyX:=by
 intro W xs vs Q z h' w r e q
 unfold yyX at e
 split at e
 .split at e
  .rename_i ys hy
   split at e
   .rename_i ns hn
    cases e
    obtain ⟨v,rfl,rx⟩:=ypp r
    obtain ⟨a,us,rfl,hs,rs⟩:=ybj w hy rx
    have:=yit hn rs
    subst this
    exact ⟨a,ns,rfl,hs,q _ W rfl (.refl w) rfl⟩
   .cases e
  .cases e
 .cases e
def yqF:List PV->AH->Option (PV×AH):=fun xs h=>match xs with|[x]=>(match ycd x h with|some ys=>(match yjf ys with|some ns=>some (.bl (ns.all id),h)|none=>none)|none=>none)|_=>none
theorem yrz:yhx K yAC yqF:=by
 intro W xs vs Q z h' w r e q
 unfold yqF at e
 split at e
 .split at e
  .rename_i ys hy
   split at e
   .rename_i ns hn
    cases e
    obtain ⟨v,rfl,rx⟩:=ypp r
    obtain ⟨a,us,rfl,hs,rs⟩:=ybj w hy rx
    have:=yhz hn rs
    subst this
    exact ⟨a,ns,rfl,hs,q _ W rfl (.refl w) rfl⟩
   .cases e
  .cases e
 .cases e
def isStr:PV->AH->Bool:=fun x _=>match x with|.str _=>true|_=>false
end PX
namespace PX
open PySem L2
variable {K:Ck}
noncomputable def putN (f:Str) (x:PV) (ns:List Str) (xs:List PV):List Str×List PV:=if f∈ns then (ns,xs.set (ns.idxOf f) x) else (ns++[f],xs++[x])
theorem ymT (f:Str) (y:V):∀ (ns:List Str) (vs:List V),vs.length=ns.length->yil f y (ns.zip vs)=if f∈ns then ns.zip (vs.set (ns.idxOf f) y) else (ns++[f]).zip (vs++[y])
 | [],[],_=>by simp [yil]
 | n::ns,v::vs,hl=>by
  have ih:=ymT f y ns vs (by simpa using hl)
  show (if n=f then (n,y)::ns.zip vs else (n,v)::yil f y (ns.zip vs))=_
  by_cases h:n=f
  .subst h
   simp [List.idxOf_cons_self]
  .have h':¬ f=n:=fun z=>h z.symm
   have hb:(n == f)=false:=by simpa using h
   rw [if_neg h,ih]
   by_cases hm:f∈ns
   .simp [hm,h',List.idxOf_cons,hb]
   .simp [hm,h']
theorem yiu {f:Str}:∀ {ns:List Str}{vs:List V},vs.length=ns.length->f∈ns->(ns.zip vs).lookup f=vs[ns.idxOf f]?
 | [],_,_,h=>by simp at h
 | n::ns,v::vs,hl,h=>by
  show List.lookup f ((n,v)::ns.zip vs)=_
  by_cases hn:f=n
  .subst hn
   rw [yyS,List.idxOf_cons_self];rfl
  .rw [ywj hn,yiu (by simpa using hl) (by simpa [hn] using h)]
   have hb:(n == f)=false:=by simpa using fun z:n=f=>hn z.symm
   simp [List.idxOf_cons,hb]
theorem ycv {f:Str}:∀ {ns:List Str}{vs:List V},f∉ns->(ns.zip vs).lookup f=none
 | [],_,_=>by simp
 | n::ns,[],_=>by simp
 | n::ns,v::vs,h=>by
  show List.lookup f ((n,v)::ns.zip vs)=_
  rw [ywj (fun z:f=n=>h (by rw [z];exact mem_cons_self)),ycv fun z=>h (mem_cons_of_mem _ z)]
noncomputable def ygD (x:PV) (h:AH):Option (Nat×List Str×List PV):=match x with|.ins k ns xs=>some (k,ns,xs)|.loc n=>(match h[n]? with|some (.ins k ns xs)=>some (k,ns,xs)|_=>none)|_=>none
theorem yem {W:Wd}(w:WOk K W) {x:PV}{v:V}{k:Nat}{ns:List Str}{xs:List PV}(e:ygD x W.h=some (k,ns,xs)) (r:yda K W x v):∃ a dx vs,v=.ref a/\W.H a=some (.ins (K.A k) dx (ns.zip vs))/\vs.length=ns.length/\ycL K W xs vs:=by
 unfold ygD at e
 split at e
 .cases e
  obtain ⟨a,dx,vs,ev,hs,hl,rs⟩:=r
  exact ⟨a,dx,vs,ev,w.le _ _ hs,hl,rs⟩
 .rename_i n
  split at e
  .rename_i hn
   cases e
   obtain ⟨a,ev,hm,hf,dx,vs,hp,hl,rs⟩:=w.loc hn r
   exact ⟨a,dx,vs,ev,hp,hl,rs⟩
  .cases e
 .cases e
def ydp (cs:List Nat) (f:Str) (e:XE):XE:=fun ρ h=>ob (e ρ h) fun x h1=>match ygD x h1 with|some (k,ns,xs)=>if k∈cs/\f∈ns then (match xs[ns.idxOf f]? with|some y=>some (y,h1)|none=>none) else none|none=>none
theorem yuq {cs:List Nat}{f:Str}{ta:TE}{ea:XE}(hc:∀ k∈cs,Cls K.K (K.A k)/\NoAttr K.K (K.A k) f) (a:ycH K ta ea):ycH K (yAs K.K ta f) (ydp cs f ea):=by
 intro W0 W ρ σ Q z h' g e q
 obtain ⟨x,h1,e1,f1⟩:=yh e
 refine a W0 W ρ σ _ x h1 g e1 fun v W1 w1 l1 r1=>?_
 subst w1
 split at f1
 .rename_i k ns xs hi
  split at f1
  .rename_i c
   split at f1
   .rename_i y hy
    cases f1
    obtain ⟨a,dx,vs,ev,hp,hl,rs⟩:=yem l1.ok hi r1
    obtain ⟨u,h2,h3⟩:=rs.get hy
    exact ⟨a,_,dx,_,u,ev,hp,(hc k c.1).1,(hc k c.1).2,by rw [yiu hl c.2];exact h2,q _ W1 rfl l1 h3⟩
   .cases f1
  .cases f1
 .cases f1
def ycC (cs:List Nat) (i:Nat) (f:Str) (e:XE):XS:=fun ρ h=>ob (e ρ h) fun x h1=>match ρ[i]? with
 | some (.own (.ins k ns xs))=>if k∈cs/\ns.length<1000 then some (.nx (ρ.set i (.own (.ins k (putN f x ns xs).1 (putN f x ns xs).2))),h1) else none
 | _=>none
theorem RepL.putN {F:Hp}{m:List Addr}{f:Str}{x:PV}{v:V}{ns:List Str}{xs:List PV}{vs:List V}(r:RepL K F m xs vs) (hl:vs.length=ns.length) (rx:Rep K F m x v) :
  ∃ us,yil f v (ns.zip vs)=(PX.putN f x ns xs).1.zip us/\us.length=(PX.putN f x ns xs).1.length/\RepL K F m (PX.putN f x ns xs).2 us:=by
 rw [ymT f v ns vs hl]
 unfold PX.putN
 by_cases h:f∈ns
 .rw [if_pos h,if_pos h]
  exact ⟨_,rfl,by rw [length_set];exact hl,r.set _ rx⟩
 .rw [if_neg h,if_neg h]
  exact ⟨_,rfl,by rw [length_append,length_append,hl];rfl,r.snoc rx⟩
noncomputable def yqG (K:Ck) (t:TS) (s:XS):Prop:=∀ (W0 W:Wd) (ρ ρ':PSt) (σ:St) (D:Ends) (h':AH),Good K W0 W ρ σ->s ρ W.h=some (.nx ρ',h')->(∀ W',W'.h=h'->Lf K W W'->Good K W0 W' ρ' σ->D.nx σ W'.H)->t D σ W.H
theorem yrA {cs:List Nat}{i:Nat}{f:Str}{ta:TE}{ea:XE}(hc:∀ k∈cs,Cls K.K (K.A k)/\NoAttr K.K (K.A k) f) (a:ycH K ta ea):yqG K (yyD K.K (yny i) ta f) (ycC cs i f ea):=by
 intro W0 W ρ ρ' σ D h' g e q
 obtain ⟨x,h1,e1,f1⟩:=yh e
 split at f1
 .rename_i k ns xs hi
  split at f1
  .rename_i c
   cases f1
   refine a W0 W ρ σ _ x _ g e1 fun v W1 w1 l1 r1=>?_
   have g1:=g.step l1
   obtain ⟨p,b1,b2,b3,b4,b5,dx,vs,b6,b7,b8⟩:=g1.own i _ hi
   obtain ⟨us,p1,p2,p3⟩:=b8.putN (f:=f) b7 r1
   refine ⟨_,b1,p,_,dx,_,rfl,b6,(hc k c.1).1,(hc k c.1).2,by rw [length_zip,b7];simpa using c.2,?_⟩
   rw [p1]
   exact q (yok W1 p _) w1 (ype l1 b2) (g1.mut hi b1 b2 b3 b5 (fun z=>by cases z) ⟨b5,dx,us,yG,p2,p3⟩)
  .cases f1
 .cases f1
theorem yrB {t u:TS}{s s':XS}(a:yqG K t s) (b:yqG K u s'):yqG K (yyw t u) (yv s s'):=by
 intro W0 W ρ ρ' σ D h' g e q
 obtain ⟨o1,h1,e1,f1⟩:=yh e
 cases o1 with
 | nx ρ1=>exact a W0 W ρ ρ1 σ _ h1 g e1 fun W1 w1 l1 g1=>b W0 W1 ρ1 ρ' σ D h' g1 (by rw [w1];exact f1) fun W2 w2 l2 g2=>q W2 w2 (l1.trans l2) g2
 | rt y=>cases f1
 | bk y=>cases f1
 | ct y=>cases f1
def ylo (N:Nat) (k:Nat) (s:XS):List PV->AH->Option (Nd×AH):=fun xs h=>ob (s (.own (.ins k [] [])::(xs.map .val++replicate (N-(xs.length+1)) .no)) h) fun o h1=>match o with|.nx ρ=>(match ρ[0]? with|some (PVar.own d)=>some (d,h1)|_=>none)|_=>none
def spI (K:Ck) (n k:Nat) (f:List PV->AH->Option (Nd×AH)):Sp:=fun vs H Q _=>∃ (W:Wd) (x dx:Addr) (args:List V) (xs:List PV) (d:Nd) (h':AH),vs=.ref x::args/\W.H x=none/\W.H dx=none/\dx≠x/\H=upd (upd W.H dx (.own x)) x (.ins (K.A k) dx []) /\
 WOk K W/\ycL K W xs args/\xs.length=n/\f xs W.h=some (d,h')/\∀ W',W'.h=h'->Le K W W'->x∉W'.m->d≠.dead->NdAt K W'.F W'.H W'.m d x->Q .non W'.H
theorem yur {n k:Nat}{f} {vs:List V}{H:Hp}{Q:VK}{E:XK}(h:spI K n k f vs H Q E):vs.length=n+1:=by
 obtain ⟨W,x,dx,args,xs,d,h',rfl,_,_,_,_,w,r,hn,_⟩:=h
 rw [length_cons,r.len,hn]
theorem yrC {N:List Str}{n k:Nat}{t:TS}{s:XS}{vs:List V}{H:Hp}{Q:VK}{E:XK}{bk ct:St->Hp->Prop}(hN:n+1<=N.length) (a:yqG K t s) (h:spI K n k (ylo N.length k s) vs H Q E):t ⟨fun _ H'=>Q .non H',Q,bk,ct⟩ (L2.start N vs) H:=by
 obtain ⟨W,x,dx,args,xs,d,h',rfl,hx,hd,hne,rfl,w,r,hn,e,q⟩:=h
 obtain ⟨o,h1,e1,f1⟩:=yh e
 have l1:Le K W (yfs W dx (.own x)):=ycp w hd
 have hx1:(yfs W dx (.own x)).H x=none:=(yU hne.symm).trans hx
 have l2:Le K (yfs W dx (.own x)) (yfs (yfs W dx (.own x)) x (.ins (K.A k) dx [])):=ycp l1.ok hx1
 have l:=l1.trans l2
 have gs:=yft (K:=K) (N:=N.drop 1) w r
 have g:Good K W (yfs (yfs W dx (.own x)) x (.ins (K.A k) dx [])) (.own (.ins k [] [])::(xs.map .val++replicate (N.length-(xs.length+1)) .no)) (L2.start N (.ref x::args)):=by
  have es:L2.start N (.ref x::args)=some (.ref x)::L2.start (N.drop 1) args:=by
   have e3:N.length-(args.length+1)=(N.drop 1).length-args.length:=by rw [length_drop];omega
   unfold L2.start
   rw [map_cons,List.cons_append,length_cons,e3]
  have eN:N.length-(xs.length+1)=(N.drop 1).length-xs.length:=by rw [length_drop];omega
  rw [es,eN]
  have gs':=gs.step l
  have noown:∀ (j:Nat) (d:Nd),(xs.map PVar.val++replicate ((N.drop 1).length-xs.length) .no)[j]?≠some (.own d):=fun j d z=>by
   by_cases hj:j<xs.length
   .rw [getElem?_append_left (by simpa using hj),getElem?_map,List.getElem?_eq_getElem hj] at z
    cases z
   .rw [getElem?_append_right (by simp;omega),getElem?_replicate] at z
    split at z<;>cases z
  refine ⟨l,by rw [length_cons,length_cons,gs.len],fun j y z=>?_,fun j d z=>?_,fun i j d d' hij z z'=>?_⟩
  .cases j with
   | zero=>cases z
   | succ j=>exact gs'.val j y z
  .cases j with
   | zero=>cases z;exact ⟨x,rfl,w.out hx,hx,(fun z=>by cases z),w.ff hx,dx,[],yG,rfl,rfl⟩
   | succ j=>exact absurd z (noown j d)
  .cases i with
   | zero =>
    cases j with
    | zero=>exact absurd rfl hij
    | succ j=>exact absurd z' (noown j d')
   | succ i=>exact absurd z (noown i d)
 cases o with
 | rt y=>cases f1
 | bk ρ=>cases f1
 | ct ρ=>cases f1
 | nx ρ =>
  refine a W _ _ ρ _ _ h1 g e1 fun W' ew lf g'=>?_
  dsimp only at f1
  split at f1
  .rename_i d' hd'
   cases f1
   obtain ⟨p,b1,b2,b3,b4,b5⟩:=g'.own 0 _ hd'
   have b1:some (some (V.ref x))=some (some (V.ref p)):=b1
   cases b1
   exact q W' ew g'.le b2 b4 b5
  .cases f1
def yfB (f:List PV->AH->Option (Nd×AH)) (a:XA):XO:=fun ρ h=>ob (a ρ h) f
theorem ymU {n k:Nat}{f} {ex:XK}{t:TA}{e:XA}(a:ylm K t e) (hn:∀ ρ h xs h',e ρ h=some (xs,h')->xs.length=n):yln K (yqR (K.A k) (spI K n k f) [] ex t) (yfB f e):=by
 intro W0 W ρ σ Q d h' g e' q
 obtain ⟨xs,h1,e1,e2⟩:=yh e'
 refine a W0 W ρ σ _ xs h1 g e1 fun vs W1 w1 l1 r1=>?_
 subst w1
 intro x dx hx hd hne
 rw [append_nil]
 exact ⟨W1,x,dx,vs,xs,d,h',rfl,hx,hd,hne,rfl,l1.ok,r1,hn _ _ _ _ e1,e2,fun W2 w2 l2 hm hdd at_=>⟨rfl,q x W2 w2 (l1.trans l2) hm (l1.fresh hx) hdd at_⟩⟩
def ymV (k:Nat):XO:=fun _ h=>some (.ins k [] [],h)
theorem ypr {k:Nat}:yln K (yta (K.A k)) (ymV k):=by
 intro W0 W ρ σ Q d h' g e q
 cases e
 intro x dx hx hd hne
 have w:=g.ok
 have l1:Le K W (yfs W dx (.own x)):=ycp w hd
 have hx1:(yfs W dx (.own x)).H x=none:=(yU hne.symm).trans hx
 have l2:Le K (yfs W dx (.own x)) (yfs (yfs W dx (.own x)) x (.ins (K.A k) dx [])):=ycp l1.ok hx1
 exact q x (yfs (yfs W dx (.own x)) x (.ins (K.A k) dx [])) rfl (l1.trans l2) (w.out hx) hx (fun z=>by cases z) ⟨w.ff hx,dx,[],yG,rfl,rfl⟩
def yrD (m:Str) (f:Nat->Fn) (e:XE):XE:=fun ρ h=>ob (e ρ h) fun x h1=>match ygD x h1 with|some (k,ns,_)=>if m∈ns then none else f k [x] h1|none=>none
theorem yrE {m:Str}{f:Nat->Fn}{ta:TE}{ea:XE}(a:ycH K ta ea):ycH K (ytb K.A m (fun k=>spE K 1 (f k)) ta) (yrD m f ea):=by
 intro W0 W ρ σ Q z h' g e q
 obtain ⟨x,h1,e1,f1⟩:=yh e
 refine a W0 W ρ σ _ x h1 g e1 fun v W1 w1 l1 r1=>?_
 subst w1
 split at f1
 .rename_i k ns xs hi
  split at f1
  .cases f1
  .rename_i hm
   obtain ⟨b,dx,vs,ev,hp,hl,rs⟩:=yem l1.ok hi r1
   exact ⟨b,k,dx,_,ev,hp,ycv hm,W1,[x],z,h',rfl,l1.ok,⟨v,[],rfl,r1,rfl⟩,rfl,f1,fun u W2 w2 l2 r2=>q u W2 w2 (l1.trans l2) r2⟩
 .cases f1
def ywH (tb:List (Nat×Nat×Bool)) (x c:PV) (h:AH):Option Bool:=match c with
 | .ty n=>(match x with
  | .int _=>if n = "int" then some true else if n = "bool"\/n = "str"\/n = "list"\/n = "tuple"\/n = "dict" then some false else none
  | .bl _=>if n = "int"\/n = "bool" then some true else if n = "str"\/n = "list"\/n = "tuple"\/n = "dict" then some false else none
  | .str _=>if n = "str" then some true else if n = "int"\/n = "bool"\/n = "list"\/n = "tuple"\/n = "dict" then some false else none
  | .non=>if n = "int"\/n = "bool"\/n = "str"\/n = "list"\/n = "tuple"\/n = "dict" then some false else none
  | .tup _=>if n = "tuple" then some true else if n = "int"\/n = "bool"\/n = "str"\/n = "list"\/n = "dict" then some false else none
  | _=>(match ycd x h with|some _=>if n = "list" then some true else if n = "int"\/n = "bool"\/n = "str"\/n = "tuple"\/n = "dict" then some false else none|none=>none))
 | .cls c'=>(match ygD x h with|some (k,_)=>(tb.find? fun r=>r.1 == k && r.2.1 == c').map (·.2.2)|none=>none)
 | _=>none
def ygE (tb:List (Nat×Nat×Bool)):List PV->AH->Option (PV×AH):=fun xs h=>match xs with|[x,c]=>(match ywH tb x c h with|some b=>some (.bl b,h)|none=>none)|_=>none
theorem yen {tb:List (Nat×Nat×Bool)}(ht:∀ r∈tb,∀ (H:Hp) (a dx:Addr) (fs:List (Str×V)),H a=some (.ins (K.A r.1) dx fs)->IsI K.K H (.ref a) (.ref (K.A r.2.1)) r.2.2):yhx K (yyQ K.K) (ygE tb):=by
 intro W xs vs Q z h' w r e q
 unfold ygE at e
 split at e
 .rename_i x c
  split at e
  .rename_i b hb
   cases e
   obtain ⟨v,u,rfl,rx,ru⟩:=yAF r
   refine ⟨v,u,b,rfl,?_,q _ W rfl (.refl w) rfl⟩
   unfold ywH at hb
   split at hb
   .rename_i n
    obtain rfl:u=.ty n:=ru
    split at hb
    .rw [show v=_ from rx]
     repeat' split at hb
     all_goals cases hb
     .rename_i hn;subst hn;exact ylA
     .rename_i hn;rcases hn with rfl|rfl|rfl|rfl|rfl
      .exact yjX
      .exact ylG
      .exact ykb
      .exact yiR
      .exact ykc
    .rw [show v=_ from rx]
     repeat' split at hb
     all_goals cases hb
     .rename_i hn;rcases hn with rfl|rfl
      .exact ynH
      .exact ylC
     .rename_i hn;rcases hn with rfl|rfl|rfl|rfl
      .exact ynI
      .exact ylH
      .exact ykd
      .exact ylI
    .rw [show v=_ from rx]
     repeat' split at hb
     all_goals cases hb
     .rename_i hn;subst hn;exact ylD
     .rename_i hn;rcases hn with rfl|rfl|rfl|rfl|rfl
      .exact ylJ
      .exact yke
      .exact ykf
      .exact yiS
      .exact ykg
    .rw [show v=_ from rx]
     repeat' split at hb
     all_goals cases hb
     .rename_i hn;rcases hn with rfl|rfl|rfl|rfl|rfl|rfl
      .exact ylB
      .exact ykh
      .exact ylK
      .exact yki
      .exact yiT
      .exact ykj
    .obtain ⟨a,us,rfl,hs,_⟩:=rx
     have hp:(∃ xs,W.H a=some (.tup xs))\/∃ o,K.K.lookup a=some o/\o.cls=.type "tuple":=hs.elim (fun h=>.inl ⟨_,w.le _ _ h⟩) fun ⟨o,its,n,e1,e2,_⟩=>.inr ⟨o,e1,e2⟩
     repeat' split at hb
     all_goals cases hb
     .rename_i hn;subst hn;exact yiV hp
     .rename_i hn;rcases hn with rfl|rfl|rfl|rfl|rfl
      .exact ylN hp
      .exact ykm hp
      .exact ylO hp
      .exact ykn hp
      .exact yko hp
    .split at hb
     .rename_i ys hy
      obtain ⟨a,us,rfl,hp,_⟩:=ybj w hy rx
      repeat' split at hb
      all_goals cases hb
      .rename_i hn;subst hn;exact yjY hp
      .rename_i hn;rcases hn with rfl|rfl|rfl|rfl|rfl
       .exact ylL hp
       .exact ykk hp
       .exact ylM hp
       .exact yiU hp
       .exact ykl hp
     .cases hb
   .rename_i c'
    obtain rfl:u=.ref (K.A c'):=ru
    split at hb
    .rename_i k p hi
     obtain ⟨r',h1,h2⟩:=Option.map_eq_some_iff.mp hb
     have hm:=List.mem_of_find?_eq_some h1
     have hp:=List.find?_some h1
     simp only [and_eq_true,beq_iff_eq] at hp
     obtain ⟨a,dx,us,rfl,hs,_⟩:=yem w hi rx
     obtain ⟨p1,p2⟩:=hp
     have:=ht r' hm W.H a dx (p.1.zip us) (by rw [p1];exact hs)
     rw [p2,h2] at this
     exact this
    .cases hb
   .cases hb
  .cases e
 .cases e
end PX
namespace PX
open PySem L2
section
variable {ρ:PSt}{h h1:AH}{x y z:PV}{a b c:XE}{ca cb:XT}{aa:XA}{eo:XO}{s u:XS}{i:Nat}{p:P2}
theorem yey {α β:Type}{x:α}{h:AH}{f:α->AH->Option β}:ob (some (x,h)) f=f x h:=id rfl
theorem yyZ {α β:Type}{f:α->AH->Option β}:ob (none:Option (α×AH)) f=none:=id rfl
theorem yza {α β γ:Type}{o:Option (α×AH)}{f:α->AH->Option (β×AH)}{g:β->AH->Option γ}:ob (ob o f) g=ob o fun x h=>ob (f x h) g:=by cases o<;>rfl
theorem yzb {α β:Type}{q:Prop} [Decidable q] {o o':Option (α×AH)}{f:α->AH->Option β}:ob (if q then o else o') f=if q then ob o f else ob o' f:=by split<;>rfl
theorem ywI:ye 0 (.val x::ρ) h=some (x,h):=id rfl
theorem ywJ {v:PVar}{n:Nat}:ye (n+1) (v::ρ) h=ye n ρ h:=by simp [ye]
theorem x_c:xC x ρ h=some (x,h):=id rfl
theorem yBb:xOp p a b ρ h=ob (a ρ h) fun x h1=>ob (b ρ h1) fun y h2=>p x y h2:=id rfl
theorem yzc {p:P2O}:yjL p a b ρ h=ob (a ρ h) fun x h1=>ob (b ρ h1) fun y h2=>p x y h2:=id rfl
theorem yBc {p}:xUn p a ρ h=ob (a ρ h) fun x h1=>p x h1:=id rfl
theorem yBd {k:Bool}:oB (.bl k) h=some (k,h):=id rfl
theorem yus {p p':P2}:ydF p p' a b c ρ h=ob (a ρ h) fun x h1=>ob (b ρ h1) fun y h2=>ob (p x y h2) fun z h3=>ob (oB z h3) fun k h3=>if k=true then ob (c ρ h3) fun w h4=>p' y w h4 else some (.bl false,h3):=id rfl
theorem ywK:yy a ρ h=ob (a ρ h) oB:=id rfl
theorem ywL:yiW a b ρ h=ob (a ρ h) fun x h1=>ob (oB x h1) fun k h1=>if k=true then b ρ h1 else some (.bl false,h1):=id rfl
theorem ywM:ynL a ρ h=ob (a ρ h) fun x h1=>ob (oB x h1) fun k h1=>some (.bl (!k),h1):=id rfl
theorem yzd:yvw ca cb ρ h=ob (ca ρ h) fun k h1=>if k=true then cb ρ h1 else some (false,h1):=id rfl
theorem yBe:xOr ca cb ρ h=ob (ca ρ h) fun k h1=>if k=true then some (true,h1) else cb ρ h1:=id rfl
theorem yze:ygz ca ρ h=ob (ca ρ h) fun k h1=>some (!k,h1):=id rfl
theorem yBf:xIf ca a b ρ h=ob (ca ρ h) fun k h1=>if k=true then a ρ h1 else b ρ h1:=id rfl
theorem yzf:yg ρ h=some ([],h):=id rfl
theorem ywN:yb a aa ρ h=ob (a ρ h) fun x h1=>ob (aa ρ h1) fun xs h2=>some (x::xs,h2):=id rfl
theorem yzg:ygT aa ρ h=ob (aa ρ h) fun xs h1=>if xs.length<=1000 then some (.tup xs,h1) else none:=id rfl
theorem yzh:ydn aa ρ h=ob (aa ρ h) fun xs h1=>if xs.length<=1000 then some (.lst xs,h1) else none:=id rfl
def fzN:Nd->AH->Option (PV×AH)
 | .lst xs,h=>some (.lst xs,h)
 | .ins k ns xs,h=>some (.ins k ns xs,h)
 | _,_=>none
theorem ywO:xFz eo ρ h=ob (eo ρ h) fzN:=by
 unfold xFz;congr;funext d h1;cases d<;>rfl
theorem yzi {xs:List PV}:fzN (.lst xs) h=some (.lst xs,h):=id rfl
theorem yzj {k:Nat}{ns:List Str}{xs:List PV}:fzN (.ins k ns xs) h=some (.ins k ns xs,h):=id rfl
theorem yzk:yfZ eo ρ h=ob (eo ρ h) fun d h1=>some (.loc h1.length,h1++[d]):=id rfl
theorem x_call {f:Fn}:yN f aa ρ h=ob (aa ρ h) f:=id rfl
theorem yBg {f}:xCB f aa ρ h=ob (aa ρ h) f:=id rfl
theorem yzl {f}:ygZ f aa ρ h=ob (aa ρ h) f:=id rfl
theorem yBh {q} {p:PM}:xBM q p a aa ρ h=ob (a ρ h) fun x h1=>if q x h1=true then ob (aa ρ h1) fun xs h2=>p x xs h2 else none:=id rfl
theorem yut {s:Str}:isStr (.str s) h=true:=id rfl
theorem ywP {f}:yfB f aa ρ h=ob (aa ρ h) f:=id rfl
theorem yuu {k:Nat}:ymV k ρ h=some (.ins k [] [],h):=id rfl
theorem ywQ:ybi ρ h=some (.nx ρ,h):=id rfl
noncomputable def sqK (u:XS):Out->AH->Option (Out×AH)
 | .nx ρ,h=>u ρ h
 | .rt x,h=>some (.rt x,h)
 | .bk ρ,h=>some (.bk ρ,h)
 | .ct ρ,h=>some (.ct ρ,h)
theorem yzm:yv s u ρ h=ob (s ρ h) (sqK u):=by
 unfold yv;congr;funext o h1;cases o<;>rfl
theorem yzn:sqK u (.nx ρ) h=u ρ h:=id rfl
theorem yzo:sqK u (.rt x) h=some (.rt x,h):=id rfl
theorem ywR:ydN a ρ h=ob (a ρ h) fun _ h1=>some (.nx ρ,h1):=id rfl
theorem yps:ybf a ρ h=ob (a ρ h) fun x h1=>some (.rt x,h1):=id rfl
theorem yzp:ycT ca s u ρ h=ob (ca ρ h) fun k h1=>if k=true then s ρ h1 else u ρ h1:=id rfl
theorem yzq {g:XG}:ybM a g ρ h=ob (a ρ h) fun x h1=>(g x ρ).bind fun ρ'=>some (.nx ρ',h1):=id rfl
theorem ywS:ylU eo i ρ h=ob (eo ρ h) fun d h1=>some (.nx (ρ.set i (.own d)),h1):=id rfl
theorem ywT:yz i x ρ=some (ρ.set i (.val x)):=id rfl
theorem ywU:yyl [] ρ=some ρ:=id rfl
theorem yuv {g:XG}{r:XGs}{xs:List PV}:ypc g r (x::xs) ρ=(g x ρ).bind fun ρ'=>r xs ρ':=id rfl
theorem ywV {n:Nat}{g:XGs}{xs:List PV}:ywy n g (.tup xs) ρ=if xs.length=n then g xs ρ else none:=id rfl
theorem yzr:yuf i s ρ h=s (ylV i ρ) h:=id rfl
theorem yzs {v:PVar}:ylV 0 (v::ρ)=yqD v::ρ:=id rfl
theorem yzt {v:PVar}{n:Nat}:ylV (n+1) (v::ρ)=v::ylV n ρ:=id rfl
theorem yzu {xs:List PV}:yqD (.own (.lst xs))=.val (.lst xs):=id rfl
theorem yzv:yqD (.val x)=.val x:=id rfl
theorem yzw {it:XA}{g:XG}:yoj it g s ρ h=ob (it ρ h) fun xs h1=>yid g s xs ρ h1:=id rfl
def frK (g:XG) (s:XS) (xs:List PV):Out->AH->Option (Out×AH)
 | .nx ρ,h=>yid g s xs ρ h
 | .ct ρ,h=>yid g s xs ρ h
 | .bk ρ,h=>some (.nx ρ,h)
 | .rt y,h=>some (.rt y,h)
theorem yti {g:XG}{xs:List PV}:yid g s (x::xs) ρ h=(g x ρ).bind fun ρ1=>ob (s ρ1 h) (frK g s xs):=by
 unfold yid;congr;funext ρ1;congr;funext o h1;cases o<;>rfl
def fnK:Out->AH->Option (PV×AH)
 | .rt x,h=>some (x,h)
 | .nx _,h=>some (.non,h)
 | _,_=>none
theorem yH {N:Nat}{xs:List PV}:ycr N s xs h=ob (s (xs.map .val++replicate (N-xs.length) .no) h) fnK:=by
 unfold ycr;congr;funext o h1;cases o<;>rfl
theorem yzx:fnK (.rt x) h=some (x,h):=id rfl
theorem yzy:fnK (.nx ρ) h=some (.non,h):=id rfl
def ygF (cs:List Nat) (f:Str) (x:PV) (h:AH):Option (PV×AH):=match ygD x h with|some (k,ns,xs)=>if k∈cs/\f∈ns then (match xs[ns.idxOf f]? with|some y=>some (y,h)|none=>none) else none|none=>none
theorem yzz {cs:List Nat}{f:Str}:ydp cs f a ρ h=ob (a ρ h) (ygF cs f):=id rfl
theorem x_i {g:Int->Int->PV}{i j:Int}:oI g (.int i) (.int j) h=some (g i j,h):=id rfl
theorem yBi {C:Int->Int->Prop} [∀ i j,Decidable (C i j)] {g:Int->Int->PV}{i j:Int}:oIc C g (.int i) (.int j) h=if C i j then some (g i j,h) else none:=id rfl
theorem ywW {i j:Int}(h1:-18446744073709551616<j) (h2:j<18446744073709551616):MulOk i j=True:=eq_true (.inr ⟨h1,h2⟩)
theorem ywX {i j:Int}(h1:-18446744073709551616<i) (h2:i<18446744073709551616):MulOk i j=True:=eq_true (.inl ⟨h1,h2⟩)
theorem yzA {i j:Int}(h1:0<=i) (h2:i<18446744073709551616) (h3:0<=j) (h4:j<=1000000):ypj i j=True:=eq_true ⟨⟨h1,h2⟩,h3,h4⟩
theorem yzB {i j:Int}:oEq (.int i) (.int j) h=some (.bl (decide (i=j)),h):=by simp [oEq,sv,ysS]
theorem yzC {i j:Str}:oEq (.str i) (.str j) h=some (.bl (decide (i=j)),h):=by simp [oEq,sv,ysS]
theorem yzD {i j:Int}:oNe (.int i) (.int j) h=some (.bl (!decide (i=j)),h):=by simp [oNe,sv,ysS]
theorem yzE {i j:Str}:oNe (.str i) (.str j) h=some (.bl (!decide (i=j)),h):=by simp [oNe,sv,ysS]
theorem yzF:yqE x .non h=some (.bl (isN x),h):=id rfl
theorem ywY:ypm x .non h=some (.bl (!isN x),h):=id rfl
theorem ywZ {i j:Str}:yie (.str i) (.str j) h=if i.length+j.length<=100000 then some (.str (i++j),h) else none:=id rfl
theorem yzG {c:Nat}{j:Str}:ywD (.str ⟨#[c]⟩) (.str j) h=some (.bl (decide (c∈j.cps.toList)),h):=id rfl
theorem yzH {xs:List PV}{i:Int}:ydw (.lst xs) (.int i) h=(atI xs i).bind fun v=>some (v,h):=by
 simp only [ydw];cases atI xs i<;>rfl
theorem yzI {xs:List Int}{i:Int}:ydw (.scr xs) (.int i) h=(atI xs i).bind fun v=>some (.int v,h):=by
 simp only [ydw];cases atI xs i<;>rfl
theorem yzJ {s:Str}{i:Int}:ywF (.str s) (.int i) h=(atI s.cps.toList i).bind fun c=>if s.length<=100000 then some (sgn c,h) else none:=by
 simp only [ywF];cases atI s.cps.toList i<;>rfl
theorem yzK {xs ys:List PV}:yol (.lst xs) (.lst ys) h=if xs.length+ys.length<=100000 then some (.lst (xs++ys),h) else none:=id rfl
theorem yzL {xs:List PV}{k:Int}:yry (.lst xs) (.int k) h=if -1000000<=k/\k<=100000/\xs.length*k.toNat<=100000 then some (.lst (repL k.toNat xs),h) else none:=id rfl
theorem yxa {xs:List PV}:ybD [.lst xs] h=some (.int xs.length,h):=id rfl
theorem yxb {xs:List Int}:ybD [.scr xs] h=some (.int xs.length,h):=id rfl
theorem yxc {z:Str}:ylY [.str z] h=if z.length<=100000 then some (.int z.length,h) else none:=id rfl
theorem yAG {xs:List PV}(e:a ρ h=some (.lst xs,h1)):xIL a ρ h=some (xs,h1):=by unfold xIL;rw [e];rfl
theorem yxd {it:XA}{ix:List Nat}:yha it ix a ρ h=ob (it ρ h) fun xs h1=>if xs.length<=100000 then ob (ylW a (yga ix ρ) xs h1) fun ys h2=>some (.lst ys,h2) else none:=id rfl
end
end PX
namespace L2
open PySem PySem.Spec PyProof.Rows
end L2
namespace L2
open PySem PySem.Spec PyProof.Rows
section
variable (P:Program) (w:World)
end
section
variable {P:Program}{w:World}{H H':Hp}{h h':Heap}{a:Addr}{o:HO}
end
section
variable {P:Program}{w:World}{H:Hp}{h h':Heap}{x e:Addr}{o':HO}
end
section
variable {fs fs' ex ex':List Addr}{H H1 H2:Hp}{h h1 h2 h':Heap}{a x e:Addr}{o:HO}
end
end L2
namespace L2
open PySem PySem.Spec PyProof.Rows
section
variable {X:Cx}{pins:List (Addr×Obj)}{σ:List (Option V)}{H H':Hp}{s:Shared}{h':Heap}
end
end L2
namespace L2
open PySem PySem.Spec PyProof.Rows
section
variable {X:Cx}
variable {a b:Expr}{ta tb:TE}{pos:Pos}
variable {tA tB':TT}{rest:List Expr}
end
end L2
namespace L2
open PySem PySem.Spec PyProof.Rows
section
variable {X:Cx}{pins:List (Addr×Obj)}{σ:St}{H:Hp}{s:Shared}{a:Addr}{xs ys:List V}
end
section
variable {X:Cx}{pins:List (Addr×Obj)}{σ:St}{H:Hp}{s:Shared}{E:Value->Shared->Prop}
end
section
variable {X:Cx}{st:Stmt}{rest:List Stmt}{t u:TS}{e:Expr}{te:TE}{pos:Pos}
end
section
variable {X:Cx}{pos:Pos}
end
section
variable {X:Cx}{pos:Pos}
end
end L2
namespace L2
open PySem PySem.Spec PyProof.Rows
section
variable {X:Cx}{tg:Expr}
end
end L2
namespace L2
open PySem PySem.Spec PyProof.Rows
section
variable {X:Cx}{a b c:Expr}{ta tb tc:TE}{pos:Pos}
end
section
variable {X:Cx}{a b c:Expr}{ta tb tc:TE}{pos:Pos}
end
end L2
namespace L2
open PySem PySem.Spec PyProof.Rows
section
variable {prog:Program}{w:World}{A:Around}{E:Value->Shared->Prop}{s:Shared}{K:PySem.W.Frag}{x dx C f:Addr}{mA:Str->Option Value}{name:Str}{v:Value}
end
section
variable {P:Program}{w:World}{H H':Hp}{h h':Heap}{a C dx:Addr}{fs fs':List (Str×V)}
end
section
variable {X:Cx}{pins:List (Addr×Obj)}{σ:St}{H:Hp}{s:Shared}{a C dx:Addr}{fs:List (Str×V)}{f:Str}{v:V}{A:Around}{E:Value->Shared->Prop}
end
section
variable {X:Cx}{o e value:Expr}{f:Str}{pos pos' tpos:Pos}{ta tv:TE}
end
section
variable {X:Cx}{pins:List (Addr×Obj)}{σ:St}{H:Hp}{s:Shared}{A:Around}{E:Value->Shared->Prop}{Q:Value->Shared->Prop}{c:Value}{b:Bool}
end
end L2
namespace L2
open PySem PySem.Spec PyProof.Rows
section
variable {X:Cx}{e:Expr}{es:List Expr}{te:TE}{t:TA}{pos:Pos}
end
section
variable {X:Cx}{pins:List (Addr×Obj)}{σ:St}{H:Hp}{s s':Shared}
end
section
variable {X:Cx}{CX:CXT}{k:Nat}{f C:Addr}{fd:FuncData}{ps:List Str}{sp:Sp}{dvs:List V}{ds:List Value}{E:XK}{x m:Str}{p pos apos:Pos}{e o:Expr}{es:List Expr}{ta:TE}{t:TA}
end
section
variable {X:Cx}{CX:CXT}{k:Nat}{f C:Addr}{fd:FuncData}{ps ks:List Str}{sp:Sp}{E:XK}{x m:Str}{p pos apos kpos:Pos}{e o:Expr}{es:List Expr}{kws:List Keyword}{te ta:TE}{t tk:TA}{nm:Option Str}
variable {g:List Value->List Value->List Value}{gV:List V->List V->List V}
end
end L2
namespace L2
open PySem PySem.Spec PyProof.Rows
section
variable {X:Cx}{x:Str}{p pos:Pos}{e:Expr}{es:List Expr}{t:TA}{id T:String}{r:List V->Hp->VK->Prop}
end
end L2
namespace L2
open PySem PySem.Spec PyProof.Rows
section
variable {κ:Type} [DecidableEq κ]
end
section
variable {P:Program}{w:World}{H:Hp}{h:Heap}{a:Addr}
end
section
variable {X:Cx}{pins:List (Addr×Obj)}{σ:St}{H:Hp}{s:Shared}{a:Addr}{y v:V}{u r:Value}{o:Option V}{A:Around}{E:Value->Shared->Prop}
theorem Inv.big (I:Inv X pins σ H s):sysModules<s.heap.objs.size:=by
 have h:mainGlobals<s.heap.objs.size:=(I.mod.glob.keeps I.bk).lt
 exact Nat.lt_trans (by decide) h
end
section
variable {X:Cx}{pins:List (Addr×Obj)}{σ:St}{H:Hp}{s:Shared}{a:Addr}{kvs:List (Key×V)}{k:Key}{u:Value}{A:Around}{E:Value->Shared->Prop}
end
section
variable {X:Cx}{o i e value:Expr}{pos pos' tpos:Pos}{td ty tv:TE}
end
theorem yrF {P:Program}{w:World}{H:Hp}(h:Heap) (hb:sysModules<h.objs.size):ObjOk P w H (h.push { cls:=.type "dict",data:=.dict #[] }) h.objs.size (.dK []) :=
 ⟨zero_le _,beq_eq_false_iff_ne.mpr (Ne.symm (ne_of_lt hb)),[],.nil,Heap.DictOf.new h⟩
def ytj:TE:=fun _ H Q=>∀ p,H p=none->Q (.ref p) (upd H p (.dK []))
section
variable {X:Cx}{pos:Pos}
theorem yrG:PE X (.Dict [] [] pos) ytj:=fun pins s σ H Q I h =>
 wpAny_Dict_empty ⟨.ref s.heap.objs.size,_,I.laid (a:=s.heap.objs.size) (o:=.dK []) (t':=s.toks) (fun _ _ q=>Heap.get?_push_of_some _ q) (Nat.le_refl _) (yrF s.heap I.big),rfl,h _ (I.hok.fresh (Nat.le_refl _))⟩
end
section
variable {X:Cx}{pins:List (Addr×Obj)}{σ:St}{H:Hp}{s:Shared}{a:Addr}{y d:V}{u r:Value}{o:Option V}{A:Around}{E:Value->Shared->Prop}
end
section
variable {X:Cx}{o e f:Expr}{apos cpos:Pos}{td ty tx:TE}
end
section
variable {X:Cx}{pins:List (Addr×Obj)}{σ:St}{H:Hp}{s:Shared}{a:Addr}{kvs:List (Key×V)}{A:Around}{E:Value->Shared->Prop}
end
section
variable {X:Cx}{pins:List (Addr×Obj)}{σ:St}{H:Hp}{s:Shared}{a:Addr}{y:V}{u:Value}{A:Around}{E:Value->Shared->Prop}
end
end L2
namespace Att
open PySem PySem.W PySem.Calls PyProof.Rows
section
variable {prog:Program}{w:World}{A:Around}{E:Value->Shared->Prop}{s:Shared}{K:Frag}
end
end Att
namespace L2
open PySem PySem.Spec PyProof.Rows
end L2
namespace L2
open PySem PySem.Spec PyProof.Rows
end L2
namespace L2
open PySem PySem.Spec PyProof.Rows
section
variable {P:Program}{w:World}{K:PySem.W.Frag}{mg:Str->Option Value}{base:Heap}
end
section
variable {X:Cx}
end
section
variable {κ:Type} [DecidableEq κ]
end
end L2
namespace PX
open PySem L2
variable {K:Ck}
theorem ypt {α:Type}{l:List α}(h:l.Nodup) {i j:Nat}(hi:i<l.length) (hj:j<l.length) (e:l[i]=l[j]):i=j:=by
 have p:=List.pairwise_iff_getElem.mp h
 rcases Nat.lt_trichotomy i j with z|z|z
 .exact absurd e (p i j hi hj z)
 .exact z
 .exact absurd e.symm (p j i hj hi z)
def yyo (W:Wd) (n:Nat) (a:Addr) (o:HO) (d:Nd):Wd:=⟨W.F,upd W.H a o,W.m,W.h.set n d⟩
theorem ylZ {W:Wd}(w:WOk K W) {n:Nat}{d d':Nd}{a:Addr}{o:HO}(e:W.h[n]?=some d) (hm:W.m[n]?=some a) (hF:W.F a=none) (at':NdAt K W.F (upd W.H a o) W.m d' a) (nf:∀ ks xs,d≠.fz ks xs:=by intro _ _ z;cases z):Le K W (yyo W n a o d'):=by
 have hn:n<W.h.length:=(List.getElem?_eq_some_iff.mp e).1
 have ham:a∈W.m:=mem_of_getElem? hm
 refine ⟨⟨fun b u q=>?_,by show W.m.length=(W.h.set n d').length;rw [length_set];exact w.len,w.nd,fun j dj b e1 e2=>?_⟩,Same.refl _,prefix_refl _,fun b u q hb=>?_,fun b u _ _ f=>f,fun b z z'=>absurd z z',fun j ks xs e1=>?_⟩
 .have:b≠a:=ybQ q hF
  exact (yU this).trans (w.le _ _ q)
 .have e1:(W.h.set n d')[j]?=some dj:=e1
  by_cases hj:n=j
  .subst hj
   rw [getElem?_set_self hn] at e1
   cases e1
   have e2:W.m[n]?=some b:=e2
   rw [hm] at e2
   cases e2
   exact at'
  .rw [getElem?_set_ne hj] at e1
   have e2:W.m[j]?=some b:=e2
   have hb:b≠a:=fun z=>by
    subst z
    have h1:=(List.getElem?_eq_some_iff.mp hm)
    have h2:=(List.getElem?_eq_some_iff.mp e2)
    obtain ⟨l1,q1⟩:=h1
    obtain ⟨l2,q2⟩:=h2
    exact hj (ypt w.nd l1 l2 (q1.trans q2.symm))
   exact (w.at_ j dj b e1 e2).mono (Same.refl _) (prefix_refl _) (fun u q=>(yU hb).trans q) id
 .have:b≠a:=fun z=>hb (z ▸ ham)
  exact (yU this).trans q
 .have hj:n≠j:=fun z=>by
   subst z
   rw [e] at e1
   cases e1
   exact nf _ _ rfl
  refine ⟨(getElem?_set_ne hj).trans e1,fun b e2=>yU fun z=>?_⟩
  subst z
  obtain ⟨l1,q1⟩:=List.getElem?_eq_some_iff.mp hm
  obtain ⟨l2,q2⟩:=List.getElem?_eq_some_iff.mp e2
  exact hj (ypt w.nd l1 l2 (q1.trans q2.symm))
def yks:PV->AH->Bool:=fun x h=>match ycd x h with|some _=>true|none=>false
theorem yrH {W:Wd}{x:PV}{v:V}(w:WOk K W) (r:yda K W x v) (c:yks x W.h=true):tyV K.K "list" v W.H:=by
 unfold yks at c
 split at c
 .rename_i xs hx
  obtain ⟨a,vs,rfl,hs,_⟩:=ybj w hx r
  exact .inl ⟨rfl,vs,SqL.of hs⟩
 .cases c
noncomputable def yma:PM:=fun x ys h=>match x,ys with|.loc n,[y]=>(match h[n]? with|some (.lst xs)=>if xs.length<100000 then some (.non,h.set n (.lst (xs++[y]))) else none|_=>none)|_,_=>none
theorem ypu:yrf K "list" yks yly yma:=by
 refine ⟨fun W x v w r c=>yrH w r c,fun W x v xs vs Q z h' w rx r e q=>?_⟩
 unfold yma at e
 split at e
 .rename_i n y
  split at e
  .rename_i ys hn
   split at e
   .rename_i hl
    cases e
    obtain ⟨u,rfl,ru⟩:=ypp r
    obtain ⟨a,ev,hm,hf,us,hp,rs⟩:=w.loc hn rx
    refine ⟨a,us,u,ev,rfl,hp,by rw [rs.len];exact big hl,?_⟩
    exact q .non (yyo W n a (.lst (us++[u])) (.lst (ys++[y]))) rfl (ylZ w hn hm hf ⟨hf,_,yG,rs.snoc ru⟩) rfl
   .cases e
  .cases e
 .cases e
def ymb (eo ei ev:XE):XS:=fun ρ h=>ob (ev ρ h) fun v h1=>ob (eo ρ h1) fun o h2=>ob (ei ρ h2) fun i h3=>match o,i with
 | .loc n,.int k=>(match h3[n]? with|some (.lst xs)=>(match ixN xs.length k with|some j=>some (.nx ρ,h3.set n (.lst (xs.set j v)))|none=>none)|_=>none)
 | _,_=>none
theorem yrI {to ti tv:TE}{eo ei ev:XE}(a:ycH K to eo) (b:ycH K ti ei) (c:ycH K tv ev):yge K (ysN tv (yAp to ti ywf)) (ymb eo ei ev):=by
 intro W0 W ρ σ D o h' g e q
 obtain ⟨v,h1,e1,f1⟩:=yh e
 obtain ⟨x,h2,e2,f2⟩:=yh f1
 obtain ⟨i,h3,e3,f3⟩:=yh f2
 refine c W0 W ρ σ _ v h1 g e1 fun vv W1 w1 l1 r1=>?_
 subst w1
 refine a W0 W1 ρ σ _ x h2 (g.step l1) e2 fun vx W2 w2 l2 r2=>?_
 subst w2
 refine b W0 W2 ρ σ _ i h3 (g.step (l1.trans l2)) e3 fun vi W3 w3 l3 r3=>?_
 subst w3
 have w:=l3.ok
 split at f3
 .rename_i n k
  split at f3
  .rename_i xs hn
   split at f3
   .rename_i j hj
    cases f3
    obtain ⟨p,ep,hm,hf,us,hp,rs⟩:=w.loc hn (l3.rep r2)
    refine ⟨p,us,k,j,ep,r3,hp,by rw [rs.len];exact hj,?_⟩
    have l4:Le K W3 (yyo W3 n p (.lst (us.set j vv)) (.lst (xs.set j v))):=ylZ w hn hm hf ⟨hf,_,yG,rs.set j ((l2.trans l3).rep r1)⟩
    have l:=l1.trans (l2.trans (l3.trans l4))
    exact q _ σ rfl l.lf (g.step l)
   .cases f3
  .cases f3
 .cases f3
noncomputable def ypv (x:PV) (h:AH):Option (List Key×List PV):=match x with|.loc n=>(match h[n]? with|some (.dct ks xs)=>some (ks,xs)|_=>none)|_=>none
theorem ykt {W:Wd}(w:WOk K W) {x:PV}{v:V}{ks:List Key}{xs:List PV}(e:ypv x W.h=some (ks,xs)) (r:yda K W x v):∃ a vs,v=.ref a/\W.H a=some (.dK (ks.zip vs))/\vs.length=ks.length/\ycL K W xs vs:=by
 unfold ypv at e
 split at e
 .split at e
  .rename_i hn
   cases e
   obtain ⟨a,ev,hm,hf,vs,hp,hl,rs⟩:=w.loc hn r
   exact ⟨a,vs,ev,hp,hl,rs⟩
  .cases e
 .cases e
def ypw:XO:=fun _ h=>some (.dct [] [],h)
theorem yrJ:yln K ytj ypw:=by
 intro W0 W ρ σ Q d h' g e q
 cases e
 intro p hp
 exact q p (yfs W p (.dK [])) rfl (ycp g.ok hp) (g.ok.out hp) hp (fun z=>by cases z) ⟨g.ok.ff hp,[],yG,rfl,rfl⟩
end PX
namespace PX
open PySem L2
variable {K:Ck}
def itemsOf (x:PV) (h:AH):Option (List PV):=match x with|.tup xs=>some xs|_=>listOf x h
theorem ymc {W:Wd}(w:WOk K W) {x:PV}{v:V}{xs:List PV}(e:itemsOf x W.h=some xs) (r:yda K W x v):∃ a vs,v=.ref a/\(SqL K.K W.H a vs\/SqT K.K W.H a vs)/\ycL K W xs vs:=by
 unfold itemsOf at e
 split at e
 .cases e
  obtain ⟨a,vs,ev,hs,rs⟩:=r
  exact ⟨a,vs,ev,.inr (ydu w hs),rs⟩
 .obtain ⟨a,vs,ev,hs,rs⟩:=yis w e r
  exact ⟨a,vs,ev,.inl hs,rs⟩
def svs:List PV->Option (List V)
 | []=>some []
 | x::xs=>match sv x,svs xs with|some v,some vs=>some (v::vs)|_,_=>none
theorem ypx {F:Hp}{m:List Addr}:∀ {xs:List PV}{us vs:List V},svs xs=some us->RepL K F m xs vs->vs=us/\us.all ygc=true
 | [],_,_,e,r=>by cases e;exact ⟨r,rfl⟩
 | x::xs,us,_,e,⟨v,r,ev,h,l⟩=>by
  unfold svs at e
  split at e
  .rename_i u us' e1 e2
   cases e
   obtain ⟨h1,h2⟩:=ypx e2 l
   have hv:v=u:=by cases x<;>cases e1<;>exact h
   have hf:ygc u=true:=by cases x<;>cases e1<;>rfl
   exact ⟨by rw [ev,hv,h1],by rw [List.all_cons,hf,h2];rfl⟩
  .cases e
theorem yjg {x:PV}{u:V}(e:sv x=some u):ygc u=true:=by cases x<;>cases e<;>rfl
def yxe (neg:Bool):P2:=fun x y h=>match sv x,itemsOf y h with|some v,some ys=>(match svs ys with|some us=>some (.bl (if neg then !inV v us else inV v us),h)|none=>none)|_,_=>none
theorem yxf {neg:Bool}:ycB K (rIn K.K neg) (yxe neg):=by
 intro W x y v u Q z h' w rx ry e q
 unfold yxe at e
 split at e
 .rename_i v' ys ev ey
  split at e
  .rename_i us hu
   cases e
   obtain rfl:=yfG ev rx
   obtain ⟨a,vs,rfl,hs,rs⟩:=ymc w ey ry
   obtain ⟨rfl,hf⟩:=ypx hu rs
   exact ⟨a,vs,rfl,hs,yjg ev,hf,q _ W rfl (.refl w) rfl⟩
  .cases e
 .cases e
end PX
namespace PX
open PySem L2
theorem yzM [i:Decidable True]:decide True=true:=by simp
theorem yzN [i:Decidable False]:decide False=false:=by simp
theorem yzO:(false=true)=False:=by simp
theorem yzP:(true=false)=False:=by simp
theorem yrK {g:XG}{s:XS}{xs:List PV}(I:Nat->PSt->AH->Prop) (R:PV->AH->Prop) {ρ:PSt}{h:AH}(h0:I 0 ρ h)
  (step:∀ (i:Nat) (x:PV) (ρ:PSt) (h:AH),xs[i]?=some x->I i ρ h->∃ ρ1 o h',g x ρ=some ρ1/\s ρ1 h=some (o,h')/\(match o with|.nx ρ'=>I (i+1) ρ' h'|.ct ρ'=>I (i+1) ρ' h'|.bk _=>False|.rt y=>R y h')) :
  (∃ ρ' h',yid g s xs ρ h=some (.nx ρ',h')/\I xs.length ρ' h')\/∃ y h',yid g s xs ρ h=some (.rt y,h')/\R y h':=by
 have key:∀ (n i:Nat) (ρ:PSt) (h:AH),i+n=xs.length->I i ρ h->(∃ ρ' h',yid g s (xs.drop i) ρ h=some (.nx ρ',h')/\I xs.length ρ' h')\/∃ y h',yid g s (xs.drop i) ρ h=some (.rt y,h')/\R y h':=by
  intro n
  induction n with
  | zero =>
   intro i ρ h hi hI
   have:i=xs.length:=by omega
   subst this
   rw [List.drop_length]
   exact .inl ⟨ρ,h,rfl,hI⟩
  | succ n ih =>
   intro i ρ h hi hI
   have hlt:i<xs.length:=by omega
   obtain ⟨ρ1,o,h',e1,e2,e3⟩:=step i xs[i] ρ h (List.getElem?_eq_getElem hlt) hI
   rw [List.drop_eq_getElem_cons hlt,yti,e1,bind_some,e2,yey]
   cases o with
   | nx ρ'=>exact ih (i+1) ρ' h' (by omega) e3
   | ct ρ'=>exact ih (i+1) ρ' h' (by omega) e3
   | bk ρ'=>exact e3.elim
   | rt y=>exact .inr ⟨y,h',rfl,e3⟩
 simpa using key xs.length 0 ρ h (by omega) h0
theorem ypy {g:XG}{s:XS}{xs:List PV}(I:Nat->PSt->AH->Prop) {ρ:PSt}{h:AH}(h0:I 0 ρ h)
  (step:∀ (i:Nat) (x:PV) (ρ:PSt) (h:AH),xs[i]?=some x->I i ρ h->∃ ρ1 ρ' h',g x ρ=some ρ1/\(s ρ1 h=some (.nx ρ',h')\/s ρ1 h=some (.ct ρ',h'))/\I (i+1) ρ' h') :
  ∃ ρ' h',yid g s xs ρ h=some (.nx ρ',h')/\I xs.length ρ' h':=by
 rcases yrK I (fun _ _=>False) h0 (fun i x ρ h hx hI=>by
  obtain ⟨ρ1,ρ',h',e1,e2,e3⟩:=step i x ρ h hx hI
  rcases e2 with e2|e2
  .exact ⟨ρ1,.nx ρ',h',e1,e2,e3⟩
  .exact ⟨ρ1,.ct ρ',h',e1,e2,e3⟩) with q|⟨_,_,_,q⟩
 .exact q
 .exact q.elim
theorem yku {β:Type}{g:XG}{s:XS}{xs:List PV}(I:Nat->PSt->AH->Prop) {ρ:PSt}{h:AH}{f:Out->AH->Option β}{r:Option β}(h0:I 0 ρ h)
  (step:∀ (i:Nat) (x:PV) (ρ:PSt) (h:AH),xs[i]?=some x->I i ρ h->∃ ρ1 ρ' h',g x ρ=some ρ1/\(s ρ1 h=some (.nx ρ',h')\/s ρ1 h=some (.ct ρ',h'))/\I (i+1) ρ' h')
  (fin:∀ ρ' h',I xs.length ρ' h'->f (.nx ρ') h'=r):ob (yid g s xs ρ h) f=r:=by
 obtain ⟨ρ',h',e,hI⟩:=ypy I h0 step
 rw [e]
 exact fin ρ' h' hI
theorem yhi {c:XT}{s:XS}{n:Nat}{ρ:PSt}{h:AH}:whl c s (n+1) ρ h=ob (c ρ h) fun k h1=>if k=true then ob (s ρ h1) fun o h2=>(match o with|.nx ρ'=>whl c s n ρ' h2|.ct ρ'=>whl c s n ρ' h2|.bk ρ'=>some (.nx ρ',h2)|.rt y=>some (.rt y,h2)) else some (.nx ρ,h1):=rfl
theorem yfS (lo:Int) (n:Nat):(yfF lo n).length=n:=by simp [yfF]
theorem ykv {a:XA}{ρ:PSt}{h h1:AH}{j:Int}(e:a ρ h=some ([.int j],h1)) (h0:-1000000000<=j) (h2:j<=1000000000):yjb a ρ h=some (yfF 0 j.toNat,h1):=by
 unfold yjb
 rw [e,yey]
 show (if _ then _ else _)=_
 rw [if_pos ⟨h0,h2⟩]
theorem ymd {α:Type}{e:XE}{inn:PV->PSt}(f g:α->PV):∀ {ts:List α}{h:AH},(∀ t∈ts,e (inn (f t)) h=some (g t,h))->ylW e inn (ts.map f) h=some (ts.map g,h)
 | [],_,_=>rfl
 | t::ts,h,k=>by
  show ob (e (inn (f t)) h) (fun y h1=>ob (ylW e inn (ts.map f) h1) fun ys h2=>some (y::ys,h2))=_
  rw [k t mem_cons_self,yey,ymd f g fun y hy=>k y (mem_cons_of_mem _ hy),yey]
  rfl
theorem ypz {i:Nat}{e:XE}{ρ:PSt}{h:AH}{xs:List PV}(hx:ρ[i]?=some (.own (.lst xs))):yiZ i e ρ h=ob (e ρ h) fun x h1=>if xs.length<100000 then some (.nx (ρ.set i (.own (.lst (xs++[x])))),h1) else none:=by
 unfold yiZ
 rw [hx]
theorem yAH {α:Type}{a0:α}{xs:List α}:atI (a0::xs) 0=some a0:=yee (j:=0) rfl
theorem ycq {h:AH}{n:Nat}{xs:List PV}(e:h[n]?=some (.lst xs)):ybD [.loc n] h=some (.int xs.length,h):=by
 unfold ybD ymR
 simp only [e]
theorem yme {h:AH}{n:Nat}{xs:List PV}{y:PV}(e:h[n]?=some (.lst xs)) (hl:xs.length<100000):yma (.loc n) [y] h=some (.non,h.set n (.lst (xs++[y]))):=by
 unfold yma
 simp only [e]
 rw [if_pos hl]
end PX
namespace PX
open PySem L2
variable {K:Ck}
section
variable {ta:TE}{ea:XE}
def yrL (i:Nat) (e:XE):XS:=fun ρ h=>match ρ[i]? with
 | some (.own (.lst xs))=>ob (e ρ h) fun x h1=>(match x with|.lst ys=>if xs.length+ys.length<=100000 then some (.nx (ρ.set i (.own (.lst (xs++ys)))),h1) else none|_=>none)
 | _=>none
theorem yrM (i:Nat) (a:ycH K ta ea):yge K (yor (tBM K.K "list" yoN (yny i) (yls ta ysU))) (yrL i ea):=by
 intro W0 W ρ σ D o h' g e q
 unfold yrL at e
 split at e
 .rename_i xs0 hx
  obtain ⟨x,h1,e1,f1⟩:=yh e
  split at f1
  .rename_i ys
   split at f1
   .rename_i hlen
    cases f1
    obtain ⟨p,a1,a2,a3,a4,hf,vs,hp,r⟩:=g.own i _ hx
    refine ⟨.ref p,a1,.inl ⟨rfl,_,SqL.of hp⟩,?_⟩
    refine a W0 W ρ σ _ _ _ g e1 fun v W1 w1 l1 r1=>?_
    obtain ⟨b,us,rfl,hb,rb⟩:=r1
    refine ⟨p,b,vs,us,rfl,rfl,l1.keep _ _ hp a2,l1.ok.le _ _ hb,by rw [r.len,rb.len];exact yul hlen,?_⟩
    have g1:=g.step l1
    obtain ⟨p',b1,b2,b3,b4,b5,vs',b6,b7⟩:=g1.own i _ hx
    rw [a1] at b1
    cases b1
    rw [l1.keep _ _ hp a2] at b6
    cases b6
    exact q (yok W1 p (.lst (vs++us))) σ w1 (ype l1 b2) (g1.mut hx a1 b2 b3 b5 (fun z=>by cases z) ⟨b5,_,yG,b7.app rb⟩)
   .cases f1
  .cases f1
 .cases e
def yrN (i:Nat):XE:=fun ρ h=>match ρ[i]? with|some (.own (.lst xs))=>some (.int xs.length,h)|_=>none
theorem yrO (i:Nat):ycH K (tCB (ywh K.K) (yls (yny i) ysU)) (yrN i):=by
 intro W0 W ρ σ Q x h' g e q
 unfold yrN at e
 split at e
 .rename_i xs hx
  cases e
  obtain ⟨p,a1,a2,a3,a4,hf,vs,hp,r⟩:=g.own i _ hx
  refine ⟨.ref p,a1,p,vs,rfl,.inl (SqL.of hp),?_⟩
  rw [r.len]
  exact q _ W rfl (.refl g.ok) rfl
 .cases e
end
end PX
namespace PX
open PySem L2
variable {K:Ck}
end PX
namespace PX
open PySem L2
variable {K:Ck}
def Odd (K:PySem.W.Frag) (H:Hp):Prop:=∃ a o ob,H a=some o/\K.lookup a=some ob
inductive EqR (K:PySem.W.Frag) (H:Hp):Nat->V->V->Bool->Prop where
 | flat {n:Nat}{x y:V}(fx:ygc x=true) (fy:ygc y=true):EqR K H n x y (eqV x y)
 | same {n:Nat}{a:Addr}:EqR K H n (.ref a) (.ref a) true
 | odd {n:Nat}{x y:V}{b:Bool}(h:Odd K H):EqR K H n x y b
 | nt {n:Nat}{b:Addr}{ys:List V}(hb:SqT K H b ys):EqR K H (n+1) .non (.ref b) false
 | tn {n:Nat}{b:Addr}{ys:List V}(hb:SqT K H b ys):EqR K H (n+1) (.ref b) .non false
 | lst {n:Nat}{a b:Addr}{xs ys:List V}{e:Nat->Bool}(ha:H a=some (.lst xs)) (hb:H b=some (.lst ys)) (hl:xs.length=ys.length) (hne:a≠b) (he:∀ j x y,xs[j]?=some x->ys[j]?=some y->EqR K H n x y (e j)):EqR K H (n+1) (.ref a) (.ref b) ((List.range xs.length).all e)
 | lstN {n:Nat}{a b:Addr}{xs ys:List V}(ha:H a=some (.lst xs)) (hb:H b=some (.lst ys)) (hl:xs.length≠ys.length):EqR K H (n+1) (.ref a) (.ref b) false
 | tup {n:Nat}{a b:Addr}{xs ys:List V}{e:Nat->Bool}(ha:SqT K H a xs) (hb:SqT K H b ys) (hne:a≠b) (he:∀ j x y,xs[j]?=some x->ys[j]?=some y->EqR K H n x y (e j)):EqR K H (n+1) (.ref a) (.ref b) ((List.range (min xs.length ys.length)).all e && xs.length == ys.length)
inductive RcR (K:PySem.W.Frag) (H:Hp):V->V->Bool->Prop where
 | nt {b:Addr}{ys:List V}(hb:SqT K H b ys):RcR K H .non (.ref b) false
 | tn {b:Addr}{ys:List V}(hb:SqT K H b ys):RcR K H (.ref b) .non false
 | lst {a b:Addr}{xs ys:List V}{e:Nat->Bool}(ha:H a=some (.lst xs)) (hb:H b=some (.lst ys)) (hl:xs.length=ys.length) (he:∀ j x y,xs[j]?=some x->ys[j]?=some y->EqR K H 40 x y (e j)):RcR K H (.ref a) (.ref b) ((List.range xs.length).all e)
 | lstN {a b:Addr}{xs ys:List V}(ha:H a=some (.lst xs)) (hb:H b=some (.lst ys)) (hl:xs.length≠ys.length):RcR K H (.ref a) (.ref b) false
 | tup {a b:Addr}{xs ys:List V}{e:Nat->Bool}(ha:SqT K H a xs) (hb:SqT K H b ys) (he:∀ j x y,xs[j]?=some x->ys[j]?=some y->EqR K H 40 x y (e j)):RcR K H (.ref a) (.ref b) ((List.range (min xs.length ys.length)).all e && xs.length == ys.length)
def yAI (K:PySem.W.Frag):R2:=fun x y H Q=>∃ b,RcR K H x y b/\Q (.bl b) H
def yAJ (K:PySem.W.Frag):R2:=fun x y H Q=>∃ b,RcR K H x y b/\Q (.bl (!b)) H
noncomputable def yhA (f:PV->PV->Option Bool):List PV->List PV->Option Bool
 | x::xs,y::ys=>(match f x y,yhA f xs ys with|some b,some c=>some (b && c)|_,_=>none)
 | _,_=>some true
def pairE (f:PV->PV->Option Bool) (h:AH) (x y:PV):Option Bool:=match x,y with
 | .tup xs,.tup ys=>(match yhA f xs ys with|some b=>some (b && xs.length == ys.length)|none=>none)
 | .non,.tup _=>some false
 | .tup _,.non=>some false
 | x,y=>(match ycd x h,ycd y h with|some xs,some ys=>if xs.length=ys.length then yhA f xs ys else some false|_,_=>none)
def eqP:Nat->AH->PV->PV->Option Bool
 | 0,_,_,_=>none
 | n+1,h,x,y=>match sv x,sv y with
  | some u,some v=>some (eqV u v)
  | _,_=>pairE (eqP n h) h x y
theorem yhj:∀ {v:V},ygc v=true->eqV v v=true
 | .non,_=>rfl
 | .bl b,_=>by cases b<;>rfl
 | .int i,_=>by simp [eqV]
 | .str s,_=>by simp [eqV]
noncomputable def unV:Value->Option V
 | .none=>some .non
 | .bool b=>some (.bl b)
 | .int i _=>some (.int i)
 | .str x _=>some (.str x)
 | .bytes b _=>some (.byt b)
 | .float b _=>some (.flt b)
 | .ref a=>some (.ref a)
 | .type n=>some (.ty n)
 | _=>none
theorem ytk:∀ {v:V}{u:Value},RelV v u->unV u=some v
 | .non,_,h=>by rw [show _=Value.none from h];rfl
 | .bl _,_,h=>by rw [show _=Value.bool _ from h];rfl
 | .int _,_,⟨_,h⟩=>by rw [h];rfl
 | .str _,_,⟨_,h⟩=>by rw [h];rfl
 | .byt _,_,⟨_,h⟩=>by rw [h];rfl
 | .flt _,_,⟨_,h⟩=>by rw [h];rfl
 | .ref _,_,h=>by rw [show _=Value.ref _ from h];rfl
 | .ty _,_,h=>by rw [show _=Value.type _ from h];rfl
theorem yuw {v w:V}{u:Value}(h1:RelV v u) (h2:RelV w u):v=w:=Option.some.inj ((ytk h1).symm.trans (ytk h2))
theorem yrP {vs ws:List V}{us:List Value}(h1:Vals vs us):Vals ws us->vs=ws:=by
 induction h1 generalizing ws with
 | nil=>intro h2;cases h2;rfl
 | cons r _ ih=>intro h2;cases h2 with|cons r2 t2=>rw [yuw r r2,ih t2]
theorem yxg {F H:Hp}{a:Addr}{vs ws:List V}(s:Same F H) (h1:TpAt K.K F a vs) (h2:TpAt K.K F a ws):vs=ws\/Odd K.K H:=by
 rcases h1 with h1|⟨o,its,n,e1,e2,e3,e4,e5⟩
 .rcases h2 with h2|⟨o,its,n,e1,e2,e3,e4,e5⟩
  .rw [h1] at h2;cases h2;exact .inl rfl
  .exact .inr ⟨a,_,o,s _ _ h1,e1⟩
 .rcases h2 with h2|⟨o',its',n',e1',e2',e3',e4',e5'⟩
  .exact .inr ⟨a,_,o,s _ _ h2,e1⟩
  .rw [e1] at e1';cases e1'
   rw [e3] at e3';cases e3'
   exact .inl (yrP e5 e5')
theorem yhB {f:PV->PV->Option Bool}{W:Wd}(hf:∀ x y v b,f x y=some b->yda K W x v->yda K W y v->b=true\/Odd K.K W.H):∀ {xs ys:List PV}{vs:List V}{c:Bool},ycL K W xs vs->ycL K W ys vs->yhA f xs ys=some c->c=true\/Odd K.K W.H
 | [],_,_,_,_,_,e=>by simp [yhA] at e;exact .inl e
 | _::_,[],_,_,_,_,e=>by simp [yhA] at e;exact .inl e
 | x::xs,y::ys,_,c,⟨v,r,e1,h1,l1⟩,⟨u,q,e2,h2,l2⟩,e=>by
  rw [e1] at e2
  cases e2
  unfold yhA at e
  cases eb:f x y with
  | none=>rw [eb] at e;cases e
  | some b =>
   cases ec:yhA f xs ys with
   | none=>rw [eb,ec] at e;cases e
   | some c' =>
    rw [eb,ec] at e
    cases e
    rcases hf x y _ b eb h1 h2 with z|z
    .rcases yhB hf l1 l2 ec with z'|z'
     .exact .inl (by rw [z,z'];rfl)
     .exact .inr z'
    .exact .inr z
theorem ynQ {f:PV->PV->Option Bool}{W:Wd}(w:WOk K W) (hf:∀ x y v b,f x y=some b->yda K W x v->yda K W y v->b=true\/Odd K.K W.H) {x y:PV}{v:V}{b:Bool}(e:pairE f W.h x y=some b) (rx:yda K W x v) (ry:yda K W y v):b=true\/Odd K.K W.H:=by
 unfold pairE at e
 split at e
 .rename_i xs ys
  obtain ⟨a,vs,ev,ha,ra⟩:=rx
  obtain ⟨a',vs',ev',ha',ra'⟩:=ry
  rw [ev] at ev'
  cases ev'
  rcases yxg w.le ha ha' with z|z
  .subst z
   cases ec:yhA f xs ys with
   | none=>rw [ec] at e;cases e
   | some c =>
    rw [ec] at e
    cases e
    rcases yhB hf ra ra' ec with z|z
    .left
     rw [z,<- ra.len,<- ra'.len]
     simp
    .exact .inr z
  .exact .inr z
 .obtain ⟨a',vs',ev',ha',ra'⟩:=ry
  have rx:v=.non:=rx
  rw [rx] at ev';cases ev'
 .obtain ⟨a',vs',ev',ha',ra'⟩:=rx
  have ry:v=.non:=ry
  rw [ry] at ev';cases ev'
 .split at e
  .rename_i xs ys hx hy
   obtain ⟨a,vs,ev,ha,ra⟩:=ybj w hx rx
   obtain ⟨a',vs',ev',ha',ra'⟩:=ybj w hy ry
   rw [ev] at ev'
   cases ev'
   rw [ha] at ha'
   cases ha'
   rw [if_pos (by rw [<- ra.len,<- ra'.len])] at e
   exact yhB hf ra ra' e
  .cases e
theorem yjh {W:Wd}(w:WOk K W):∀ (n:Nat) (x y:PV) (v:V) (b:Bool),eqP n W.h x y=some b->yda K W x v->yda K W y v->b=true\/Odd K.K W.H
 | 0,_,_,_,_,e,_,_=>by cases e
 | n+1,x,y,v,b,e,rx,ry=>by
  unfold eqP at e
  split at e
  .rename_i u u' hu hu'
   cases e
   rw [<- yfG hu rx,<- yfG hu' ry]
   exact .inl (yhj (by rw [yfG hu rx];exact yjg hu))
  .exact ynQ w (yjh w n) e rx ry
theorem yhC {f:PV->PV->Option Bool}{W:Wd}{n:Nat}(hf:∀ x y v u b,f x y=some b->yda K W x v->yda K W y u->EqR K.K W.H n v u b):∀ {xs ys:List PV}{vs us:List V}{c:Bool},ycL K W xs vs->ycL K W ys us->yhA f xs ys=some c ->
  ∃ e:Nat->Bool,(∀ j v u,vs[j]?=some v->us[j]?=some u->EqR K.K W.H n v u (e j))/\c=(List.range (min vs.length us.length)).all e
 | [],_,_,_,c,h1,_,e=>by
  rw [show _=[] from h1]
  simp [yhA] at e
  exact ⟨fun _=>true,fun j v u hv=>by simp at hv,by simp [e]⟩
 | _::_,[],_,_,c,_,h2,e=>by
  rw [show _=[] from h2]
  simp [yhA] at e
  exact ⟨fun _=>true,fun j v u _ hu=>by simp at hu,by simp [e]⟩
 | x::xs,y::ys,_,_,c,⟨v,r,e1,h1,l1⟩,⟨u,q,e2,h2,l2⟩,e=>by
  subst e1 e2
  unfold yhA at e
  cases eb:f x y with
  | none=>rw [eb] at e;cases e
  | some b =>
   cases ec:yhA f xs ys with
   | none=>rw [eb,ec] at e;cases e
   | some c' =>
    rw [eb,ec] at e
    cases e
    obtain ⟨e',k1,k2⟩:=yhC hf l1 l2 ec
    refine ⟨fun j=>match j with|0=>b|j+1=>e' j,fun j v' u' hv hu=>?_,?_⟩
    .cases j with
     | zero =>
      simp at hv hu
      subst hv hu
      exact hf x y _ _ b eb h1 h2
     | succ j=>exact k1 j v' u' (by simpa using hv) (by simpa using hu)
    .rw [k2,length_cons,length_cons,show min (r.length+1) (q.length+1)=min r.length q.length+1 by omega,List.range_succ_eq_map,List.all_cons,List.all_map]
     rfl
theorem ymW {W:Wd}(w:WOk K W):∀ (n:Nat) (x y:PV) (v u:V) (b:Bool),eqP n W.h x y=some b->yda K W x v->yda K W y u->EqR K.K W.H n v u b
 | 0,_,_,_,_,_,e,_,_=>by cases e
 | n+1,x,y,v,u,b,e,rx,ry=>by
  have e0:=e
  unfold eqP at e
  split at e
  .rename_i v' u' hv hu
   cases e
   rw [yfG hv rx,yfG hu ry]
   exact .flat (yjg hv) (yjg hu)
  .unfold pairE at e
   split at e
   .rename_i xs ys _
    obtain ⟨a,vs,ev,ha,ra⟩:=rx
    obtain ⟨a',us,eu,ha',ra'⟩:=ry
    by_cases hab:a=a'
    .subst hab
     rcases yjh w (n+1) _ _ v b e0 ⟨a,vs,ev,ha,ra⟩ (by rw [ev,<- eu];exact ⟨a,us,eu,ha',ra'⟩) with this|z
     .rw [this,ev,eu]
      exact .same
     .exact .odd z
    .cases ec:yhA (eqP n W.h) xs ys with
     | none=>rw [ec] at e;cases e
     | some c =>
      rw [ec] at e
      cases e
      obtain ⟨e',k1,k2⟩:=yhC (ymW w n) ra ra' ec
      rw [ev,eu,k2,<- ra.len,<- ra'.len]
      exact .tup (ydu w ha) (ydu w ha') hab k1
   .obtain ⟨a',us,eu,ha',ra'⟩:=ry
    cases e
    rw [show v=.non from rx,eu]
    exact .nt (ydu w ha')
   .obtain ⟨a',us,eu,ha',ra'⟩:=rx
    cases e
    rw [show u=.non from ry,eu]
    exact .tn (ydu w ha')
   .split at e
    .rename_i xs ys hx hy
     obtain ⟨a,vs,ev,ha,ra⟩:=ybj w hx rx
     obtain ⟨a',us,eu,ha',ra'⟩:=ybj w hy ry
     by_cases hab:a=a'
     .subst hab
      rcases yjh w (n+1) _ _ v b e0 rx (by rw [ev,<- eu];exact ry) with this|z
      .rw [this,ev,eu]
       exact .same
      .exact .odd z
     .split at e
      .rename_i hl
       obtain ⟨e',k1,k2⟩:=yhC (ymW w n) ra ra' e
       have hl':vs.length=us.length:=by rw [ra.len,ra'.len,hl]
       rw [ev,eu,k2,<- hl',Nat.min_self]
       exact .lst ha ha' hl' hab k1
      .rename_i hl
       cases e
       rw [ev,eu]
       exact .lstN ha ha' (by rw [ra.len,ra'.len];exact hl)
    .cases e
def yxh:P2:=fun x y h=>match pairE (eqP 40 h) h x y with|some b=>some (.bl b,h)|none=>none
def ymX:P2:=fun x y h=>match pairE (eqP 40 h) h x y with|some b=>some (.bl (!b),h)|none=>none
theorem ymY {W:Wd}(w:WOk K W) {x y:PV}{v u:V}{b:Bool}(e:pairE (eqP 40 W.h) W.h x y=some b) (rx:yda K W x v) (ry:yda K W y u):RcR K.K W.H v u b:=by
 unfold pairE at e
 split at e
 .rename_i xs ys
  obtain ⟨a,vs,ev,ha,ra⟩:=rx
  obtain ⟨a',us,eu,ha',ra'⟩:=ry
  cases ec:yhA (eqP 40 W.h) xs ys with
  | none=>rw [ec] at e;cases e
  | some c =>
   rw [ec] at e
   cases e
   obtain ⟨e',k1,k2⟩:=yhC (ymW w 40) ra ra' ec
   rw [ev,eu,k2,<- ra.len,<- ra'.len]
   exact .tup (ydu w ha) (ydu w ha') k1
 .obtain ⟨a',us,eu,ha',ra'⟩:=ry
  cases e
  rw [show v=.non from rx,eu]
  exact .nt (ydu w ha')
 .obtain ⟨a',us,eu,ha',ra'⟩:=rx
  cases e
  rw [show u=.non from ry,eu]
  exact .tn (ydu w ha')
 .split at e
  .rename_i xs ys hx hy
   obtain ⟨a,vs,ev,ha,ra⟩:=ybj w hx rx
   obtain ⟨a',us,eu,ha',ra'⟩:=ybj w hy ry
   split at e
   .rename_i hl
    obtain ⟨e',k1,k2⟩:=yhC (ymW w 40) ra ra' e
    have hl':vs.length=us.length:=by rw [ra.len,ra'.len,hl]
    rw [ev,eu,k2,<- hl',Nat.min_self]
    exact .lst ha ha' hl' k1
   .rename_i hl
    cases e
    rw [ev,eu]
    exact .lstN ha ha' (by rw [ra.len,ra'.len];exact hl)
  .cases e
theorem yzQ:ycB K (yAI K.K) yxh:=by
 intro W x y v u Q z h' w rx ry e q
 unfold yxh at e
 split at e
 .rename_i b hb
  cases e
  exact ⟨b,ymY w hb rx ry,q _ W rfl (.refl w) rfl⟩
 .cases e
theorem ypA:ycB K (yAJ K.K) ymX:=by
 intro W x y v u Q z h' w rx ry e q
 unfold ymX at e
 split at e
 .rename_i b hb
  cases e
  exact ⟨b,ymY w hb rx ry,q _ W rfl (.refl w) rfl⟩
 .cases e
end PX
namespace PX
open PySem L2
variable {K:Ck}
def yeV:XS:=fun _ _=>none
theorem yrQ:yge K yos yeV:=fun _ _ _ _ _ _ _ _ e _=>by cases e
def yl (k:Nat) (m:Str) (f:Fn) (e:XE) (as:XA):XE:=fun ρ h=>ob (e ρ h) fun x h1=>match ygD x h1 with
 | some (k',ns,_)=>if k'=k/\m∉ns then ob (as ρ h1) fun ys h2=>f (x::ys) h2 else none
 | none=>none
theorem ykw {k n:Nat}{m:Str}{f:Fn}{ex:XK}{ta:TE}{t:TA}{ea:XE}{as:XA}(a:ycH K ta ea) (b:ylm K t as) (hn:∀ ρ h xs h',as ρ h=some (xs,h')->xs.length=n) :
  ycH K (ytM (K.A k) m (spE K (n+1) f) [] ex ta t) (yl k m f ea as):=by
 intro W0 W ρ σ Q z h' g e q
 obtain ⟨x,h1,e1,f1⟩:=yh e
 refine a W0 W ρ σ _ x h1 g e1 fun v W1 w1 l1 r1=>?_
 subst w1
 split at f1
 .rename_i k' ns xs hi
  split at f1
  .rename_i hc
   obtain ⟨ys,h2,e2,f2⟩:=yh f1
   obtain ⟨p,dx,vs,ev,hp,hl,rs⟩:=yem l1.ok hi r1
   rw [hc.1] at hp
   refine ⟨p,dx,_,ev,hp,ycv hc.2,?_⟩
   refine b W0 W1 ρ σ _ ys h2 (g.step l1) e2 fun us W2 w2 l2 r2=>?_
   subst w2
   rw [append_nil]
   exact ⟨W2,x::ys,z,h',rfl,l2.ok,⟨v,us,rfl,l2.rep r1,r2⟩,by rw [length_cons,hn _ _ _ _ e2],f2,fun u W3 w3 l3 r3=>q u W3 w3 ((l1.trans l2).trans l3) r3⟩
  .cases f1
 .cases f1
def yeO (cs:List Nat) (f:Str) (eo ev:XE):XS:=fun ρ h=>ob (ev ρ h) fun y h1=>ob (eo ρ h1) fun x h2=>match x with
 | .loc n=>(match h2[n]? with|some (.ins k ns xs)=>if k∈cs/\ns.length<1000 then some (.nx ρ,h2.set n (.ins k (putN f y ns xs).1 (putN f y ns xs).2)) else none|_=>none)
 | _=>none
theorem yrR {cs:List Nat}{f:Str}{ta tv:TE}{ea ev:XE}(hc:∀ k∈cs,Cls K.K (K.A k)/\NoAttr K.K (K.A k) f) (a:ycH K ta ea) (c:ycH K tv ev):yge K (yyD K.K ta tv f) (yeO cs f ea ev):=by
 intro W0 W ρ σ D o h' g e q
 obtain ⟨y,h1,e1,f1⟩:=yh e
 obtain ⟨x,h2,e2,f2⟩:=yh f1
 refine c W0 W ρ σ _ y h1 g e1 fun vy W1 w1 l1 r1=>?_
 subst w1
 refine a W0 W1 ρ σ _ x h2 (g.step l1) e2 fun vx W2 w2 l2 r2=>?_
 subst w2
 have w:=l2.ok
 split at f2
 .rename_i n
  split at f2
  .rename_i k ns xs hn
   split at f2
   .rename_i hk
    cases f2
    obtain ⟨p,ep,hm,hf,dx,us,hp,hl,rs⟩:=w.loc hn r2
    obtain ⟨us',p1,p2,p3⟩:=rs.putN (f:=f) hl (l2.rep r1)
    refine ⟨p,_,dx,_,ep,hp,(hc k hk.1).1,(hc k hk.1).2,by rw [length_zip,hl];simpa using hk.2,?_⟩
    rw [p1]
    have l4:Le K W2 (yyo W2 n p (.ins (K.A k) dx ((putN f y ns xs).1.zip us')) (.ins k (putN f y ns xs).1 (putN f y ns xs).2)):=ylZ w hn hm hf ⟨hf,dx,us',yG,p2,p3⟩
    have l:=l1.trans (l2.trans l4)
    exact q _ σ rfl l.lf (g.step l)
   .cases f2
  .cases f2
 .cases f2
end PX
namespace PX
open PySem L2
variable {K:Ck}
def ymf (r d:Addr):HO:=.ext fun h=>h.get? r=some { cls:=.type "dict_items",data:=.fields #[.ref d] }
noncomputable def ytl:V->List V->Hp->VK->Prop:=fun x vs H Q=>∃ d kvs,x=.ref d/\vs=[]/\H d=some (.dK kvs)/\∀ r,H r=none->Q (.ref r) (upd H r (ymf r d))
noncomputable def ymZ (H:Hp) (as:List Addr) (ts:List (List V)):Hp:=fun b=>match (as.zip ts).lookup b with|some t=>some (.tup t)|none=>H b
def yyp (H:Hp) (p:Addr) (as:List Addr) (ts:List (List V)):Hp:=upd (ymZ H as ts) p (.lst (as.map V.ref))
def rSI:List V->Hp->VK->Prop:=fun xs H Q=>∃ (r d:Addr) (kvs:List (Key×V)) (ns:List Int),xs=[.ref r]/\H r=some (ymf r d)/\H d=some (.dK kvs)/\kvs.map (·.1)=ns.map .inl/\kvs.length<2 /\
 ∀ (p:Addr) (as:List Addr) (q:List Nat),q.Perm (List.range ns.length)->q.Pairwise (fun i j=>ns.getD i 0<=ns.getD j 0)->ns.Nodup->as.length=q.length->(∀ a∈p::as,H a=none)->(p::as).Nodup ->
  Q (.ref p) (yyp H p as (q.map fun i=>[V.int (ns.getD i 0),(kvs.map (·.2)).getD i .non]))
def yvy (p:Int×PV):List (Int×PV)->List (Int×PV)
 | []=>[p]
 | q::r=>if p.1<=q.1 then p::q::r else q::yvy p r
def ypB:List (Int×PV)->List (Int×PV)
 | []=>[]
 | p::r=>yvy p (ypB r)
def yux:List Key->Option (List Int)
 | []=>some []
 | .inl i::r=>(yux r).map (i::·)
 | .inr _::_=>none
theorem yna:∀ {ks:List Key}{ns:List Int},yux ks=some ns->ks=ns.map .inl
 | [],ns,h=>by cases h;rfl
 | .inl i::r,ns,h=>by
  obtain ⟨m,e,rfl⟩:=Option.map_eq_some_iff.mp h
  rw [map_cons,<- yna e]
 | .inr _::_,_,h=>by cases h
theorem yhD (p:Int×PV):∀ l,(yvy p l).Perm (p::l)
 | []=>.refl _
 | q::r=>by
  unfold yvy
  split
  .exact .refl _
  .exact ((yhD p r).cons q).trans (.swap _ _ _)
theorem ygG:∀ l,(ypB l).Perm l
 | []=>.refl _
 | p::r=>(yhD p _).trans ((ygG r).cons p)
theorem ypC {p:Int×PV}:∀ {l:List (Int×PV)},l.Pairwise (fun a b=>a.1<=b.1)->(yvy p l).Pairwise (fun a b=>a.1<=b.1)
 | [],_=>List.pairwise_singleton _ _
 | q::r,h=>by
  obtain ⟨h1,h2⟩:=List.pairwise_cons.mp h
  unfold yvy
  split
  .rename_i hc
   exact List.pairwise_cons.mpr ⟨fun b hb=>by
    rcases mem_cons.mp hb with rfl|hb
    .exact hc
    .exact Int.le_trans hc (h1 b hb),h⟩
  .rename_i hc
   refine List.pairwise_cons.mpr ⟨fun b hb=>?_,ypC h2⟩
   rcases mem_cons.mp ((yhD p r).mem_iff.mp hb) with rfl|hb
   .omega
   .exact h1 b hb
theorem ynb:∀ l,(ypB l).Pairwise (fun a b=>a.1<=b.1)
 | []=>.nil
 | _::r=>ypC (ynb r)
theorem yrS {ns:List Int}{xs:List PV}{q:List Nat}(hl:xs.length=ns.length) (hp:q.Perm (List.range ns.length)) (hs:q.Pairwise fun i j=>ns.getD i 0<=ns.getD j 0) (nd:ns.Nodup) :
  (q.map fun i=>(ns.getD i 0,xs.getD i .non))=ypB (ns.zip xs):=by
 have hz:((List.range ns.length).map fun i=>(ns.getD i 0,xs.getD i .non))=ns.zip xs:=by
  apply List.ext_getElem
  .simp [hl]
  .intro i h1 h2
   have h3:i<ns.length:=by simpa using h1
   simp [getD,List.getElem?_eq_getElem h3,List.getElem?_eq_getElem (show i<xs.length by omega)]
 have hm:(q.map fun i=>(ns.getD i 0,xs.getD i .non)).Perm (ns.zip xs):=by rw [<- hz];exact hp.map _
 have hk:(ns.zip xs).map (·.1)=ns:=List.map_fst_zip (by omega)
 refine List.Perm.eq_of_pairwise (le:=fun a b=>a.1<=b.1) (fun a b ha hb h1 h2=>?_) (List.pairwise_map.mpr hs) (ynb _) (hm.trans (ygG _).symm)
 have ha:=hm.mem_iff.mp ha
 have hb:=(ygG _).mem_iff.mp hb
 obtain ⟨i,hi,rfl⟩:=getElem_of_mem ha
 obtain ⟨j,hj,rfl⟩:=getElem_of_mem hb
 have hi':i<ns.length:=by rw [length_zip] at hi;omega
 have hj':j<ns.length:=by rw [length_zip] at hj;omega
 have e:ns[i]=ns[j]:=by
  have:((ns.zip xs)[i]).1=((ns.zip xs)[j]).1:=Int.le_antisymm h1 h2
  simpa using this
 have:=ypt nd hi' hj' e
 subst this
 rfl
def yAK (W:Wd) (as:List Addr) (ts:List (List V)):Wd:=⟨ymZ W.F as ts,ymZ W.H as ts,W.m,W.h⟩
theorem lookup_mem {α:Type}:∀ {as:List Addr}{ts:List α}{b:Addr}{t:α},(as.zip ts).lookup b=some t->b∈as
 | [],_,_,_,h=>by simp at h
 | _::_,[],_,_,h=>by simp at h
 | a::as,u::ts,b,t,h=>by
  rw [zip_cons_cons,lookup_cons] at h
  split at h
  .rename_i hb;rw [eq_of_beq hb];exact mem_cons_self
  .exact mem_cons_of_mem _ (lookup_mem h)
theorem ygH {H:Hp}{as:List Addr}{ts:List (List V)}{b:Addr}(h:b∉as):ymZ H as ts b=H b:=by
 unfold ymZ
 split
 .rename_i e;exact absurd (lookup_mem e) h
 .rfl
theorem yuy {W:Wd}{as:List Addr}{ts:List (List V)}(w:WOk K W) (h:∀ a∈as,W.H a=none):Le K W (yAK W as ts):=by
 have nm:∀ a∈as,a∉W.m:=fun a ha=>w.out (h a ha)
 have sF:Same W.F (ymZ W.F as ts):=fun b o e=>by
  rw [ygH fun z=>by rw [w.ff (h b z)] at e;cases e];exact e
 have sH:Same W.H (ymZ W.H as ts):=fun b o e=>by
  rw [ygH fun z=>by rw [h b z] at e;cases e];exact e
 refine ⟨⟨?_,w.len,w.nd,fun n d a e1 e2=>?_⟩,sF,prefix_refl _,fun b u e _=>sH b u e,fun b u e _ f=>?_,fun b z n=>absurd z n,fun n ks xs e1=>⟨e1,fun a e2=>ygH fun z=>nm a z (mem_of_getElem? e2)⟩⟩
 .intro b u e
  have e:ymZ W.F as ts b=some u:=e
  show ymZ W.H as ts b=some u
  unfold ymZ at e ⊢
  split at e
  .exact e
  .exact w.le _ _ e
 .have ha:a∉as:=fun z=>nm a z (mem_of_getElem? e2)
  exact (w.at_ n d a e1 e2).mono sF (prefix_refl _) (fun u e=>sH _ _ e) fun f=>(ygH ha).trans f
 .exact (ygH fun z=>by rw [h b z] at e;cases e).trans f
theorem ykx {F:Hp}{m:List Addr}{Y:Nat->PV}{T:Nat->List V}{Z:Nat->List PV}(hY:∀ i,Y i=.tup (Z i)):∀ (as:List Addr) (q:List Nat),as.length=q.length->as.Nodup->(∀ a∈as,∀ i,i∈q->(as.zip (q.map T)).lookup a=some (T i)->F a=some (.tup (T i))) ->
  (∀ i∈q,RepL K F m (Z i) (T i))->RepL K F m (q.map Y) (as.map V.ref)
 | [],[],_,_,_,_=>rfl
 | [],_::_,h,_,_,_=>by cases h
 | _::_,[],h,_,_,_=>by cases h
 | a::as,i::q,hl,hn,hF,hR=>by
  obtain ⟨n1,n2⟩:=List.nodup_cons.mp hn
  refine ⟨.ref a,_,rfl,?_,ykx hY as q (by simpa using hl) n2 (fun b hb j hj e=>?_) fun j hj=>hR j (mem_cons_of_mem _ hj)⟩
  .rw [hY]
   exact ⟨a,T i,rfl,.inl (hF a mem_cons_self i mem_cons_self (by simp)),hR i mem_cons_self⟩
  .refine hF b (mem_cons_of_mem _ hb) j (mem_cons_of_mem _ hj) ?_
   rw [map_cons,zip_cons_cons,lookup_cons]
   have:(b == a)=false:=beq_eq_false_iff_ne.mpr fun z=>n1 (z ▸ hb)
   rw [this]
   exact e
noncomputable def sortI (ks:List Key) (xs:List PV):Option (List PV):=match yux ks with|some ns=>if ns.length<2 then some ((ypB (ns.zip xs)).map fun p=>.tup [.int p.1,p.2]) else none|none=>none
def yky (e:XE):XO:=fun ρ h=>ob (e ρ h) fun x h1=>match ypv x h1 with|some (ks,xs)=>(match sortI ks xs with|some l=>some (.lst l,h1)|none=>none)|none=>none
theorem yxi {W:Wd}{x:PV}{v:V}{ks:List Key}{xs:List PV}(w:WOk K W) (e:ypv x W.h=some (ks,xs)) (r:yda K W x v):tyV K.K "dict" v W.H:=by
 obtain ⟨a,vs,rfl,hp,_⟩:=ykt w e r
 exact .inr (.inr (.inl ⟨rfl,.inl ⟨_,hp⟩⟩))
theorem ypD {ta:TE}{ea:XE}(a:ycH K ta ea):yln K (tCB rSI (yls (yAy K.K "dict" ytl ta) ysU)) (yky ea):=by
 intro W0 W ρ σ Q z h' g e q
 obtain ⟨x,h1,e1,f1⟩:=yh e
 refine a W0 W ρ σ _ x h1 g e1 fun v W1 w1 l1 r1=>?_
 subst w1
 split at f1
 .rename_i ks xs hd
  split at f1
  .rename_i l hl
   cases f1
   refine ⟨yxi l1.ok hd r1,?_⟩
   obtain ⟨d,vs,ev,hp,hvl,rs⟩:=ykt l1.ok hd r1
   subst ev
   refine ⟨d,_,rfl,rfl,hp,fun r hr=>?_⟩
   unfold sortI at hl
   split at hl
   .rename_i ns hk
    split at hl
    .rename_i h64
     cases hl
     have hk:=yna hk
     have l2:=ycp (o:=ymf r d) l1.ok hr
     have hnl:ks.length=ns.length:=by rw [hk,length_map]
     have hxl:xs.length=ns.length:=by rw [<- rs.len];omega
     show rSI [.ref r] (upd W1.H r (ymf r d)) Q
     refine ⟨r,d,ks.zip vs,ns,rfl,yG,(yU (ybQ hp hr)).trans hp,by rw [List.map_fst_zip (by omega),hk],by rw [length_zip];omega,fun p as o hperm hs nd hal hfree hnd=>?_⟩
     rw [List.map_snd_zip (by omega)]
     generalize hW2:yfs W1 r (ymf r d)=W2 at l2
     have hH2:W2.H=upd W1.H r (ymf r d):=by rw [<- hW2];rfl
     rw [<- hH2] at hfree ⊢
     have l3:=yuy (ts:=o.map fun i=>[V.int (ns.getD i 0),vs.getD i .non]) l2.ok fun a ha=>hfree a (mem_cons_of_mem _ ha)
     obtain ⟨n1,n2⟩:=List.nodup_cons.mp hnd
     have hp3:(yAK W2 as (o.map fun i=>[V.int (ns.getD i 0),vs.getD i .non])).H p=none:=(ygH n1).trans (hfree p mem_cons_self)
     have l4:=ycp (o:=.lst (as.map V.ref)) l3.ok hp3
     have l:=l2.trans (l3.trans l4)
     have inq:∀ i∈o,i<ns.length:=fun i hi=>by have:=hperm.mem_iff.mp hi;simpa using this
     refine q p _ (by rw [<- hW2];rfl) (l1.trans l) (l3.ok.out hp3) ((l1.trans l2).fresh (hfree p mem_cons_self)) (fun z=>by cases z) ⟨l3.ok.ff hp3,_,yG,?_⟩
     rw [<- yrS hxl hperm hs nd,map_map]
     refine ykx (T:=fun i=>[V.int (ns.getD i 0),vs.getD i .non]) (Z:=fun i=>[.int (ns.getD i 0),xs.getD i .non]) (fun i=>rfl) as o hal n2 (fun a ha i hi e=>?_) fun i hi=>⟨_,_,rfl,rfl,_,_,rfl,?_,rfl⟩
     .show ymZ W2.F as _ a=_
      unfold ymZ
      rw [e]
     .have hi':=inq i hi
      obtain ⟨u,h3,h4⟩:=(l2.trans (l3.trans l4)).repL rs |>.get (List.getElem?_eq_getElem (show i<xs.length by omega))
      have e5:xs.getD i .non=xs[i]'(by omega):=by simp [getD,List.getElem?_eq_getElem (show i<xs.length by omega)]
      have e6:vs.getD i .non=u:=by simp [getD,h3]
      rw [e5,e6]
      exact h4
    .cases hl
   .cases hl
  .cases f1
 .cases f1
end PX
namespace PX
open PySem L2
variable {K:Ck}
def ynR (n:Nat) (rev:Bool) (g:XG) (s:XS):Nat->Nat->PSt->AH->Option (Out×AH)
 | 0,i,ρ,h=>match h[n]? with|some (.lst xs)=>if xs.length=i then some (.nx ρ,h) else none|_=>none
 | k+1,i,ρ,h=>match h[n]? with
  | some (.lst xs)=>(match xs[if rev then k else i]? with
   | some x=>(g x ρ).bind fun ρ1=>ob (s ρ1 h) fun o h1=>match o with|.nx ρ'=>ynR n rev g s k (i+1) ρ' h1|.ct ρ'=>ynR n rev g s k (i+1) ρ' h1|.bk ρ'=>some (.nx ρ',h1)|.rt y=>some (.rt y,h1)
   | none=>none)
  | _=>none
def yrT (rev:Bool) (e:XE) (g:XG) (s:XS):XS:=fun ρ h=>ob (e ρ h) fun x h1=>match x with
 | .loc n=>(match h1[n]? with|some (.lst xs)=>ynR n rev g s xs.length 0 ρ h1|_=>none)
 | _=>none
structure ItX (K:Ck) (n:Nat) (rev:Bool) (m:Nat) (a:Addr) (J:It):Prop where
 go:∀ (i:Nat) (H:Hp) (vs:List V) (v:V),H a=some (.lst vs)->i<m->vs[if rev then m-1-i else i]?=some v->J.go i H
 yld:∀ (i:Nat) (H:Hp) (vs:List V) (v:V) (H2:Hp),H a=some (.lst vs)->i<m->J.yld i H v H2->H2=H/\vs[if rev then m-1-i else i]?=some v
 stop:∀ (H:Hp) (vs:List V),H a=some (.lst vs)->vs.length=m->J.stop m H
section
variable {ta:TE}{ea:XE}{t:TS}{s:XS}
theorem ypE {n:Nat}{xs:List PV}{p:Addr}{us:List V}{J:It}{rev:Bool}{g:TG}{y:XG}(b:yro K g y) (c:yge K t s) {W0 W W1:Wd}{ρ:PSt}{σ:St}{D:Ends}{o:Out}{h':AH}(gd:Good K W0 W ρ σ) (l1:Le K W W1) (q:Ends.Ok K W0 W D h' o)
  (f1:ynR n rev y s xs.length 0 ρ W1.h=some (o,h')) (hn:W1.h[n]?=some (.lst xs)) (hm:W1.m[n]?=some p) (rs:ycL K W1 xs us) (J1:ItX K n rev us.length p J) :
  ∃ Z:Nat->Nat->St->Hp->Prop,(∃ m,Z 0 m σ W1.H)/\∀ i m σ H,Z i m σ H ->
   (J.stop i H/\D.nx σ H)\/(J.go i H/\∃ N:St->Hp->Prop,(∀ σ' H',N σ' H'->∃ m',m'<m/\Z (i+1) m' σ' H')/\∀ x H',J.yld i H x H'->g x σ H' fun σ2 H2=>t { D with nx:=N,ct:=N,bk:=D.nx } σ2 H2):=by
   have q1:=q.from_ l1.lf
   have hul:us.length=xs.length:=rs.len
   rw [hul] at J1
   refine ⟨fun i m σ H=>m=xs.length-i/\i<=xs.length/\∃ W' ρ',W'.H=H/\Lf K W1 W'/\Good K W0 W' ρ' σ/\ynR n rev y s (xs.length-i) i ρ' W'.h=some (o,h'),⟨_,rfl,zero_le _,W1,ρ,rfl,.refl,gd.step l1,f1⟩,?_⟩
   rintro i m σ _ ⟨rfl,hi,W',ρ',rfl,l,g',f⟩
   have hm':W'.m[n]?=some p:=yeU l.pre hm
   by_cases hlt:i<xs.length
   .obtain ⟨k,hk⟩:∃ k,xs.length-i=k+1:=⟨xs.length-i-1,by omega⟩
    rw [hk] at f
    unfold ynR at f
    split at f
    .rename_i ys hy
     split at f
     .rename_i z hz
      obtain ⟨p',ev',hm2,hf',vs,hp',rs'⟩:=g'.ok.loc hy (v:=.ref p) ⟨p,rfl,hm'⟩
      cases ev'
      have hix:(if rev=true then xs.length-1-i else i)=(if rev=true then k else i):=by rw [show xs.length-1-i=k by omega]
      obtain ⟨vz,hv1,hv2⟩:=rs'.get hz
      obtain ⟨ρ1,k1,f⟩:=Option.bind_eq_some_iff.mp f
      obtain ⟨o1,h2,k2,f3⟩:=yh f
      refine .inr ⟨J1.go i W'.H vs vz hp' hlt (by rw [hix];exact hv1),fun σ2 H2=>i+1<=xs.length/\∃ W2 ρ2,W2.H=H2/\Lf K W1 W2/\Good K W0 W2 ρ2 σ2/\ynR n rev y s (xs.length-(i+1)) (i+1) ρ2 W2.h=some (o,h'),fun σ2 H2 ⟨n1,n2⟩=>⟨xs.length-(i+1),by omega,rfl,n1,n2⟩,fun v H2 hy=>?_⟩
      obtain ⟨rfl,hx⟩:=J1.yld i W'.H vs v H2 hp' hlt hy
      rw [hix,hv1] at hx
      cases hx
      have ek:xs.length-(i+1)=k:=by omega
      refine b W0 W' ρ' ρ1 σ _ vz _ g' hv2 k1 fun σ2 g2=>?_
      refine c W0 W' ρ1 σ2 _ o1 h2 g2 k2 ?_
      cases o1 with
      | nx ρ2=>exact fun W2 σ3 w2 l2 g3=>⟨hlt,W2,ρ2,rfl,l.trans l2,g3,by rw [w2,ek];exact f3⟩
      | ct ρ2=>exact fun W2 σ3 w2 l2 g3=>⟨hlt,W2,ρ2,rfl,l.trans l2,g3,by rw [w2,ek];exact f3⟩
      | bk ρ2=>cases f3;exact fun W2 σ3 w2 l2 g3=>q1 W2 σ3 w2 (l.trans l2) g3
      | rt x=>cases f3;exact q1
     .cases f
    .cases f
   .have ei:i=xs.length:=by omega
    subst ei
    rw [Nat.sub_self] at f
    unfold ynR at f
    split at f
    .rename_i ys hy
     obtain ⟨p',ev',hm2,hf',vs,hp',rs'⟩:=g'.ok.loc hy (v:=.ref p) ⟨p,rfl,hm'⟩
     cases ev'
     split at f
     .rename_i hyl
      cases f
      exact .inl ⟨J1.stop W'.H vs hp' (by rw [rs'.len,hyl]),q1 W' σ rfl l g'⟩
     .cases f
    .cases f
theorem yzR {n m:Nat}{a:Addr}:ItX K n false m a (Itl K.K a) where
 go:=fun i H vs v h _ e=>⟨vs,v,SqL.of h,e⟩
 yld:=fun i H vs v H2 h _ e=>⟨e.1,e.2 vs (SqL.of h)⟩
 stop:=fun H vs h e=>⟨vs,SqL.of h,le_of_eq e⟩
theorem yrU {g:TG}{y:XG}(a:ycH K ta ea) (b:yro K g y) (c:yge K t s):yge K (yyy (yqL K.K ta) g t) (yrT false ea y s):=by
 intro W0 W ρ σ D o h' gd e q
 obtain ⟨x,h1,e1,f1⟩:=yh e
 refine a W0 W ρ σ _ x h1 gd e1 fun v W1 w1 l1 r1=>?_
 subst w1
 split at f1
 .rename_i n
  split at f1
  .rename_i xs hn
   obtain ⟨p,ev,hm,hf,us,hp,rs⟩:=l1.ok.loc hn r1
   exact ⟨p,ev,⟨us,SqL.of hp⟩,ypE b c gd l1 q f1 hn hm rs yzR⟩
  .cases f1
 .cases f1
end
end PX
namespace PX
open PySem L2
variable {K:Ck}
end PX
namespace PX
open PySem L2
variable {K:Ck}
noncomputable def yxj (J:It) (tc:TT) (te:TE) (inn:V->St) (D:Addr) (Q:VK) (H:Hp):Prop:=∃ W:Nat->Nat->Hp->Prop,(∃ m,W 0 m H)/\∀ i m H,W i m H ->
 (J.stop i H/\Q (.ref D) H)\/(J.go i H/\∀ x H',J.yld i H x H'->tc (inn x) H' fun b H1=>if b=true then te (inn x) H1 fun y H2=>∃ acc,H2 D=some (.lst acc)/\acc.length<sizeLine/\∃ m',m'<m/\W (i+1) m' (upd H2 D (.lst (acc++[y]))) else ∃ m',m'<m/\W (i+1) m' H1)
def yiv (wi:TI) (ix:List Nat) (tc:TT) (te:TE):TE:=fun σ H Q=>wi σ H fun J H1=>∀ D,H1 D=none->yxj J tc te (inner ix σ) D Q (upd H1 D (.lst []))
def yuz (c:XT) (e:XE) (inn:PV->PSt):List PV->AH->Option (List PV×AH)
 | [],h=>some ([],h)
 | x::xs,h=>ob (c (inn x) h) fun b h1=>if b=true then ob (e (inn x) h1) fun y h2=>ob (yuz c e inn xs h2) fun ys h3=>some (y::ys,h3) else yuz c e inn xs h1
def ykz (it:XA) (ix:List Nat) (c:XT) (e:XE):XO:=fun ρ h=>ob (it ρ h) fun xs h1=>if xs.length<100000 then ob (yuz c e (yga ix ρ) xs h1) fun ys h2=>some (.lst ys,h2) else none
theorem ypF {ta:TE}{ea:XE}{tA:TT}{eA:XT}{wi:TI}{it:XA}(ix:List Nat) (a:yrt K wi it) (c:yjK K tA eA) (b:ycH K ta ea):yln K (yiv wi ix tA ta) (ykz it ix eA ea):=by
 intro W0 W ρ σ Q d h' gd e q
 obtain ⟨xs,h1,e1,f1⟩:=yh e
 split at f1
 .rename_i hlen
  obtain ⟨zs,h2,e2,f2⟩:=yh f1
  cases f2
  refine a W0 W ρ σ _ xs h1 gd e1 fun J W1 w1 l1 J1=>?_
  subst w1
  intro D hD
  have nm:=l1.ok.out hD
  have nf:=l1.ok.ff hD
  refine ⟨fun i m H=>m=xs.length-i/\i<=xs.length/\∃ W' acc done rest,W'.H=H/\Le K W1 W'/\D∉W'.m/\W'.F D=none/\H D=some (.lst acc)/\ycL K W' done acc/\done.length<=i/\zs=done++rest/\yuz eA ea (yga ix ρ) (xs.drop i) W'.h=some (rest,h'),⟨_,rfl,zero_le _,yfs W1 D (.lst []),[],[],zs,rfl,ycp l1.ok hD,nm,nf,yG,rfl,Nat.le_refl _,rfl,by rw [List.drop_zero];exact e2⟩,?_⟩
  rintro i m _ ⟨rfl,hi,W',acc,done,rest,rfl,l,n1,n2,hd,rd,ld,ez,f⟩
  by_cases hlt:i<xs.length
  .rw [List.drop_eq_getElem_cons hlt] at f
   obtain ⟨k0,h0,k00,f0⟩:=yh f
   refine .inr ⟨J1.go i W' l.lf l.ok hlt,fun v H2 hy=>?_⟩
   obtain ⟨rfl,x,hx,rx⟩:=J1.yld i W' v H2 l.lf l.ok hlt hy
   rw [List.getElem?_eq_getElem hlt] at hx
   cases hx
   refine c W' W' _ _ _ k0 h0 (ygg gd (l1.trans l) ix rx) k00 fun W0' w0' l0=>?_
   subst w0'
   have hd0:=l0.keep _ _ hd n1
   have nm0:D∉W0'.m:=fun z=>by rw [l0.mn D z n1] at hd;cases hd
   have nf0:W0'.F D=none:=l0.new D _ hd n1 n2
   cases k0 with
   | false =>
    rw [if_neg (by decide)] at f0 ⊢
    exact ⟨xs.length-(i+1),by omega,rfl,hlt,W0',acc,done,rest,rfl,l.trans l0,nm0,nf0,hd0,l0.repL rd,by omega,ez,f0⟩
   | true =>
   rw [if_pos rfl] at f0 ⊢
   obtain ⟨y,h3,k1,f3⟩:=yh f0
   obtain ⟨ys,h4,k2,f4⟩:=yh f3
   cases f4
   refine b W0' W0' _ _ _ y h3 (ygg gd (l1.trans (l.trans l0)) ix (l0.rep rx)) k1 fun w W2 w2 l2 r2=>?_
   have nm2:D∉W2.m:=fun z=>by rw [l2.mn D z nm0] at hd0;cases hd0
   have nf2:W2.F D=none:=l2.new D _ hd0 nm0 nf0
   refine ⟨acc,l2.keep _ _ hd0 nm0,?_,xs.length-(i+1),by omega,rfl,hlt,yok W2 D (.lst (acc++[w])),acc++[w],done++[y],ys,rfl,ygC ((l.trans l0).trans l2) nm2 nf2 hD,nm2,nf2,yG,((l0.trans l2).repL rd).snoc r2,by simp;omega,by simp [ez],?_⟩
   .rw [rd.len];exact big (by omega)
   .show yuz eA ea (yga ix ρ) (xs.drop (i+1)) W2.h=some (ys,h')
    rw [w2];exact k2
  .have ei:i=xs.length:=by omega
   subst ei
   rw [List.drop_length] at f
   cases f
   refine .inl ⟨J1.stop W' l.lf l.ok,?_⟩
   rw [append_nil] at ez
   subst ez
   exact q D W' rfl (l1.trans l) n1 (l1.fresh hD) (fun z=>by cases z) ⟨n2,acc,hd,rd⟩
 .cases f1
end PX
namespace PX
open PySem L2
variable {K:Ck}
end PX
namespace PX
open PySem L2
variable {K:Ck}
section
variable {ta:TE}{ea:XE}{t:TS}{s:XS}
end
end PX
namespace PX
open PySem L2
variable {K:Ck}
def spJ (K:Ck) (n k:Nat) (f:List PV->AH->Option (Nd×AH)):Sp:=fun vs H Q _=>∃ (W0 W:Wd) (x:Addr) (args:List V) (xs:List PV) (d:Nd) (h':AH),vs=.ref x::args/\W.H=H/\Le K W0 W/\W0.H x=none/\x∉W.m/\NdAt K W.F W.H W.m (.ins k [] []) x /\
 ycL K W xs args/\xs.length=n/\f xs W.h=some (d,h')/\∀ W',W'.h=h'->Lf K W W'->Le K W0 W'->x∉W'.m->d≠.dead->NdAt K W'.F W'.H W'.m d x->Q .non W'.H
theorem yuA {n k:Nat}{f} {vs:List V}{H:Hp}{Q:VK}{E:XK}(h:spJ K n k f vs H Q E):vs.length=n+1:=by
 obtain ⟨W0,W,x,args,xs,d,h',rfl,_,_,_,_,_,r,hn,_⟩:=h
 rw [length_cons,r.len,hn]
theorem ypG {N:List Str}{n k:Nat}{t:TS}{s:XS}{vs:List V}{H:Hp}{Q:VK}{E:XK}{bk ct:St->Hp->Prop}(hN:n+1<=N.length) (a:yqG K t s) (h:spJ K n k (ylo N.length k s) vs H Q E):t ⟨fun _ H'=>Q .non H',Q,bk,ct⟩ (L2.start N vs) H:=by
 obtain ⟨W0,W,x,args,xs,d,h',rfl,rfl,le,hx,hm,at_,r,hn,e,q⟩:=h
 obtain ⟨o,h1,e1,f1⟩:=yh e
 have gs:=yft (K:=K) (N:=N.drop 1) le.ok r
 have g:Good K W0 W (.own (.ins k [] [])::(xs.map .val++replicate (N.length-(xs.length+1)) .no)) (L2.start N (.ref x::args)):=by
  have es:L2.start N (.ref x::args)=some (.ref x)::L2.start (N.drop 1) args:=by
   have e3:N.length-(args.length+1)=(N.drop 1).length-args.length:=by rw [length_drop];omega
   unfold L2.start
   rw [map_cons,List.cons_append,length_cons,e3]
  have eN:N.length-(xs.length+1)=(N.drop 1).length-xs.length:=by rw [length_drop];omega
  rw [es,eN]
  have noown:∀ (j:Nat) (d:Nd),(xs.map PVar.val++replicate ((N.drop 1).length-xs.length) .no)[j]?≠some (.own d):=fun j d z=>by
   by_cases hj:j<xs.length
   .rw [getElem?_append_left (by simpa using hj),getElem?_map,List.getElem?_eq_getElem hj] at z
    cases z
   .rw [getElem?_append_right (by simp;omega),getElem?_replicate] at z
    split at z<;>cases z
  refine ⟨le,by rw [length_cons,length_cons,gs.len],fun j y z=>?_,fun j d z=>?_,fun i j d d' hij z z'=>?_⟩
  .cases j with
   | zero=>cases z
   | succ j=>exact gs.val j y z
  .cases j with
   | zero=>cases z;exact ⟨x,rfl,hm,hx,(fun z=>by cases z),at_⟩
   | succ j=>exact absurd z (noown j d)
  .cases i with
   | zero =>
    cases j with
    | zero=>exact absurd rfl hij
    | succ j=>exact absurd z' (noown j d')
   | succ i=>exact absurd z (noown i d)
 cases o with
 | rt y=>cases f1
 | bk ρ=>cases f1
 | ct ρ=>cases f1
 | nx ρ =>
  refine a W0 W _ ρ _ _ h1 g e1 fun W' ew lf g'=>?_
  dsimp only at f1
  split at f1
  .rename_i d' hd'
   cases f1
   obtain ⟨p,b1,b2,b3,b4,b5⟩:=g'.own 0 _ hd'
   have b1:some (some (V.ref x))=some (some (V.ref p)):=b1
   cases b1
   exact q W' ew lf g'.le b2 b4 b5
  .cases f1
def yxk:PVar->Bool|.own _=>false|_=>true
def xBI (k:Nat) (f:List PV->AH->Option (Nd×AH)) (a:XA):XS:=fun ρ h=>match ρ with
 | .own (.ins k' [] [])::r=>if k'=k/\r.all yxk=true then ob (a ρ h) fun xs h1=>ob (f xs h1) fun d h2=>(match d with|.dead=>none|d=>some (.nx (.own d::r),h2)) else none
 | _=>none
theorem yuB {n k:Nat}{f} {E:XK}{t:TA}{aa:XA}(a:ylm K t aa) (hn:∀ ρ h xs h',aa ρ h=some (xs,h')->xs.length=n):yqG K (yor (yqQ (spJ K n k f) [] E (yls (yny 0) t))) (xBI k f aa):=by
 intro W0 W ρ ρ' σ D h' g e q
 unfold xBI at e
 split at e
 .rename_i k' r
  split at e
  .rename_i c
   obtain ⟨rfl,hr⟩:=c
   obtain ⟨xs,h1,e1,f1⟩:=yh e
   obtain ⟨d,h2,e2,f2⟩:=yh f1
   have nodead:d≠.dead:=fun z=>by subst z;cases f2
   have f2:some (Out.nx (.own d::r),h2)=some (.nx ρ',h'):=by
    cases d<;>first|exact f2|cases f2
   cases f2
   obtain ⟨p,b1,b2,b3,b4,b5⟩:=g.own 0 _ rfl
   refine ⟨.ref p,b1,?_⟩
   refine a W0 W _ σ _ xs h1 g e1 fun vs W1 w1 l1 r1=>?_
   subst w1
   have g1:=g.step l1
   obtain ⟨p',c1,c2,c3,c4,c5⟩:=g1.own 0 _ rfl
   rw [b1] at c1
   cases c1
   rw [append_nil]
   refine ⟨W0,W1,p,vs,xs,d,h',rfl,rfl,g1.le,c3,c2,c5,r1,hn _ _ _ _ e1,e2,fun W2 w2 lf le hm hd at_=>?_⟩
   refine q W2 w2 (l1.lf.trans lf) ⟨le,g1.len,fun j y z=>?_,fun j d' z=>?_,fun i j d1 d2 hij z1 z2=>?_⟩
   .cases j with
    | zero=>cases z
    | succ j =>
     obtain ⟨v,z1,z2⟩:=g1.val (j+1) y z
     exact ⟨v,z1,lf.rep z2⟩
   .cases j with
    | zero=>cases z;exact ⟨p,b1,hm,c3,hd,at_⟩
    | succ j =>
     have z:r[j]?=some (.own d'):=z
     have:=List.all_eq_true.mp hr _ (mem_of_getElem? z)
     cases this
   .cases i with
    | zero =>
     cases j with
     | zero=>exact absurd rfl hij
     | succ j =>
      have z:r[j]?=some (.own d2):=z2
      have:=List.all_eq_true.mp hr _ (mem_of_getElem? z)
      cases this
    | succ i =>
     have z:r[i]?=some (.own d1):=z1
     have:=List.all_eq_true.mp hr _ (mem_of_getElem? z)
     cases this
  .cases e
 .cases e
theorem yrV {a:Addr}{ss:List Str}(h:KTp K.K a (ss.map V.str)):ycH K (tC (.ref a)) (xC (.tup (ss.map PV.str))):=by
 intro W0 W ρ σ Q x h' g e q
 cases e
 refine q _ W rfl (.refl g.ok) ⟨a,_,rfl,.inr h,?_⟩
 clear h q
 induction ss with
 | nil=>exact rfl
 | cons s ss ih=>exact ⟨_,_,rfl,rfl,ih⟩
end PX
namespace PX
open PySem L2
variable {K:Ck}
end PX
namespace PX
open PySem L2
variable {K:Ck}
end PX
namespace PX
open PySem L2
variable {K:Ck}
noncomputable def ypH (c:Nat):List Nat->List (List Nat)
 | []=>[[]]
 | k::r=>if k=c then []::ypH c r else match ypH c r with|[]=>[[k]]|w::ws=>(k::w)::ws
theorem ykA {c:Nat}:∀ {w:List Nat},c∉w->ypH c w=[w]
 | [],_=>rfl
 | k::r,h=>by
  have h1:k≠c:=fun z=>h (z ▸ mem_cons_self ..)
  unfold ypH
  rw [if_neg h1,ykA fun z=>h (mem_cons_of_mem _ z)]
theorem ync {c:Nat}:∀ {w r:List Nat},c∉w->ypH c (w++c::r)=w::ypH c r
 | [],r,_=>by
  rw [List.nil_append]
  show (if c=c then []::ypH c r else _)=_
  rw [if_pos rfl]
 | k::w,r,h=>by
  have h1:k≠c:=fun z=>h (z ▸ mem_cons_self ..)
  rw [List.cons_append]
  show (if k=c then []::ypH c (w++c::r) else match ypH c (w++c::r) with|[]=>[[k]]|w::ws=>(k::w)::ws)=_
  rw [if_neg h1,ync fun z=>h (mem_cons_of_mem _ z)]
def yom (z:Str):List Str:=(ypH 32 z.cps.toList).map fun w=>⟨w.toArray⟩
theorem ykB:∀ (ws:List Str),ws≠[]->(∀ w∈ws,32∉w.cps.toList)->yom (Str.join " " ws)=ws
 | [],h,_=>absurd rfl h
 | [w],_,h=>by
  have h1:=ykA (h w (List.mem_singleton.mpr rfl))
  show (ypH 32 w.cps.toList).map _=_
  rw [h1];rfl
 | w::v::r,_,h=>by
  have ih:=ykB (v::r) (fun z=>by cases z) fun u hu=>h u (mem_cons_of_mem _ hu)
  show yom (w++" "++Str.join " " (v::r))=_
  have e:(w++(" ":Str)++Str.join " " (v::r)).cps.toList=w.cps.toList++32::(Str.join " " (v::r)).cps.toList:=by
   show (w.cps++(" ":Str).cps++(Str.join " " (v::r)).cps).toList=_
   rw [show (" ":Str).cps = #[32] by rfl']
   simp
  unfold yom at ih ⊢
  rw [e,ync (h w (mem_cons_self ..)),map_cons,ih]
def ytm:V->List V->Hp->VK->Prop:=fun x vs H Q=>∃ z:Str,x=.str z/\vs=[.str " "]/\z.length<=100000/\∀ p,H p=none->Q (.ref p) (upd H p (.lst ((yom z).map V.str)))
def ykC:PM:=fun x xs h=>match x,xs with|.str z,[.str y]=>if y = " "/\z.length<=100000 then some (.lst ((yom z).map .str),h) else none|_,_=>none
theorem RepL.of_strs {F:Hp}{m:List Addr}:∀ (ts:List Str),RepL K F m (ts.map PV.str) (ts.map V.str)
 | []=>rfl
 | _::ts=>⟨_,_,rfl,rfl,RepL.of_strs ts⟩
theorem m_split:yrf K "str" isStr ytm ykC:=by
 refine ⟨fun W x v w r c=>?_,fun W x v xs vs Q z h' w rx r e q=>?_⟩
 .unfold isStr at c
  split at c
  .rw [show v=_ from r];rfl
  .cases c
 .unfold ykC at e
  split at e
  .rename_i z y
   split at e
   .rename_i c
    cases e
    obtain ⟨u,rfl,ru⟩:=ypp r
    have ru:u=.str y:=ru
    refine ⟨z,rx,by rw [ru,c.1],c.2,fun p hp=>?_⟩
    have l2:=ylR (o:=.lst ((yom z).map V.str)) w hp
    exact q (.ref p) (ytd W p (.lst ((yom z).map V.str))) rfl l2 ⟨p,_,rfl,yG,RepL.of_strs _⟩
   .cases e
  .cases e
theorem yuC {z:Str}{h:AH}(e:z.length<=100000):ykC (.str z) [.str " "] h=some (.lst ((yom z).map .str),h):=by
 unfold ykC;exact if_pos ⟨rfl,e⟩
variable {t:TS}{s:XS}
end PX
namespace PX
open PySem L2
variable {K:Ck}
section
variable {F H:Hp}{m:List Addr}
end
variable {t:TA}{e:XA}
end PX
namespace PX
open PySem L2
variable {K:Ck}
end PX
namespace PX
open PySem L2
variable {K:Ck}
theorem yxl {W W1:Wd}(l1:Le K W W1) {p:Addr}{d:Nd}(hm:p∉W1.m) (hn:W.H p=none) (at_:NdAt K W1.F W1.H W1.m d p):Le K W ⟨W1.F,W1.H,W1.m++[p],W1.h++[d]⟩/\yda K ⟨W1.F,W1.H,W1.m++[p],W1.h++[d]⟩ (.loc W1.h.length) (.ref p):=by
 have pre:W1.m <+: W1.m++[p]:=List.prefix_append _ _
 refine ⟨⟨⟨l1.ok.le,?_,?_,fun n d' a e1 e2=>?_⟩,l1.fs,l1.pre.trans pre,l1.keep,l1.new,fun b z n=>?_,fun n ks xs e1=>⟨by
  have:=(l1.fz n ks xs e1).1
  show (W1.h++[d])[n]?=_
  rw [getElem?_append_left (List.getElem?_eq_some_iff.mp this).1];exact this,(l1.fz n ks xs e1).2⟩⟩,⟨p,rfl,?_⟩⟩
 .show (W1.m++[p]).length=(W1.h++[d]).length
  rw [length_append,length_append,l1.ok.len];rfl
 .show (W1.m++[p]).Nodup
  rw [List.nodup_append]
  refine ⟨l1.ok.nd,by simp,?_⟩
  intro a ha b hb
  simp at hb
  subst hb
  exact fun z=>hm (z ▸ ha)
 .have e1:(W1.h++[d])[n]?=some d':=e1
  have e2:(W1.m++[p])[n]?=some a:=e2
  by_cases hlt:n<W1.h.length
  .rw [getElem?_append_left hlt] at e1
   rw [getElem?_append_left (by rw [l1.ok.len];exact hlt)] at e2
   exact (l1.ok.at_ n d' a e1 e2).mono (Same.refl _) pre (fun _ f1=>f1) id
  .rw [getElem?_append_right (by omega)] at e1
   rw [getElem?_append_right (by rw [l1.ok.len];omega)] at e2
   rw [l1.ok.len] at e2
   cases hk:n-W1.h.length with
   | zero =>
    rw [hk] at e1 e2
    simp at e1 e2
    subst e1 e2
    exact at_.mono (Same.refl _) pre (fun _ f1=>f1) id
   | succ k=>rw [hk] at e1;simp at e1
 .have z:b∈W1.m++[p]:=z
  rcases List.mem_append.mp z with z|z
  .exact l1.mn b z n
  .simp at z;subst z;exact hn
 .show (W1.m++[p])[W1.h.length]?=some p
  rw [<- l1.ok.len];simp
def ygi (k:Nat) (f:Fn) (a:XA):XE:=fun ρ h=>ob (a ρ h) fun xs h1=>ob (f (.loc h1.length::xs) (h1++[.ins k [] []])) fun x h2=>match x with|.non=>some (.loc h1.length,h2)|_=>none
theorem ymg {k:Nat}{f:Fn}{aa:XA}{ρ:PSt}{h:AH}:ygi k f aa ρ h=ob (aa ρ h) fun xs h1=>ob (f (.loc h1.length::xs) (h1++[.ins k [] []])) fun x h2=>match x with|.non=>some (.loc h1.length,h2)|_=>none:=id rfl
theorem ypI {n k:Nat}{f:Fn}{ex:XK}{t:TA}{e:XA}(a:ylm K t e) (hn:∀ ρ h xs h',e ρ h=some (xs,h')->xs.length=n):ycH K (yqR (K.A k) (spE K (n+1) f) [] ex t) (ygi k f e):=by
 intro W0 W ρ σ Q z h' g e' q
 obtain ⟨xs,h1,e1,e2⟩:=yh e'
 obtain ⟨y,h2,e3,e4⟩:=yh e2
 refine a W0 W ρ σ _ xs h1 g e1 fun vs W1 w1 l1 r1=>?_
 subst w1
 intro x dx hx hd hne
 rw [append_nil]
 have a1:Le K W1 (yfs W1 dx (.own x)):=ycp l1.ok hd
 have hx1:(yfs W1 dx (.own x)).H x=none:=(yU hne.symm).trans hx
 have a2:Le K (yfs W1 dx (.own x)) (yfs (yfs W1 dx (.own x)) x (.ins (K.A k) dx [])):=ycp a1.ok hx1
 obtain ⟨a3,r3⟩:=yxl (d:=.ins k [] []) (a1.trans a2) (l1.ok.out hx) hx ⟨l1.ok.ff hx,dx,[],yG,rfl,rfl⟩
 refine ⟨⟨W1.F,upd (upd W1.H dx (.own x)) x (.ins (K.A k) dx []),W1.m++[x],W1.h++[Nd.ins k [] []]⟩,.loc W1.h.length::xs,y,h2,rfl,a3.ok,⟨_,_,rfl,r3,a3.repL r1⟩,by rw [length_cons,hn _ _ _ _ e1],e3,fun v W' w' l' r'=>?_⟩
 split at e4
 .cases e4
  exact ⟨r',q (.ref x) W' w' (l1.trans (a3.trans l')) (l'.rep r3)⟩
 .cases e4
noncomputable def yAL:List V->Hp->VK->Prop:=fun xs H Q=>∃ (p:Addr) (bs:List Bool),xs=[.ref p]/\H p=some (.lst (bs.map V.bl))/\Q (.bl (bs.any id)) H
def yvz:List PV->AH->Option (PV×AH):=fun xs h=>match xs with|[x]=>(match ycd x h with|some ys=>(match yjf ys with|some ns=>some (.bl (ns.any id),h)|none=>none)|none=>none)|_=>none
theorem yxm:yhx K yAL yvz:=by
 intro W xs vs Q z h' w r e q
 unfold yvz at e
 split at e
 .split at e
  .rename_i ys hy
   split at e
   .rename_i ns hn
    cases e
    obtain ⟨v,rfl,rx⟩:=ypp r
    obtain ⟨a,us,rfl,hs,rs⟩:=ybj w hy rx
    have:=yhz hn rs
    subst this
    exact ⟨a,ns,rfl,hs,q _ W rfl (.refl w) rfl⟩
   .cases e
  .cases e
 .cases e
def ykD (n:Nat) (e:XE) (inn:PV->PSt):Nat->Nat->AH->Option (List PV×AH)
 | 0,i,h=>match h[n]? with|some (.lst xs)=>if xs.length=i then some ([],h) else none|_=>none
 | k+1,i,h=>match h[n]? with
  | some (.lst xs)=>(match xs[i]? with|some x=>ob (e (inn x) h) fun y h1=>ob (ykD n e inn k (i+1) h1) fun ys h2=>some (y::ys,h2)|none=>none)
  | _=>none
def ycw (e:XE) (ix:List Nat) (el:XE):XO:=fun ρ h=>ob (e ρ h) fun x h1=>match x with
 | .loc n=>(match h1[n]? with|some (.lst xs)=>if xs.length<=10000 then ob (ykD n el (yga ix ρ) xs.length 0 h1) fun ys h2=>some (.lst ys,h2) else none|_=>none)
 | _=>none
theorem ypJ {ta tb:TE}{ea eb:XE}(ix:List Nat) (a:ycH K ta ea) (b:ycH K tb eb):yln K (ynG (yqL K.K ta) ix tb) (ycw ea ix eb):=by
 intro W0 W ρ σ Q d h' gd e q
 obtain ⟨x,h1,e1,f1⟩:=yh e
 refine a W0 W ρ σ _ x h1 gd e1 fun v W1 w1 l1 r1=>?_
 subst w1
 split at f1
 .rename_i n
  split at f1
  .rename_i xs hn
   split at f1
   .rename_i hlen
    obtain ⟨zs,h2,e2,f2⟩:=yh f1
    cases f2
    obtain ⟨p,ev,hm,hf,us,hp,rs⟩:=l1.ok.loc hn r1
    refine ⟨p,ev,⟨us,SqL.of hp⟩,fun D hD=>?_⟩
    have nm:=l1.ok.out hD
    have nf:=l1.ok.ff hD
    refine ⟨fun i m H=>m=xs.length-i/\i<=xs.length/\∃ W' acc done rest,W'.H=H/\Le K W1 W'/\D∉W'.m/\W'.F D=none/\H D=some (.lst acc)/\ycL K W' done acc/\done.length=i/\zs=done++rest/\ykD n eb (yga ix ρ) (xs.length-i) i W'.h=some (rest,h'),⟨_,rfl,zero_le _,yfs W1 D (.lst []),[],[],zs,rfl,ycp l1.ok hD,nm,nf,yG,rfl,rfl,rfl,e2⟩,?_⟩
    rintro i m _ ⟨rfl,hi,W',acc,done,rest,rfl,l,n1,n2,hd,rd,ld,ez,f⟩
    have hm':W'.m[n]?=some p:=yeU l.pre hm
    by_cases hlt:i<xs.length
    .obtain ⟨k,hk⟩:∃ k,xs.length-i=k+1:=⟨xs.length-i-1,by omega⟩
     rw [hk] at f
     unfold ykD at f
     split at f
     .rename_i ys hy
      split at f
      .rename_i z hz
       obtain ⟨p',ev',hm2,hf',vs,hp',rs'⟩:=l.ok.loc hy (v:=.ref p) ⟨p,rfl,hm'⟩
       cases ev'
       obtain ⟨y,h3,k1,f3⟩:=yh f
       obtain ⟨ys',h4,k2,f4⟩:=yh f3
       cases f4
       obtain ⟨vz,hv1,hv2⟩:=rs'.get hz
       refine .inr ⟨⟨vs,vz,SqL.of hp',hv1⟩,fun v H2 hy=>?_⟩
       obtain ⟨rfl,hx⟩:=hy
       have hx:=hx vs (SqL.of hp')
       rw [hv1] at hx
       cases hx
       refine b W' W' _ _ _ y h3 (ygg gd (l1.trans l) ix hv2) k1 fun w W2 w2 l2 r2=>?_
       have nm2:D∉W2.m:=fun z=>by rw [l2.mn D z n1] at hd;cases hd
       have nf2:W2.F D=none:=l2.new D _ hd n1 n2
       refine ⟨acc,l2.keep _ _ hd n1,?_,xs.length-(i+1),by omega,rfl,hlt,yok W2 D (.lst (acc++[w])),acc++[w],done++[y],ys',rfl,ygC (l.trans l2) nm2 nf2 hD,nm2,nf2,yG,(l2.repL rd).snoc r2,by simp [ld],by simp [ez],?_⟩
       .rw [rd.len,ld];exact big (by omega)
       .show ykD n eb (yga ix ρ) (xs.length-(i+1)) (i+1) W2.h=some (ys',h')
        rw [w2,show xs.length-(i+1)=k by omega];exact k2
      .cases f
     .cases f
    .have ei:i=xs.length:=by omega
     subst ei
     rw [Nat.sub_self] at f
     unfold ykD at f
     split at f
     .rename_i ys hy
      obtain ⟨p',ev',hm2,hf',vs,hp',rs'⟩:=l.ok.loc hy (v:=.ref p) ⟨p,rfl,hm'⟩
      cases ev'
      split at f
      .rename_i hyl
       cases f
       refine .inl ⟨⟨vs,SqL.of hp',by rw [rs'.len,hyl];exact Nat.le_refl _⟩,?_⟩
       rw [append_nil] at ez
       subst ez
       exact q D W' rfl (l1.trans l) n1 (l1.fresh hD) (fun z=>by cases z) ⟨n2,acc,hd,rd⟩
      .cases f
     .cases f
   .cases f1
  .cases f1
 .cases f1
end PX
namespace PX
open PySem L2
variable {K:Ck}
end PX
namespace PX
open PySem L2
variable {K:Ck}
section
variable {ta:TE}{ea:XE}{t:TS}{s:XS}
end
end PX
namespace PX
open PySem L2
abbrev XR:=PSt->AH->Option (Str×AH)
abbrev FnR:=List PV->AH->Option (Str×AH)
def yji (f:FnR) (a:XA):XR:=fun ρ h=>ob (a ρ h) f
def yY (k:Nat) (m:Str) (f:FnR) (e:XE) (as:XA):XR:=fun ρ h=>ob (e ρ h) fun x h1=>match ygD x h1 with
 | some (k',ns,_)=>if k'=k/\m∉ns then ob (as ρ h1) fun ys h2=>f (x::ys) h2 else none
 | none=>none
def ydG (c:Str) (e:XE):XR:=fun ρ h=>ob (e ρ h) fun _ h1=>some (c,h1)
def rIf (c:XT) (a b:XR):XR:=fun ρ h=>ob (c ρ h) fun k h1=>if k=true then a ρ h1 else b ρ h1
def rNo:XR:=fun _ _=>none
def ypK (s:XS) (r:XR):XR:=fun ρ h=>ob (s ρ h) fun o h1=>match o with|.nx ρ'=>r ρ' h1|_=>none
def yiw (N:Nat) (r:XR):FnR:=fun xs h=>r (xs.map .val++replicate (N-xs.length) .no) h
noncomputable def yxn (xc:List (Str×Str×Bool)) (xy:List (Str×String×Bool)) (k:Str) (c:PV):Option Bool:=match c with
 | .xcl c'=>(xc.find? fun r=>r.1 == k && r.2.1 == c').map (·.2.2)
 | .ty n=>(xy.find? fun r=>r.1 == k && r.2.1 == n).map (·.2.2)
 | _=>none
def ykE (tb:List (Nat×Nat×Bool)) (xc:List (Str×Str×Bool)) (xy:List (Str×String×Bool)):List PV->AH->Option (PV×AH):=fun xs h=>match xs with
 | [.exc k,c]=>(match yxn xc xy k c with|some b=>some (.bl b,h)|none=>none)
 | _=>ygE tb xs h
noncomputable def yxo (cs:List Str) (i:Nat) (r:XR) (s:XS):XS:=fun ρ h=>match r ρ h with
 | some (c,h1)=>if c∈cs then (match s (ρ.set i (.val (.exc c))) h1 with|some (.nx ρ',h2)=>some (.nx (ρ'.set i .no),h2)|_=>none) else none
 | none=>none
end PX
namespace PX
open PySem L2
end PX
namespace PX
open PySem L2
def yel (s:XS) (r rest:XR):XR:=fun ρ h=>match s ρ h with|some (.nx ρ',h1)=>rest ρ' h1|some _=>none|none=>r ρ h
noncomputable def ykF (n:Nat) (e:XE) (r:XR) (inn:PV->PSt):Nat->Nat->AH->Option (Str×AH)
 | 0,_,_=>none
 | k+1,i,h=>match h[n]? with
  | some (.lst xs)=>(match xs[i]? with|some x=>(match e (inn x) h with|some (_,h1)=>ykF n e r inn k (i+1) h1|none=>r (inn x) h)|none=>none)
  | _=>none
def ykG (e:XE) (ix:List Nat) (el:XE) (r:XR):XR:=fun ρ h=>ob (e ρ h) fun x h1=>match x with
 | .loc n=>(match h1[n]? with|some (.lst xs)=>if xs.length<=10000 then ykF n el r (yga ix ρ) xs.length 0 h1 else none|_=>none)
 | _=>none
def yjj (cs:List Str) (i:Nat) (r:XR) (b s:XS):XS:=fun ρ h=>match b ρ h with
 | some (.nx ρ',h')=>some (.nx ρ',h')
 | _=>yxo cs i r s ρ h
def yrW (c:XT) (b:XS) (r:XR):Nat->PSt->AH->Option (Str×AH)
 | 0,_,_=>none
 | n+1,ρ,h=>ob (c ρ h) fun k h1=>if k=true then (match b ρ h1 with|some (.nx ρ',h2)=>yrW c b r n ρ' h2|some _=>none|none=>r ρ h1) else none
def ynd (n:Nat) (c:XT) (b:XS) (r:XR):XR:=fun ρ h=>yrW c b r n ρ h
def yuD (k:Nat) (f:FnR) (a:XA):XR:=fun ρ h=>ob (a ρ h) fun xs h1=>f (.loc h1.length::xs) (h1++[.ins k [] []])
end PX
namespace PX
open PySem L2
def yhE (ix:List Nat) (ρ:PSt) (a b:PV):PSt:=.val a::.val b::ix.map (yir ρ)
def yvA (c:XT) (e:XE) (inn:PV->PV->PSt):List PV->AH->Option (List PV×AH)
 | [],h=>some ([],h)
 | x::xs,h=>match x with
  | .tup [p,q]=>ob (c (inn p q) h) fun b h1=>if b=true then ob (e (inn p q) h1) fun y h2=>ob (yvA c e inn xs h2) fun ys h3=>some (y::ys,h3) else yvA c e inn xs h1
  | _=>none
def ypL (it:XA) (ix:List Nat) (c:XT) (e:XE):XO:=fun ρ h=>ob (it ρ h) fun xs h1=>if xs.length<100000 then ob (yvA c e (yhE ix ρ) xs h1) fun ys h2=>some (.lst ys,h2) else none
def ynS (e:XE) (r:XR):XR:=fun ρ h=>ob (e ρ h) fun _ h1=>r ρ h1
def ynT (i:Nat) (r:XR):XR:=fun ρ h=>match ρ[i]? with|some (.own (.lst _))=>r ρ h|_=>none
end PX
namespace L2
open PySem PySem.Spec PyProof.Rows PX
def PTs (X:Cx) (cs:List Expr) (t:TT):Prop :=
 ∀ (pins:List (Addr×Obj)) (s:Shared) (σ:St) (H:Hp) (Q:Bool->Hp->Prop),Inv X pins σ H s->t σ H Q->wpAny (model X.prog X.w) X.A (forIn cs true fun c r=>if r=true then do let ok <- isTrue c X.env (eval c X.env);pure (ForInStep.yield ok) else pure (ForInStep.yield r)) (TP X pins σ Q) X.xe s
theorem PTs.one {X:Cx}{c:Expr}{t:TT}(h:PT X c t):PTs X [c] t:=fun p s σ H Q I q=>wpAny_tests_one (h p s σ H Q I q)
def yyq:TT:=fun _ H Q=>Q true H
theorem PTs.nil {X:Cx}:PTs X [] yyq:=fun p s σ H Q I q=>wpAny_tests_nil ⟨H,I,q⟩
theorem ypM {wi:TI}{ix:List Nat}{te:TE}:yiv wi ix yyq te=ynG wi ix te:=rfl
theorem yxp {X:Cx}{e:Expr}{wi:TI}{ix:List Nat}{te:TE}(h:PE X e (yiv wi ix yyq te)):PE X e (ynG wi ix te):=ypM ▸ h
theorem yxq {X:Cx}{e:Stmt}{wi:TI}{ix:List Nat}{te:TE}{g:TG}(h:PS X e (ysN (yiv wi ix yyq te) g)):PS X e (ysN (ynG wi ix te) g):=ypM ▸ h
theorem yhk {X:Cx}{elt iter:Expr}{cs:List Expr}{tc:TT}{x:Str}{px:Pos}{scope:Scope}{cpos:Pos}{wi:TI}{te:TE}(ix:List Nat) (fr:List Str) (hc:X.calm=true) (hi:PI X (.Name x px) iter wi) (hfr:FrOk X scope ix fr)
  (he:∀ (cl:List (Str×Addr)) (C:Addr) (s₃:Shared) (H₃:Hp) (fp:List Addr) (pins:List (Addr×Obj)),PE (cxC X scope cl C (x::fr) s₃ H₃ fp pins) elt te)
  (hq:∀ (cl:List (Str×Addr)) (C:Addr) (s₃:Shared) (H₃:Hp) (fp:List Addr) (pins:List (Addr×Obj)),PTs (cxC X scope cl C (x::fr) s₃ H₃ fp pins) cs tc)
  (hnd:(x::fr).Nodup) (hkind:scope.kind=.function) (hcell:∀ y∈scope.names,y.2≠.cell)
  (hnames:∀ y∈scope.names,y.2=.local->scope.names.lookup y.1=some .local) (hfree0:∀ y∈scope.names,y.2=.free->y.1∈fr) (hx:scope.names.lookup x=some .local)
  (hs:∀ v,foldedSetIterable iter X.env v=pure v):PE X (.ListComp elt [⟨.Name x px,iter,cs,0⟩] scope cpos) (yiv wi ix tc te):=by
 intro pins s σ H Q I h
 have hfn:X.env.scope.kind=.function:=I.ok.kind
 have hfree:∀ y∈scope.names,y.2=.free->X.env.kindOf y.1=some .cell/\scope.names.lookup y.1=some .free:=fun y hy e=>by
  obtain ⟨j,hj,ej⟩:=getElem_of_mem (hfree0 y hy e)
  obtain ⟨i,_,_,h3,h4⟩:=hfr.get (j:=j) (y:=y.1) (by rw [List.getElem?_eq_getElem hj,ej])
  exact ⟨h4,h3⟩
 obtain ⟨cl,ecl,hcl1,hcl2⟩:=ycR (env:=X.env) scope.names [] fun n hn=>I.ok.has n (.inl (hfree _ hn rfl).1)
 have hclos:closureFor scope X.env=pure cl:=by
  unfold closureFor
  have:(forIn scope.names ([]:List (Str×Addr)) (fun (x:Str×NameKind) (r:List (Str×Addr))=>if (x.2 == NameKind.free)=true then do let c <- cellOf X.env x.1;pure (ForInStep.yield ((x.1,c)::r)) else pure (ForInStep.yield r)):Sem (List (Str×Addr)))=pure cl:=ecl
  first
   | exact (by simpa using congrArg (· >>= fun r=>pure r) this)
   | (rw [show (pure cl:Sem (List (Str×Addr)))=(pure cl >>= fun r=>pure r) from rfl,<- this];rfl)
 have hcle:∀ y c,cl.lookup y=some c->X.env.cells.lookup y=some c/\(y,NameKind.free)∈scope.names:=fun y c e=>by
  by_cases hy:(y,NameKind.free)∈scope.names
  .exact ⟨by rw [<- hcl1 y hy];exact e,hy⟩
  .rw [hcl2 y hy] at e;simp at e
 rw [eval_ListComp]
 refine wpAny_comprehension_free (use:=none) rfl hs hclos hkind hnames ?_
 refine thn (hi pins s σ H _ I h) fun v s1 h1=>thn h1 fun itv s2 h2=>?_
 obtain ⟨it,fp,tn,J,H2,e,I2,T,st2,f2,q2⟩:=h2
 subst e
 refine wpAny_newObj_type ?_
 generalize hs3:({ s2 with heap:=s2.heap.push { cls:=.type "list",dict:=none,data:=.seq ([]:List Value).toArray } }:Shared)=s3
 generalize hD:s2.heap.objs.size=D
 have hDn:H2 D=none:=by rw [<- hD];exact I2.hok.fresh (Nat.le_refl _)
 have I3:Inv X pins σ (upd H2 D (.lst [])) s3:=by
  rw [<- hs3,<- hD]
  exact I2.lnew (t':=s2.toks) (ys:=[]) (its:=[]) .nil (zero_le _)
 have k3:∀ b o,s2.heap.get? b=some o->s3.heap.get? b=some o:=fun b o e=>by rw [<- hs3];exact Heap.get?_push_of_some _ e
 have st3:tn 0 s3.heap:=T.keep _ _ _ st2 fun b _ o e=>k3 b o e
 have fne:∀ b∈fp,b≠D:=fun b hb=>by
  obtain ⟨o,e,_⟩:=T.obj _ _ st2 b hb
  rw [<- hD]
  exact ne_of_lt (Heap.lt_size e)
 have f3:∀ b∈fp,yll X pins (upd H2 D (.lst [])) b:=fun b hb=>⟨by rw [yU (fne b hb)];exact (f2 b hb).1,(f2 b hb).2⟩
 have q3:=q2 D hDn
 generalize upd H2 D (.lst [])=H3 at I3 f3 q3
 obtain ⟨W,⟨m0,w0⟩,turn⟩:=q3
 refine wpAny_newFunctionEnv hcell (by intro y hy;simp at hy) (fun h4 hns hsb=>?_) hkind
 try dsimp only at hns hsb ⊢
 generalize hC:s3.heap.objs.size=C at hns hsb ⊢
 have k4:∀ b o,s3.heap.get? b=some o->h4.get? b=some o:=fun b o e=>(hsb.2 b (by rw [<- hC];exact ne_of_lt (Heap.lt_size e))).trans (Heap.get?_push_of_some _ e)
 have Cne:∀ b o,s3.heap.get? b=some o->b≠C:=fun b o e=>by rw [<- hC];exact ne_of_lt (Heap.lt_size e)
 have stk:=I3.stkSub
 have pinF:∀ p∈X.pn++pins,p.1∉frs X.stack:=fun p hp z=>by
  obtain ⟨_,_,n1,n2,_⟩:=I3.pin p hp
  rcases mem_cons.mp (stk _ z) with z|z
  .exact n1 z
  .exact n2 z
 have okC:(cxC X scope cl C (x::fr) s3 H3 fp pins).Ok:=by
  refine ⟨I3.ok.mod,by show (relabel scope X.env).kind=_;exact hkind,I3.ok.glob,I3.ok.blt,le_of_eq hC,fun y z c h1 h2=>I3.ok.inj y z c (hcle y c h1).1 (hcle z c h2).1,fun y hy=>?_,fun y c hf _=>(by cases hf),I3.ok.hd,I3.ok.frames,.inl rfl,fun b hb=>⟨?_,fun y c e z=>?_⟩,I3.bs,?_,fun b o e hb=>?_,fun b hb z=>?_,I3.stack,I3.stkFree⟩
  .have hy:((relabel scope X.env).names.lookup y=some .cell)\/((relabel scope X.env).names.lookup y=some .free):=hy
   rw [show (relabel scope X.env).names.lookup y=_ from ybt y scope.names] at hy
   cases e:scope.names.lookup y with
   | none=>rw [e] at hy;simp at hy
   | some k =>
    have hm:(y,k)∈scope.names:=PySem.mem_of_lookup e
    have hkf:k=.free:=by
     rw [e] at hy
     cases k<;>simp at hy ⊢
     exact absurd rfl (hcell _ hm)
    subst hkf
    obtain ⟨c,hc'⟩:=I3.ok.has y (.inl (hfree _ hm rfl).1)
    exact ⟨c,by show cl.lookup y=_;rw [hcl1 y hm];exact hc'⟩
  .obtain ⟨o,e,_⟩:=T.obj _ _ st3 b hb
   exact Cne b o e
  .exact (f3 b hb).2.2.2.2.1 y c (hcle y c e).1 z
  .exact Nat.le_trans I3.ok.bsz I3.sz
  .rcases (f3 b hb).2.2.2.1 with z|z
   .exact I3.ok.noex b o e z
   .exact absurd (lt_of_lt_of_le (Heap.lt_size e) (Nat.le_trans I3.ok.bsz z)) (lt_irrefl _)
  .rcases mem_cons.mp (stk _ z) with z|z
   .exact (f3 b hb).2.1 z
   .exact (f3 b hb).2.2.1 z
 have inn:∀ v,(inner ix σ v)=some v::ix.map fun i=>(σ[i]?).getD none:=fun _=>rfl
 have I4:Inv (cxC X scope cl C (x::fr) s3 H3 fp pins) [] (none::ix.map fun i=>(σ[i]?).getD none) H3 { s3 with heap:=h4,toks:=s3.toks+([]:List (Str×Value)).length }:=by
  refine ⟨okC,rfl,I3.bare,Un.kept k4,⟨_,hns,fun j y v e1 e2 e3=>?_⟩,fun y c e=>?_,I3.hok.fresh (le_of_eq hC),fun y c e=>I3.freeC y c (hcle y c e).1,fun p hp=>?_,I3.hok.kept k4,?_⟩
  .match j,e1,e2 with
   | 0,e1,e2=>simp at e2
   | j+1,e1,e2 =>
    obtain ⟨i,hi1,hi2,hi3,hi4⟩:=hfr.get (j:=j) (y:=y) (by have e1':(x::fr)[j+1]?=some y:=e1;simpa using e1')
    have e2':σ[i]?=some (some v):=by
     have e2:(ix.map fun i=>(σ[i]?).getD none)[j]?=some (some v):=by simpa using e2
     rw [getElem?_map,hi1] at e2
     simp at e2
     cases z:σ[i]? with
     | none=>rw [z] at e2;simp at e2
     | some o=>rw [z] at e2;simp at e2;rw [e2]
    obtain ⟨m,_,hl⟩:=I3.loc
    obtain ⟨u,r,l⟩:=hl i y v hi2 e2' (.inr (.inl hi4))
    refine ⟨u,r,?_⟩
    rcases l with ⟨k,_⟩|⟨k,c,ec,z⟩
    .rw [hi4] at k;cases k
    .have hm:(y,NameKind.free)∈scope.names:=PySem.mem_of_lookup hi3
     refine .inr ⟨.inl ?_,c,by show cl.lookup y=_;rw [hcl1 y hm];exact ec,?_⟩
     .show (relabel scope X.env).names.lookup y=_
      rw [show (relabel scope X.env).names.lookup y=_ from ybt y scope.names,hi3]
      simp [hfn,hi4]
     .obtain ⟨o,ho,hd⟩:=z
      exact ⟨o,k4 _ _ ho,hd⟩
  .obtain ⟨v,o,ho,hd⟩:=I3.cell y c (hcle y c e).1
   exact ⟨v,o,k4 _ _ ho,hd⟩
  .have hp:p∈X.pn++pins:=by simpa [cxC] using hp
   obtain ⟨e,n,ne,nf,d⟩:=I3.pin p hp
   exact ⟨k4 _ _ e,n,Cne _ _ e,pinF p hp,d⟩
  .show (none::ix.map fun i=>(σ[i]?).getD none).length=(x::fr).length
   rw [length_cons,length_cons,length_map,hfr.len]
 have st4:tn 0 h4:=T.keep _ _ _ st3 fun b _ o e=>k4 b o e
 have f4:∀ b∈fp,b≠C/\b∉frs X.stack/\(∀ y c,cl.lookup y=some c->c≠b)/\∀ p∈(X.pn++pins)++([]:List (Addr×Obj)),p.1≠b:=fun b hb=>by
  obtain ⟨o,e,_⟩:=T.obj _ _ st3 b hb
  refine ⟨Cne b o e,fun z=>?_,fun y c e=>(f3 b hb).2.2.2.2.1 y c (hcle y c e).1,fun p hp=>(f3 b hb).2.2.2.2.2 p (by simpa using hp)⟩
  rcases mem_cons.mp (stk _ z) with z|z
  .exact (f3 b hb).2.1 z
  .exact (f3 b hb).2.2.1 z
 have stat:∀ {H':Hp},(∀ b∈fp,H' b=none)->∀ b∈fp,yll (cxC X scope cl C (x::fr) s3 H3 fp pins) [] H' b:=fun hn b hb=>⟨hn b hb,(f4 b hb).1,(f4 b hb).2.1,.inl hb,(f4 b hb).2.2.1,(f4 b hb).2.2.2⟩
 have fin:∀ {σ':St}{H':Hp}{s':Shared},Inv (cxC X scope cl C (x::fr) s3 H3 fp pins) [] σ' H' s'->Q (.ref D) H'->compPost (model X.prog X.w) X.A X.xe none (EP X pins σ Q) (.ref D) C (.ok .next) s':=fun {σ' H' s'} I' q'=>by
  obtain ⟨m,hn,_⟩:=I'.loc
  refine ⟨m,hn,fun h' sb=>⟨.ref D,H',?_,rfl,q'⟩⟩
  have hCn:H' C=none:=I'.free
  have same:∀ b,b≠C->h'.get? b=s'.heap.get? b:=fun b hb=>sb.2 b hb
  have U:=I'.base
  have U':Un (frs X.stack) fp H3 H' s3.heap h':=by
   refine ⟨fun b o e n h1 h2=>?_,fun b o e n h1 h2=>?_,U.free,fun b o e h2=>?_,U.tups,U.frzs,U.tbls⟩
   .rw [same b (Cne b o e)];exact U.keep b o e n h1 h2
   .rw [same b (Cne b o e)];exact U.slot b o e n h1 h2
   .rw [same b (Cne b o e)];exact U.there b o e h2
  refine I3.call' (s':={ s' with heap:=h' }) (by show s'.os=s3.os;exact I'.os) U' ?_ I'.bare fun b hb=>⟨(f3 b hb).2.2.2.1,(f3 b hb).2.1,(f3 b hb).2.2.2.2.1,(f3 b hb).2.2.2.2.2⟩
  intro b ob e
  refine (I'.hok b ob e).stay (fun c w' hc q=>?_) (fun _ q=>q) fun _ _ q=>q
  show h'.get? c=_
  rw [same c ?_]
  .exact q
  rintro rfl
  rcases hc with rfl|hc
  .rw [hCn] at e;cases e
  .rw [hCn] at hc;cases hc
 have loop:∀ s5:Shared,s5={ s3 with heap:=h4,toks:=s3.toks+([]:List (Str×Value)).length } ->
   codeAny (model X.prog X.w) X.A (.compLoop (.ListComp elt [⟨.Name x px,iter,cs,0⟩] scope cpos) 0 (.ref it) (.ref D) (compEnvC scope cl C X.env)) (compPost (model X.prog X.w) X.A X.xe none (EP X pins σ Q) (.ref D) C) s5:=by
  rintro s5 rfl
  refine codeAny_loop rfl (fun n s'=>∃ i o H',Inv (cxC X scope cl C (x::fr) s3 H3 fp pins) [] (o::ix.map fun i=>(σ[i]?).getD none) H' s'/\tn i s'.heap/\(∀ b∈fp,H' b=none)/\W i n H') ?_ m0 ⟨0,none,H3,I4,st4,fun b hb=>(f3 b hb).1,w0⟩
  rintro n s6 ⟨i,o,H6,I6,st6,fr6,w6⟩
  show wpAny _ _ ((compTurn (.ListComp elt [⟨.Name x px,iter,cs,0⟩] scope cpos) 0 (.ref it) (.ref D) (compEnvC scope cl C X.env)).onRaise (fun x=>do noteFrame x (compEnvC scope cl C X.env);theTreesLotGoes x)) _ _ s6
  refine wpAny_noted ?_
  rw [compTurn_list]
  rcases turn i n H6 w6 with ⟨stop,qn⟩|⟨go,step⟩
  .refine wpAny_bind (wpAny_standAt (wpAny_bind (thn (T.done (cxC X scope cl C (x::fr) s3 H3 fp pins) rfl rfl rfl hc i [] s6 _ H6 _ I6 (stat fr6) st6 stop) fun r s7 ⟨hr,I7⟩=>?_)))
   subst hr
   exact wpAny_pure (fin I7 qn)
  .refine wpAny_bind (wpAny_standAt (wpAny_bind (thn (T.item (cxC X scope cl C (x::fr) s3 H3 fp pins) rfl rfl rfl hc i [] s6 _ H6 _ I6 (stat fr6) st6 go) fun r s7 ⟨u,hr,h7⟩=>?_)))
   subst hr
   refine wpAny_bind (thn h7 fun _ s8 ⟨y,H8,I8,r8,y8,st8,fr8⟩=>?_)
   have I8':=I8.pinned (stat fr8) (T.obj _ _ st8)
   have hx':Loc (cxC X scope cl C (x::fr) s3 H3 fp pins).env.scope x:=.inl (lookup_relabel_local hx)
   refine wpAny_bind (wpAny_mono (yfO (X:=cxC X scope cl C (x::fr) s3 H3 fp pins) (i:=0) (x:=x) (pos:=px) hnd rfl hx' (.inr (lookup_relabel_local hx)) _ s8 _ H8 y u (fun σ9 H9=>σ9=inner ix σ y/\H9=H8) I8' r8 ⟨rfl,rfl⟩) (fun _ s9 ⟨σ9,H9,I9,e9,e9'⟩=>?_) fun _ _ f=>f.elim)
   subst e9 e9'
   refine wpAny_bind (wpAny_mono (hq cl C s3 H3 fp pins _ s9 _ _ _ I9 (step y _ y8)) (fun kb s9b hkb=>?_) fun _ _ f=>f.elim)
   obtain ⟨H9b,I9b,q9b⟩:=hkb
   cases kb with
   | false =>
    rw [if_neg (by decide)] at q9b
    obtain ⟨m',hm',w10⟩:=q9b
    refine wpAny_pure ⟨rfl,m',hm',i+1,some y,_,I9b.unpinned,T.keep _ _ _ st8 fun b hb o e=>(I9b.pin (b,o) (mem_append_right _ (mem_append_right _ (yba hb e)))).1,fun b hb=>?_,w10⟩
    obtain ⟨o,e,d⟩:=T.obj _ _ st8 b hb
    exact (I9b.pin (b,o) (mem_append_right _ (mem_append_right _ (yba hb e)))).2.1
   | true =>
   rw [if_pos rfl] at q9b
   refine wpAny_bind (wpAny_bind (wpAny_mono (he cl C s3 H3 fp pins _ s9b _ _ _ I9b q9b) (fun v s10 ⟨z,H10,I10,r10,acc,a10,l10,m',hm',w10⟩=>?_) fun _ _ f=>f.elim))
   refine wpAny_bind (wpAny_mono (ycW (X:=cxC X scope cl C (x::fr) s3 H3 fp pins) _ s10 _ H10 (.ref D) [z] (.ref D) [v] (fun _ H11=>H11=upd H10 D (.lst (acc++[z]))) I10 rfl (.cons r10 .nil) ⟨D,acc,z,rfl,rfl,a10,l10,rfl⟩) (fun _ s11 ⟨_,H11,I11,_,e11⟩=>?_) fun _ _ f=>f.elim)
   subst e11
   refine wpAny_pure (wpAny_pure ⟨rfl,m',hm',i+1,some y,_,I11.unpinned,T.keep _ _ _ st8 fun b hb o e=>(I11.pin (b,o) (mem_append_right _ (mem_append_right _ (yba hb e)))).1,fun b hb=>?_,w10⟩)
   obtain ⟨o,e,d⟩:=T.obj _ _ st8 b hb
   exact (I11.pin (b,o) (mem_append_right _ (mem_append_right _ (yba hb e)))).2.1
 exact codeAny_compStart_list (loop _ rfl) (T.self X.A 0 _ _ _ st4 (loop _ rfl))
theorem yne {y:Str}{py spos:Pos}{iy:Nat}{X:Cx}{elt iter:Expr}{cs:List Expr}{tc:TT}{x:Str}{px:Pos}{scope:Scope}{cpos:Pos}{wi:TI}{te:TE}(ix:List Nat) (fr:List Str) (hc:X.calm=true) (hi:PI X (.Name x px) iter wi) (hfr:FrOk X scope ix fr)
  (he:∀ (cl:List (Str×Addr)) (C:Addr) (s₃:Shared) (H₃:Hp) (fp:List Addr) (pins:List (Addr×Obj)),PE (cxC X scope cl C (x::fr) s₃ H₃ fp pins) elt te)
  (hq:∀ (cl:List (Str×Addr)) (C:Addr) (s₃:Shared) (H₃:Hp) (fp:List Addr) (pins:List (Addr×Obj)),PTs (cxC X scope cl C (x::fr) s₃ H₃ fp pins) cs tc)
  (hnd:(x::fr).Nodup) (hkind:scope.kind=.function) (hcell:∀ y∈scope.names,y.2≠.cell)
  (hnames:∀ y∈scope.names,y.2=.local->scope.names.lookup y.1=some .local) (hfree0:∀ y∈scope.names,y.2=.free->y.1∈fr) (hx:scope.names.lookup x=some .local)
  (hs:∀ v,foldedSetIterable iter X.env v=pure v)
  (hN:X.N.Nodup) (hyi:X.N[iy]?=some y) (hyx:Loc X.env.scope y) (hyf:X.fn y=true\/X.env.scope.names.lookup y=some .local) (hsw:swapsWith (.ListComp elt [⟨.Name x px,iter,cs,0⟩] scope cpos) (some (.Name y py)) spos.line X.env=pure true) :
  PS X (.Assign [.Name y py] (.ListComp elt [⟨.Name x px,iter,cs,0⟩] scope cpos) spos) (ysN (yiv wi ix tc te) (ynz iy)):=by
 intro pins s σ H D0 I h
 have hfn:X.env.scope.kind=.function:=I.ok.kind
 have hfree:∀ y∈scope.names,y.2=.free->X.env.kindOf y.1=some .cell/\scope.names.lookup y.1=some .free:=fun y hy e=>by
  obtain ⟨j,hj,ej⟩:=getElem_of_mem (hfree0 y hy e)
  obtain ⟨i,_,_,h3,h4⟩:=hfr.get (j:=j) (y:=y.1) (by rw [List.getElem?_eq_getElem hj,ej])
  exact ⟨h4,h3⟩
 obtain ⟨cl,ecl,hcl1,hcl2⟩:=ycR (env:=X.env) scope.names [] fun n hn=>I.ok.has n (.inl (hfree _ hn rfl).1)
 have hclos:closureFor scope X.env=pure cl:=by
  unfold closureFor
  have:(forIn scope.names ([]:List (Str×Addr)) (fun (x:Str×NameKind) (r:List (Str×Addr))=>if (x.2 == NameKind.free)=true then do let c <- cellOf X.env x.1;pure (ForInStep.yield ((x.1,c)::r)) else pure (ForInStep.yield r)):Sem (List (Str×Addr)))=pure cl:=ecl
  first
   | exact (by simpa using congrArg (· >>= fun r=>pure r) this)
   | (rw [show (pure cl:Sem (List (Str×Addr)))=(pure cl >>= fun r=>pure r) from rfl,<- this];rfl)
 have hcle:∀ y c,cl.lookup y=some c->X.env.cells.lookup y=some c/\(y,NameKind.free)∈scope.names:=fun y c e=>by
  by_cases hy:(y,NameKind.free)∈scope.names
  .exact ⟨by rw [<- hcl1 y hy];exact e,hy⟩
  .rw [hcl2 y hy] at e;simp at e
 rw [exec_Assign_Name_used _ _ _ _ hsw]
 refine wpAny_bind (wpAny_standAt (wpAny_bind ?_))
 show wpAny _ X.A (do let _ <- comprehension (.ListComp elt [⟨.Name x px,iter,cs,0⟩] scope cpos) scope X.env _ (newList []) false (eval iter X.env) (some (assign (.Name y py) X.env))) _ _ s
 refine wpAny_bind (wpAny_mono (wpAny_comprehension_free (use:=some (assign (.Name y py) X.env)) (Q:=fun _ s'=>SP X pins D0 .next s') rfl hs hclos hkind hnames ?_) (fun _ s' hq=>wpAny_pure (wpAny_pure hq)) fun _ _ e=>e)
 refine thn (hi pins s σ H _ I h) fun v s1 h1=>thn h1 fun itv s2 h2=>?_
 obtain ⟨it,fp,tn,J,H2,e,I2,T,st2,f2,q2⟩:=h2
 subst e
 refine wpAny_newObj_type ?_
 generalize hs3:({ s2 with heap:=s2.heap.push { cls:=.type "list",dict:=none,data:=.seq ([]:List Value).toArray } }:Shared)=s3
 generalize hD:s2.heap.objs.size=D
 have hDn:H2 D=none:=by rw [<- hD];exact I2.hok.fresh (Nat.le_refl _)
 have I3:Inv X pins σ (upd H2 D (.lst [])) s3:=by
  rw [<- hs3,<- hD]
  exact I2.lnew (t':=s2.toks) (ys:=[]) (its:=[]) .nil (zero_le _)
 have k3:∀ b o,s2.heap.get? b=some o->s3.heap.get? b=some o:=fun b o e=>by rw [<- hs3];exact Heap.get?_push_of_some _ e
 have st3:tn 0 s3.heap:=T.keep _ _ _ st2 fun b _ o e=>k3 b o e
 have fne:∀ b∈fp,b≠D:=fun b hb=>by
  obtain ⟨o,e,_⟩:=T.obj _ _ st2 b hb
  rw [<- hD]
  exact ne_of_lt (Heap.lt_size e)
 have f3:∀ b∈fp,yll X pins (upd H2 D (.lst [])) b:=fun b hb=>⟨by rw [yU (fne b hb)];exact (f2 b hb).1,(f2 b hb).2⟩
 have q3:=q2 D hDn
 generalize upd H2 D (.lst [])=H3 at I3 f3 q3
 obtain ⟨W,⟨m0,w0⟩,turn⟩:=q3
 refine wpAny_newFunctionEnv hcell (by intro y hy;simp at hy) (fun h4 hns hsb=>?_) hkind
 try dsimp only at hns hsb ⊢
 generalize hC:s3.heap.objs.size=C at hns hsb ⊢
 have k4:∀ b o,s3.heap.get? b=some o->h4.get? b=some o:=fun b o e=>(hsb.2 b (by rw [<- hC];exact ne_of_lt (Heap.lt_size e))).trans (Heap.get?_push_of_some _ e)
 have Cne:∀ b o,s3.heap.get? b=some o->b≠C:=fun b o e=>by rw [<- hC];exact ne_of_lt (Heap.lt_size e)
 have stk:=I3.stkSub
 have pinF:∀ p∈X.pn++pins,p.1∉frs X.stack:=fun p hp z=>by
  obtain ⟨_,_,n1,n2,_⟩:=I3.pin p hp
  rcases mem_cons.mp (stk _ z) with z|z
  .exact n1 z
  .exact n2 z
 have okC:(cxC X scope cl C (x::fr) s3 H3 fp pins).Ok:=by
  refine ⟨I3.ok.mod,by show (relabel scope X.env).kind=_;exact hkind,I3.ok.glob,I3.ok.blt,le_of_eq hC,fun y z c h1 h2=>I3.ok.inj y z c (hcle y c h1).1 (hcle z c h2).1,fun y hy=>?_,fun y c hf _=>(by cases hf),I3.ok.hd,I3.ok.frames,.inl rfl,fun b hb=>⟨?_,fun y c e z=>?_⟩,I3.bs,?_,fun b o e hb=>?_,fun b hb z=>?_,I3.stack,I3.stkFree⟩
  .have hy:((relabel scope X.env).names.lookup y=some .cell)\/((relabel scope X.env).names.lookup y=some .free):=hy
   rw [show (relabel scope X.env).names.lookup y=_ from ybt y scope.names] at hy
   cases e:scope.names.lookup y with
   | none=>rw [e] at hy;simp at hy
   | some k =>
    have hm:(y,k)∈scope.names:=PySem.mem_of_lookup e
    have hkf:k=.free:=by
     rw [e] at hy
     cases k<;>simp at hy ⊢
     exact absurd rfl (hcell _ hm)
    subst hkf
    obtain ⟨c,hc'⟩:=I3.ok.has y (.inl (hfree _ hm rfl).1)
    exact ⟨c,by show cl.lookup y=_;rw [hcl1 y hm];exact hc'⟩
  .obtain ⟨o,e,_⟩:=T.obj _ _ st3 b hb
   exact Cne b o e
  .exact (f3 b hb).2.2.2.2.1 y c (hcle y c e).1 z
  .exact Nat.le_trans I3.ok.bsz I3.sz
  .rcases (f3 b hb).2.2.2.1 with z|z
   .exact I3.ok.noex b o e z
   .exact absurd (lt_of_lt_of_le (Heap.lt_size e) (Nat.le_trans I3.ok.bsz z)) (lt_irrefl _)
  .rcases mem_cons.mp (stk _ z) with z|z
   .exact (f3 b hb).2.1 z
   .exact (f3 b hb).2.2.1 z
 have inn:∀ v,(inner ix σ v)=some v::ix.map fun i=>(σ[i]?).getD none:=fun _=>rfl
 have I4:Inv (cxC X scope cl C (x::fr) s3 H3 fp pins) [] (none::ix.map fun i=>(σ[i]?).getD none) H3 { s3 with heap:=h4,toks:=s3.toks+([]:List (Str×Value)).length }:=by
  refine ⟨okC,rfl,I3.bare,Un.kept k4,⟨_,hns,fun j y v e1 e2 e3=>?_⟩,fun y c e=>?_,I3.hok.fresh (le_of_eq hC),fun y c e=>I3.freeC y c (hcle y c e).1,fun p hp=>?_,I3.hok.kept k4,?_⟩
  .match j,e1,e2 with
   | 0,e1,e2=>simp at e2
   | j+1,e1,e2 =>
    obtain ⟨i,hi1,hi2,hi3,hi4⟩:=hfr.get (j:=j) (y:=y) (by have e1':(x::fr)[j+1]?=some y:=e1;simpa using e1')
    have e2':σ[i]?=some (some v):=by
     have e2:(ix.map fun i=>(σ[i]?).getD none)[j]?=some (some v):=by simpa using e2
     rw [getElem?_map,hi1] at e2
     simp at e2
     cases z:σ[i]? with
     | none=>rw [z] at e2;simp at e2
     | some o=>rw [z] at e2;simp at e2;rw [e2]
    obtain ⟨m,_,hl⟩:=I3.loc
    obtain ⟨u,r,l⟩:=hl i y v hi2 e2' (.inr (.inl hi4))
    refine ⟨u,r,?_⟩
    rcases l with ⟨k,_⟩|⟨k,c,ec,z⟩
    .rw [hi4] at k;cases k
    .have hm:(y,NameKind.free)∈scope.names:=PySem.mem_of_lookup hi3
     refine .inr ⟨.inl ?_,c,by show cl.lookup y=_;rw [hcl1 y hm];exact ec,?_⟩
     .show (relabel scope X.env).names.lookup y=_
      rw [show (relabel scope X.env).names.lookup y=_ from ybt y scope.names,hi3]
      simp [hfn,hi4]
     .obtain ⟨o,ho,hd⟩:=z
      exact ⟨o,k4 _ _ ho,hd⟩
  .obtain ⟨v,o,ho,hd⟩:=I3.cell y c (hcle y c e).1
   exact ⟨v,o,k4 _ _ ho,hd⟩
  .have hp:p∈X.pn++pins:=by simpa [cxC] using hp
   obtain ⟨e,n,ne,nf,d⟩:=I3.pin p hp
   exact ⟨k4 _ _ e,n,Cne _ _ e,pinF p hp,d⟩
  .show (none::ix.map fun i=>(σ[i]?).getD none).length=(x::fr).length
   rw [length_cons,length_cons,length_map,hfr.len]
 have st4:tn 0 h4:=T.keep _ _ _ st3 fun b _ o e=>k4 b o e
 have f4:∀ b∈fp,b≠C/\b∉frs X.stack/\(∀ y c,cl.lookup y=some c->c≠b)/\∀ p∈(X.pn++pins)++([]:List (Addr×Obj)),p.1≠b:=fun b hb=>by
  obtain ⟨o,e,_⟩:=T.obj _ _ st3 b hb
  refine ⟨Cne b o e,fun z=>?_,fun y c e=>(f3 b hb).2.2.2.2.1 y c (hcle y c e).1,fun p hp=>(f3 b hb).2.2.2.2.2 p (by simpa using hp)⟩
  rcases mem_cons.mp (stk _ z) with z|z
  .exact (f3 b hb).2.1 z
  .exact (f3 b hb).2.2.1 z
 have stat:∀ {H':Hp},(∀ b∈fp,H' b=none)->∀ b∈fp,yll (cxC X scope cl C (x::fr) s3 H3 fp pins) [] H' b:=fun hn b hb=>⟨hn b hb,(f4 b hb).1,(f4 b hb).2.1,.inl hb,(f4 b hb).2.2.1,(f4 b hb).2.2.2⟩
 have fin:∀ {σ':St}{H':Hp}{s':Shared},Inv (cxC X scope cl C (x::fr) s3 H3 fp pins) [] σ' H' s'->ynz iy (.ref D) σ H' D0.nx->compPost (model X.prog X.w) X.A X.xe (some (assign (.Name y py) X.env)) (fun _ s'=>SP X pins D0 .next s') (.ref D) C (.ok .next) s':=fun {σ' H' s'} I' q'=>by
  obtain ⟨m,hn,_⟩:=I'.loc
  have hCn:H' C=none:=I'.free
  have U:=I'.base
  have U':Un (frs X.stack) fp H3 H' s3.heap s'.heap:=⟨U.keep,U.slot,U.free,U.there,U.tups,U.frzs,U.tbls⟩
  have IX:Inv X pins σ H' s':=I3.call' (s':=s') (by show s'.os=s3.os;exact I'.os) U' I'.hok I'.bare fun b hb=>⟨(f3 b hb).2.2.2.1,(f3 b hb).2.1,(f3 b hb).2.2.2.2.1,(f3 b hb).2.2.2.2.2⟩
  have hCf:yll X pins H' C:=I3.fpOk (le_of_eq hC) hCn
  obtain ⟨o,es,ep,eo,r1,r2,r3⟩:=hn
  have IP:=IX.pinned (fp:=[C]) (fun b hb=>by have e:b=C:=(by simpa using hb);subst e;exact hCf) (fun b hb=>by have e:b=C:=(by simpa using hb);subst e;exact ⟨o,eo,fun v z=>by rw [r1] at z;cases z⟩)
  refine thn (yfO hN hyi hyx hyf _ s' σ H' (.ref D) (.ref D) D0.nx IP rfl q') fun _ s2 ⟨σ2,H2',I2',q2'⟩=>?_
  have pc:=I2'.pin (C,o) (mem_append_right _ (mem_append_right _ (yba (by simp) eo)))
  exact ⟨m,⟨o,es,ep,pc.1,r1,r2,r3⟩,fun h' sb=>⟨σ2,H2',I2'.unpinned.turned (t':=s2.toks) (fun b ob hb e=>(sb.2 b hb).trans e) pc.2.1 hCf.2.1 hCf.2.2.2.1 hCf.2.2.2.2.1 hCf.2.2.2.2.2,q2'⟩⟩
 have loop:∀ s5:Shared,s5={ s3 with heap:=h4,toks:=s3.toks+([]:List (Str×Value)).length } ->
   codeAny (model X.prog X.w) X.A (.compLoop (.ListComp elt [⟨.Name x px,iter,cs,0⟩] scope cpos) 0 (.ref it) (.ref D) (compEnvC scope cl C X.env)) (compPost (model X.prog X.w) X.A X.xe (some (assign (.Name y py) X.env)) (fun _ s'=>SP X pins D0 .next s') (.ref D) C) s5:=by
  rintro s5 rfl
  refine codeAny_loop rfl (fun n s'=>∃ i o H',Inv (cxC X scope cl C (x::fr) s3 H3 fp pins) [] (o::ix.map fun i=>(σ[i]?).getD none) H' s'/\tn i s'.heap/\(∀ b∈fp,H' b=none)/\W i n H') ?_ m0 ⟨0,none,H3,I4,st4,fun b hb=>(f3 b hb).1,w0⟩
  rintro n s6 ⟨i,o,H6,I6,st6,fr6,w6⟩
  show wpAny _ _ ((compTurn (.ListComp elt [⟨.Name x px,iter,cs,0⟩] scope cpos) 0 (.ref it) (.ref D) (compEnvC scope cl C X.env)).onRaise (fun x=>do noteFrame x (compEnvC scope cl C X.env);theTreesLotGoes x)) _ _ s6
  refine wpAny_noted ?_
  rw [compTurn_list]
  rcases turn i n H6 w6 with ⟨stop,qn⟩|⟨go,step⟩
  .refine wpAny_bind (wpAny_standAt (wpAny_bind (thn (T.done (cxC X scope cl C (x::fr) s3 H3 fp pins) rfl rfl rfl hc i [] s6 _ H6 _ I6 (stat fr6) st6 stop) fun r s7 ⟨hr,I7⟩=>?_)))
   subst hr
   exact wpAny_pure (fin I7 qn)
  .refine wpAny_bind (wpAny_standAt (wpAny_bind (thn (T.item (cxC X scope cl C (x::fr) s3 H3 fp pins) rfl rfl rfl hc i [] s6 _ H6 _ I6 (stat fr6) st6 go) fun r s7 ⟨u,hr,h7⟩=>?_)))
   subst hr
   refine wpAny_bind (thn h7 fun _ s8 ⟨y,H8,I8,r8,y8,st8,fr8⟩=>?_)
   have I8':=I8.pinned (stat fr8) (T.obj _ _ st8)
   have hx':Loc (cxC X scope cl C (x::fr) s3 H3 fp pins).env.scope x:=.inl (lookup_relabel_local hx)
   refine wpAny_bind (wpAny_mono (yfO (X:=cxC X scope cl C (x::fr) s3 H3 fp pins) (i:=0) (x:=x) (pos:=px) hnd rfl hx' (.inr (lookup_relabel_local hx)) _ s8 _ H8 y u (fun σ9 H9=>σ9=inner ix σ y/\H9=H8) I8' r8 ⟨rfl,rfl⟩) (fun _ s9 ⟨σ9,H9,I9,e9,e9'⟩=>?_) fun _ _ f=>f.elim)
   subst e9 e9'
   refine wpAny_bind (wpAny_mono (hq cl C s3 H3 fp pins _ s9 _ _ _ I9 (step y _ y8)) (fun kb s9b hkb=>?_) fun _ _ f=>f.elim)
   obtain ⟨H9b,I9b,q9b⟩:=hkb
   cases kb with
   | false =>
    rw [if_neg (by decide)] at q9b
    obtain ⟨m',hm',w10⟩:=q9b
    refine wpAny_pure ⟨rfl,m',hm',i+1,some y,_,I9b.unpinned,T.keep _ _ _ st8 fun b hb o e=>(I9b.pin (b,o) (mem_append_right _ (mem_append_right _ (yba hb e)))).1,fun b hb=>?_,w10⟩
    obtain ⟨o,e,d⟩:=T.obj _ _ st8 b hb
    exact (I9b.pin (b,o) (mem_append_right _ (mem_append_right _ (yba hb e)))).2.1
   | true =>
   rw [if_pos rfl] at q9b
   refine wpAny_bind (wpAny_bind (wpAny_mono (he cl C s3 H3 fp pins _ s9b _ _ _ I9b q9b) (fun v s10 ⟨z,H10,I10,r10,acc,a10,l10,m',hm',w10⟩=>?_) fun _ _ f=>f.elim))
   refine wpAny_bind (wpAny_mono (ycW (X:=cxC X scope cl C (x::fr) s3 H3 fp pins) _ s10 _ H10 (.ref D) [z] (.ref D) [v] (fun _ H11=>H11=upd H10 D (.lst (acc++[z]))) I10 rfl (.cons r10 .nil) ⟨D,acc,z,rfl,rfl,a10,l10,rfl⟩) (fun _ s11 ⟨_,H11,I11,_,e11⟩=>?_) fun _ _ f=>f.elim)
   subst e11
   refine wpAny_pure (wpAny_pure ⟨rfl,m',hm',i+1,some y,_,I11.unpinned,T.keep _ _ _ st8 fun b hb o e=>(I11.pin (b,o) (mem_append_right _ (mem_append_right _ (yba hb e)))).1,fun b hb=>?_,w10⟩)
   obtain ⟨o,e,d⟩:=T.obj _ _ st8 b hb
   exact (I11.pin (b,o) (mem_append_right _ (mem_append_right _ (yba hb e)))).2.1
 exact codeAny_compStart_list (loop _ rfl) (T.self X.A 0 _ _ _ st4 (loop _ rfl))
end L2
namespace PX
open PySem L2 PySem.Spec PyProof.Rows
section
variable (K:Ck)
noncomputable def cE (x:XE):TE:=fun σ H Q=>∃ (W0 W:Wd) (ρ:PSt) (y:PV) (h':AH),W.H=H/\Good K W0 W ρ σ/\x ρ W.h=some (y,h')/\∀ v W',W'.h=h'->Le K W W'->yda K W' y v->Q v W'.H
def cO (x:XO):TE:=fun σ H Q=>∃ (W0 W:Wd) (ρ:PSt) (d:Nd) (h':AH),W.H=H/\Good K W0 W ρ σ/\x ρ W.h=some (d,h')/\∀ p W',W'.h=h'->Le K W W'->p∉W'.m->W.H p=none->d≠.dead->NdAt K W'.F W'.H W'.m d p->Q (.ref p) W'.H
noncomputable def cT (x:XT):TT:=fun σ H Q=>∃ (W0 W:Wd) (ρ:PSt) (y:Bool) (h':AH),W.H=H/\Good K W0 W ρ σ/\x ρ W.h=some (y,h')/\∀ W',W'.h=h'->Le K W W'->Q y W'.H
noncomputable def cA (x:XA):TA:=fun σ H Q=>∃ (W0 W:Wd) (ρ:PSt) (y:List PV) (h':AH),W.H=H/\Good K W0 W ρ σ/\x ρ W.h=some (y,h')/\∀ v W',W'.h=h'->Le K W W'->ycL K W' y v->Q v W'.H
noncomputable def cI (x:XA):TI:=fun σ H R=>∃ (W0 W:Wd) (ρ:PSt) (y:List PV) (h':AH),W.H=H/\Good K W0 W ρ σ/\x ρ W.h=some (y,h')/\∀ J W',W'.h=h'->Le K W W'->yyV K W' J y->R J W'.H
noncomputable def cG (y:XG):TG:=fun v σ H Q=>∃ (W0 W:Wd) (ρ ρ':PSt) (x:PV),W.H=H/\Good K W0 W ρ σ/\yda K W x v/\y x ρ=some ρ'/\∀ σ',Good K W0 W ρ' σ'->Q σ' W.H
noncomputable def cGs (y:XGs):TGs:=fun v σ H Q=>∃ (W0 W:Wd) (ρ ρ':PSt) (x:List PV),W.H=H/\Good K W0 W ρ σ/\ycL K W x v/\y x ρ=some ρ'/\∀ σ',Good K W0 W ρ' σ'->Q σ' W.H
def cS (s:XS):TS:=fun D σ H=>∃ (W0 W:Wd) (ρ:PSt) (o:Out) (h':AH),W.H=H/\Good K W0 W ρ σ/\s ρ W.h=some (o,h')/\Ends.Ok K W0 W D h' o
noncomputable def cF (s:XS):TS:=fun D σ H=>∃ (W0 W:Wd) (ρ ρ':PSt) (h':AH),W.H=H/\Good K W0 W ρ σ/\s ρ W.h=some (.nx ρ',h')/\∀ W',W'.h=h'->Lf K W W'->Good K W0 W' ρ' σ->D.nx σ W'.H
end
section
variable {K:Ck}
theorem sE {x:XE}:ycH K (cE K x) x:=fun W0 W ρ σ Q y h' g e q=>⟨W0,W,ρ,y,h',rfl,g,e,q⟩
theorem sO {x:XO}:yln K (cO K x) x:=fun W0 W ρ σ Q y h' g e q=>⟨W0,W,ρ,y,h',rfl,g,e,q⟩
theorem sT {x:XT}:yjK K (cT K x) x:=fun W0 W ρ σ Q y h' g e q=>⟨W0,W,ρ,y,h',rfl,g,e,q⟩
theorem sA {x:XA}:ylm K (cA K x) x:=fun W0 W ρ σ Q y h' g e q=>⟨W0,W,ρ,y,h',rfl,g,e,q⟩
theorem sI {x:XA}:yrt K (cI K x) x:=fun W0 W ρ σ Q y h' g e q=>⟨W0,W,ρ,y,h',rfl,g,e,q⟩
theorem sG {y:XG}:yro K (cG K y) y:=fun W0 W ρ ρ' σ x v Q g r e q=>⟨W0,W,ρ,ρ',x,rfl,g,r,e,q⟩
theorem sGs {y:XGs}:ynN K (cGs K y) y:=fun W0 W ρ ρ' σ x v Q g r e q=>⟨W0,W,ρ,ρ',x,rfl,g,r,e,q⟩
theorem sS {s:XS}:yge K (cS K s) s:=fun W0 W ρ σ D o h' g e q=>⟨W0,W,ρ,o,h',rfl,g,e,q⟩
theorem sF {s:XS}:yqG K (cF K s) s:=fun W0 W ρ ρ' σ D h' g e q=>⟨W0,W,ρ,ρ',h',rfl,g,e,q⟩
end
abbrev ckX (X:Cx) (A:Nat->Addr):Ck:=⟨X.K,A⟩
structure ZE (X:Cx) (A:Nat->Addr) (e:Expr) (x:XE):Prop where of:PE X e (cE (ckX X A) x)
structure ZO (X:Cx) (A:Nat->Addr) (e:Expr) (x:XO):Prop where of:PE X e (cO (ckX X A) x)
structure ZT (X:Cx) (A:Nat->Addr) (e:Expr) (x:XT):Prop where of:PT X e (cT (ckX X A) x)
structure ZW (X:Cx) (A:Nat->Addr) (e:Expr) (x:XT):Prop where of:PW X e (cT (ckX X A) x)
structure ZA (X:Cx) (A:Nat->Addr) (e:List Expr) (n:Nat) (x:XA):Prop where
 of:PA X e (cA (ckX X A) x)
 len:∀ ρ h xs h',x ρ h=some (xs,h')->xs.length=n
structure ZI (X:Cx) (A:Nat->Addr) (tg e:Expr) (x:XA):Prop where of:PI X tg e (cI (ckX X A) x)
structure ZG (X:Cx) (A:Nat->Addr) (e:Expr) (y:XG):Prop where of:PG X e (cG (ckX X A) y)
structure ZGs (X:Cx) (A:Nat->Addr) (e:List Expr) (y:XGs):Prop where of:PGs X e (cGs (ckX X A) y)
structure ZS (X:Cx) (A:Nat->Addr) (e:Stmt) (s:XS):Prop where of:PS X e (cS (ckX X A) s)
structure ZSs (X:Cx) (A:Nat->Addr) (e:List Stmt) (s:XS):Prop where of:PSs X e (cS (ckX X A) s)
structure ZF (X:Cx) (A:Nat->Addr) (e:Stmt) (s:XS):Prop where of:PS X e (cF (ckX X A) s)
structure ZFs (X:Cx) (A:Nat->Addr) (e:List Stmt) (s:XS):Prop where of:PSs X e (cF (ckX X A) s)
section
variable {X:Cx}{A:Nat->Addr}{e:Expr}{es:List Expr}
theorem wE {t:TE}{x:XE}(p:PE X e t) (s:ycH (ckX X A) t x):ZE X A e x:=⟨fun pins st σ H Q I ⟨W0,W,ρ,y,h',eh,g,ex,q⟩=>by subst eh;exact p pins st σ _ Q I (s W0 W ρ σ Q y h' g ex q)⟩
theorem wO {t:TE}{x:XO}(p:PE X e t) (s:yln (ckX X A) t x):ZO X A e x:=⟨fun pins st σ H Q I ⟨W0,W,ρ,y,h',eh,g,ex,q⟩=>by subst eh;exact p pins st σ _ Q I (s W0 W ρ σ Q y h' g ex q)⟩
theorem wT {t:TT}{x:XT}(p:PT X e t) (s:yjK (ckX X A) t x):ZT X A e x:=⟨fun pins st σ H Q I ⟨W0,W,ρ,y,h',eh,g,ex,q⟩=>by subst eh;exact p pins st σ _ Q I (s W0 W ρ σ Q y h' g ex q)⟩
theorem wW {t:TT}{x:XT}(p:PW X e t) (s:yjK (ckX X A) t x):ZW X A e x:=⟨fun wh pins st σ H Q I ⟨W0,W,ρ,y,h',eh,g,ex,q⟩=>by subst eh;exact p wh pins st σ _ Q I (s W0 W ρ σ Q y h' g ex q)⟩
theorem wA {t:TA}{x:XA}{n:Nat}(p:PA X es t) (s:ylm (ckX X A) t x) (l:∀ ρ h xs h',x ρ h=some (xs,h')->xs.length=n):ZA X A es n x:=⟨fun pos pins st σ H Q I ⟨W0,W,ρ,y,h',eh,g,ex,q⟩=>by subst eh;exact p pos pins st σ _ Q I (s W0 W ρ σ Q y h' g ex q),l⟩
theorem wI {tg:Expr}{t:TI}{x:XA}(p:PI X tg e t) (s:yrt (ckX X A) t x):ZI X A tg e x:=⟨fun pins st σ H Q I ⟨W0,W,ρ,y,h',eh,g,ex,q⟩=>by subst eh;exact p pins st σ _ Q I (s W0 W ρ σ Q y h' g ex q)⟩
theorem wG {t:TG}{y:XG}(p:PG X e t) (s:yro (ckX X A) t y):ZG X A e y:=⟨fun pins st σ H v u Q I rv ⟨W0,W,ρ,ρ',x,eh,g,r,ex,q⟩=>by subst eh;exact p pins st σ _ v u Q I rv (s W0 W ρ ρ' σ x v Q g r ex q)⟩
theorem wGs {t:TGs}{y:XGs}(p:PGs X es t) (s:ynN (ckX X A) t y):ZGs X A es y:=⟨fun pins st σ H v u Q I rv ⟨W0,W,ρ,ρ',x,eh,g,r,ex,q⟩=>by subst eh;exact p pins st σ _ v u Q I rv (s W0 W ρ ρ' σ x v Q g r ex q)⟩
theorem wS {st:Stmt}{t:TS}{x:XS}(p:PS X st t) (s:yge (ckX X A) t x):ZS X A st x:=⟨fun pins st σ H D I ⟨W0,W,ρ,o,h',eh,g,ex,q⟩=>by subst eh;exact p pins st σ _ D I (s W0 W ρ σ D o h' g ex q)⟩
theorem wSs {st:List Stmt}{t:TS}{x:XS}(p:PSs X st t) (s:yge (ckX X A) t x):ZSs X A st x:=⟨fun pins st σ H D I ⟨W0,W,ρ,o,h',eh,g,ex,q⟩=>by subst eh;exact p pins st σ _ D I (s W0 W ρ σ D o h' g ex q)⟩
theorem wF {st:Stmt}{t:TS}{x:XS}(p:PS X st t) (s:yqG (ckX X A) t x):ZF X A st x:=⟨fun pins st σ H D I ⟨W0,W,ρ,ρ',h',eh,g,ex,q⟩=>by subst eh;exact p pins st σ _ D I (s W0 W ρ ρ' σ D h' g ex q)⟩
theorem wFs {st:List Stmt}{t:TS}{x:XS}(p:PSs X st t) (s:yqG (ckX X A) t x):ZFs X A st x:=⟨fun pins st σ H D I ⟨W0,W,ρ,ρ',h',eh,g,ex,q⟩=>by subst eh;exact p pins st σ _ D I (s W0 W ρ ρ' σ D h' g ex q)⟩
end
structure Nm (x:Str):Prop where
 d:(x == ("__debug__":Str))=false
 c:(x == ("__classdict__":Str))=false
 n:x≠"__name__"
section
variable {X:Cx}{A:Nat->Addr}{a b c o:Expr}{es:List Expr}{xa xb xc:XE}{xo:XO}{aa:XA}{pos p apos:Pos}{x:Str}{n k:Nat}
theorem yeW {j}:ZE X A (.Constant .none j pos) (xC .non):=wE yvK ytX
theorem ynU {b j}:ZE X A (.Constant (.bool b) j pos) (xC (.bl b)):=wE yyt ywr
theorem ym {i j}:ZE X A (.Constant (.int i) j pos) (xC (.int i)):=wE yvJ yoY
theorem yC {x j}:ZE X A (.Constant (.str x) j pos) (xC (.str x)):=wE yvL yoZ
theorem z_v {i:Nat}(m:Nm x:=by exact ⟨by rfl',by rfl',by rfl'⟩) (hN:X.N[i]?=some x:=by rfl) (hv:Vis X.env.scope x:=by first|exact Or.inl rfl|exact Or.inr (Or.inl rfl)):ZE X A (.Name x pos) (ye i):=wE (yhn hN hv m.d m.c) (ytW i)
theorem yeJ {n:Int}{t:Tok}(hm:X.mg x=some (.int n t)) (m:Nm x:=by exact ⟨by rfl',by rfl',by rfl'⟩) (hg:Gl X x:=by rfl):ZE X A (.Name x pos) (xC (.int n)):=wE (ytP hg hm m.d) yoY
theorem ynf {n:Str}{t:Tok}(hm:X.mg x=some (.str n t)) (m:Nm x:=by exact ⟨by rfl',by rfl',by rfl'⟩) (hg:Gl X x:=by rfl):ZE X A (.Name x pos) (xC (.str n)):=wE (ytQ hg hm m.d) yoZ
theorem yeK {k:Nat}(hm:X.mg x=some (.ref (A k))) (m:Nm x:=by exact ⟨by rfl',by rfl',by rfl'⟩) (hg:Gl X x:=by rfl):ZE X A (.Name x pos) (xC (.cls k)):=wE (ylF hg hm m.d) (ytY (K:=ckX X A))
theorem ykH {n:String}(hm:X.mg x=none) (m:Nm x:=by exact ⟨by rfl',by rfl',by rfl'⟩) (hg:Gl X x:=by rfl) (hv:bootBuiltins x=some (.type n):=by rfl'):ZE X A (.Name x pos) (xC (.ty n)):=wE (ywl hg hm hv m.n m.d) yws
theorem ybR (h:ZO X A a xo):ZE X A a (xFz xo):=wE h.of (yte sO)
theorem yeo (h:ZO X A a xo):ZE X A a (yfZ xo):=wE h.of (ypb sO)
theorem ybP {op:Operator}{r:R2}{q:P2}(ho:OpR X (binaryOp op) r) (hq:ycB (ckX X A) r q) (ha:ZE X A a xa) (hb:ZE X A b xb):ZE X A (.BinOp a op b pos) (xOp q xa xb):=wE (ywa ho ha.of hb.of) (ymQ hq sE sE)
theorem ygj {op:Operator}{r:R2}{q:P2O}(ho:OpR X (binaryOp op) r) (hq:ymP (ckX X A) r q) (ha:ZE X A a xa) (hb:ZE X A b xb):ZO X A (.BinOp a op b pos) (yjL q xa xb):=wO (ywa ho ha.of hb.of) (ytZ hq sE sE)
theorem yAM {op:UnaryOp}{r} {q} (ho:UnR X (unaryOp op) r) (hq:ytV (ckX X A) r q) (ha:ZE X A a xa):ZE X A (.UnaryOp op a pos) (xUn q xa):=wE (yyA ho ha.of) (ywt hq sE)
theorem yuE (ha:ZE X A a xa):ZE X A (.UnaryOp .Not a pos) (ynL xa):=wE (yvU ha.of) (yrh sE)
theorem ymh {op:CmpOp}{r:R2}{q:P2}(ho:OpR X (compareOp op) r) (hq:ycB (ckX X A) r q) (ha:ZE X A a xa) (hb:ZE X A b xb) (hm:behindInMarks op b=false:=by first|exact ymG _|with_unfolding_all rfl):ZE X A (.Compare a [op] [b] pos) (xOp q xa xb):=wE (ytG ho ha.of hb.of hm) (ymQ hq sE sE)
theorem ymi {op op':CmpOp}{r r':R2}{q q':P2}(ho:OpR X (compareOp op) r) (ho':OpR X (compareOp op') r') (hq:ycB (ckX X A) r q) (hq':ycB (ckX X A) r' q') (ha:ZE X A a xa) (hb:ZE X A b xb) (hc:ZE X A c xc) (hm:lastMarks [op,op'] [b,c]=false:=by first|exact ymG _|with_unfolding_all rfl):ZE X A (.Compare a [op,op'] [b,c] pos) (ydF q q' xa xb xc):=wE (yqN ho ho' ha.of hb.of hc.of hm) (ykp hq hq' sE sE sE)
theorem ypN {op} (h:ZE X A a xa):ZE X A (.BoolOp op [a] pos) xa:=⟨yvS h.of⟩
theorem ynV (ha:ZE X A a xa) (hb:ZE X A (.BoolOp .And (b::es) pos) xb):ZE X A (.BoolOp .And (a::b::es) pos) (yiW xa xb):=wE (yvT ha.of hb.of) (yrg sE sE)
section
variable {ca cb:XT}
theorem yuF (hc:ZT X A c ca) (ha:ZE X A a xa) (hb:ZE X A b xb):ZE X A (.IfExp c a b pos) (xIf ca xa xb):=wE (yqJ hc.of ha.of hb.of) (yww sT sE sE)
theorem yI {op:CmpOp}{r:R2}{q:P2}(ho:OpR X (compareOp op) r) (hq:ycB (ckX X A) r q) (ha:ZE X A a xa) (hb:ZE X A b xb) (hm:behindInMarks op b=false:=by first|exact ymG _|with_unfolding_all rfl):ZT X A (.Compare a [op] [b] pos) (yy (xOp q xa xb)):=wT (ytI ho ha.of hb.of hm) (yiY (ymQ hq sE sE))
theorem ydS {op op':CmpOp}{r r':R2}{q q':P2}(ho:OpR X (compareOp op) r) (ho':OpR X (compareOp op') r') (hq:ycB (ckX X A) r q) (hq':ycB (ckX X A) r' q') (ha:ZE X A a xa) (hb:ZE X A b xb) (hc:ZE X A c xc) (hm:lastMarks [op,op'] [b,c]=false:=by first|exact ymG _|with_unfolding_all rfl):ZT X A (.Compare a [op,op'] [b,c] pos) (yy (ydF q q' xa xb xc)):=wT (yqO ho ho' ha.of hb.of hc.of hm) (yiY (ykp hq hq' sE sE sE))
theorem ycm (ha:ZT X A a ca):ZT X A (.UnaryOp .Not a pos) (ygz ca):=wT (yvP ha.of) (yub sT)
theorem ybr (h:ZE X A a xa) (he:∀ whole,isTrue a X.env whole=(do let v <- whole;standAt a.pos;holding [v] (truthy v)):=by exact fun _=>rfl):ZT X A a (yy xa):=wT (yvM h.of he) (ywu sE)
theorem yjM (h:ZW X A a ca):ZT X A a ca:=⟨PW.pt h.of⟩
theorem ypO (ha:ZT X A a ca) (hb:ZW X A (.BoolOp .And (b::es) pos) cb):ZW X A (.BoolOp .And (a::b::es) pos) (yvw ca cb):=wW (yvO ha.of hb.of) (yua sT sT)
theorem yeX (ha:ZT X A a ca) (hb:ZW X A (.BoolOp .Or (b::es) pos) cb):ZW X A (.BoolOp .Or (a::b::es) pos) (xOr ca cb):=wW (yyv ha.of hb.of) (ywv sT sT)
theorem ymj (ha:ZT X A a ca):ZW X A (.BoolOp .And [a] pos) ca:=⟨ytE ha.of⟩
theorem ydH (ha:ZT X A a ca):ZW X A (.BoolOp .Or [a] pos) ca:=⟨yvN ha.of⟩
end
theorem yc:ZA X A [] 0 yg:=wA yim ylQ ylT
theorem ya (ha:ZE X A a xa) (hr:ZA X A es n aa) (hs:starEach (a::es) X.env=(false,eval a X.env)::starEach es X.env:=by rfl):ZA X A (a::es) (n+1) (yb xa aa):=wA (yex ha.of hr.of hs) (yri sE sA) (yrl hr.len)
theorem ybF (h:ZA X A es n aa):ZO X A (.List es pos) (ydn aa):=wO (ysV h.of) (yud sA)
theorem ydI {q} (h:ZA X A es n aa):ZE X A (.Tuple es q pos) (ygT aa):=wE (ywc h.of) (yuc sA)
section
variable {lo hi:Option Expr}{xl xh:PSt->AH->Option (Option Int×AH)}{p2:Pos}
end
theorem yfH {r:R2}{q:P2}(hr:IxR X r) (hq:ycB (ckX X A) r q) (ha:ZE X A a xa) (hb:ZE X A b xb) (hs:yoM b:=by exact fun _ _=>rfl):ZE X A (.Subscript a b pos) (xOp q xa xb):=wE (yyE hr ha.of hb.of hs) (ymQ hq sE sE)
theorem ybC {cs:List Nat}{f:Str}(hc:∀ k∈cs,Cls X.K (A k)/\NoAttr X.K (A k) f) (ha:ZE X A a xa) (hb:attributeBase a f X.env (eval a X.env)=eval a X.env:=by rfl):ZE X A (.Attribute a f pos) (ydp cs f xa):=wE (ywb ha.of hb) (yuq (K:=ckX X A) hc sE)
section
variable {f C:Addr}{fd:FuncData}{ps:List Str}{lv:Nat}{fn:Fn}
theorem yF (F:FnOk X.prog X.w X.K X.mg X.base CX0 lv f fd ps (spE (ckX X A) (n+1) fn)) (hm:X.mg x=some (.ref f)) (hk:keepIn X.K (.ref f)=true) (hb:Binds X.K fd ps []) (ha:ZA X A (a::es) (n+1) aa) (hr:Room lv X.A:=by exact hr.mono (by omega)) (m:Nm x:=by exact ⟨by rfl',by rfl',by rfl'⟩) (hg:Gl X x:=by rfl) (he:starEach (a::es) X.env=(false,eval a X.env)::starEach es X.env:=by rfl) (hpl:(backTo pos (starEach es X.env)).any (·.1)=false:=by rfl):ZE X A (.Call (.Name x p) (a::es) [] pos) (yN fn aa) :=
 wE (ylt F hr hg hm hk hb .nil yib ha.of m.d he hpl) (yrk sA ha.len)
theorem yeY {k:Nat}{fi} (M:Mk X.K (A k) f) (F:FnOk X.prog X.w X.K X.mg X.base CX0 lv f fd ps (spI (ckX X A) (n+1) k fi)) (hm:X.mg x=some (.ref (A k))) (hb:Binds X.K fd ps []) (ha:ZA X A (a::es) (n+1) aa) (hr:Room (lv+1) X.A:=by exact hr.mono (by omega)) (m:Nm x:=by exact ⟨by rfl',by rfl',by rfl'⟩) (hg:Gl X x:=by rfl) (he:starEach (a::es) X.env=(false,eval a X.env)::starEach es X.env:=by rfl) (hpl:(backTo pos (starEach es X.env)).any (·.1)=false:=by rfl):ZO X A (.Call (.Name x p) (a::es) [] pos) (yfB fi aa) :=
 wO (ylu M F hr hg hm hb .nil yib ha.of m.d he hpl) (ymU (K:=ckX X A) (k:=k) sA ha.len)
theorem yuG {k:Nat}(hm:makesIn X.K (A k)=true) (hi:findIn X.K (.ref (A k)) "__init__" = some (some (.builtin "object.__init__"))) (hk:keepIn X.K (.ref (A k))=true) (hmg:X.mg x=some (.ref (A k))) (m:Nm x:=by exact ⟨by rfl',by rfl',by rfl'⟩) (hg:Gl X x:=by rfl):ZO X A (.Call (.Name x p) [] [] pos) (ymV k) :=
 wO (yqX hm hi hk hg hmg m.d) (ypr (K:=ckX X A))
theorem ypP {m:Str}{fm:Nat->Fn}{pl:Sem Bool}(he:ZE X A o xa) (G:ylE X.prog X.w X.K X.mg X.base lv A m (fun k=>spE (ckX X A) 1 (fm k))) (hr:Room lv X.A:=by exact hr.mono (by omega)) (ht:eval (.Call (.Attribute o m apos) [] [] pos) X.env=(do
   let ov <- eval o X.env
   standAt apos.atName
   let (f,first) <- holding [ov] (getMethod ov m pl)
   callWith pos f first (backTo pos (starEach [] X.env)) (backToKw pos (keywordEach [] X.env))):=by rfl):ZE X A (.Call (.Attribute o m apos) [] [] pos) (yrD m fm xa) :=
 wE (yoS he.of G hr ht) (yrE (K:=ckX X A) sE)
end
theorem ycM {id:String}{r} {q} (hc:yfP X (.builtin id) r) (hq:yhx (ckX X A) r q) (hm:X.mg x=none) (ha:ZA X A (a::es) n aa) (m:Nm x:=by exact ⟨by rfl',by rfl',by rfl'⟩) (hg:Gl X x:=by rfl) (hv:bootBuiltins x=some (.builtin id):=by rfl') (he:starEach (a::es) X.env=(false,eval a X.env)::starEach es X.env:=by rfl) (hpl:(backTo pos (starEach es X.env)).any (·.1)=false:=by rfl):ZE X A (.Call (.Name x p) (a::es) [] pos) (xCB q aa) :=
 wE (yiO hc hg hm hv ha.of m.n m.d he hpl) (ytf hq sA)
theorem yzS {T:String}{r} {q} (hc:yfP X (.type T) r) (hq:yhx (ckX X A) r q) (hm:X.mg x=none) (ha:ZA X A (a::es) n aa) (m:Nm x:=by exact ⟨by rfl',by rfl',by rfl'⟩) (hg:Gl X x:=by rfl) (hv:bootBuiltins x=some (.type T):=by rfl') (he:starEach (a::es) X.env=(false,eval a X.env)::starEach es X.env:=by rfl) (hpl:(backTo pos (starEach es X.env)).any (·.1)=false:=by rfl):ZE X A (.Call (.Name x p) (a::es) [] pos) (xCB q aa) :=
 wE (yjU hc hg hm hv ha.of m.n m.d he hpl) (ytf hq sA)
theorem ycX {T:String}{r} {q} (hc:yfP X (.type T) r) (hq:yoX (ckX X A) r q) (hm:X.mg x=none) (ha:ZA X A (a::es) n aa) (m:Nm x:=by exact ⟨by rfl',by rfl',by rfl'⟩) (hg:Gl X x:=by rfl) (hv:bootBuiltins x=some (.type T):=by rfl') (he:starEach (a::es) X.env=(false,eval a X.env)::starEach es X.env:=by rfl) (hpl:(backTo pos (starEach es X.env)).any (·.1)=false:=by rfl):ZO X A (.Call (.Name x p) (a::es) [] pos) (ygZ q aa) :=
 wO (yjU hc hg hm hv ha.of m.n m.d he hpl) (yue hq sA)
section
variable {name:Str}{cpos:Pos}{T id:String}{r:V->List V->Hp->VK->Prop}{cc:PV->AH->Bool}{q:PM}
theorem yyr (pa:PlainAttrs T) (slot:Slot T name id) (hty:typeOf (.builtin id)=pure (.type "method_descriptor")) (hm:MtR X id r) (hq:yrf (ckX X A) T cc r q) (ho:ZE X A o xa) (ha:ZA X A (a::es) n aa) (hbase:attributeBase o name X.env (eval o X.env)=eval o X.env:=by rfl) (hfew:((backTo cpos (starEach (a::es) X.env)).all (fun x=>!x.1) && (backToKw cpos (keywordEach [] X.env)).all (fun x=>x.1.isSome)
   && decide ((a::es).length+([]:List Keyword).length+(if ([]:List Keyword).isEmpty then 0 else 1)<30))=true:=by rfl) (hline:(apos.endLine == cpos.line)=true:=by rfl) (hs:starEach (a::es) X.env=(false,eval a X.env)::starEach es X.env:=by rfl) (hplain:(backTo cpos (starEach es X.env)).any (·.1)=false:=by rfl) :
  ZE X A (.Call (.Attribute o name apos) (a::es) [] cpos) (xBM cc q xa aa):=wE (yqT pa slot hty hm ho.of ha.of hbase hfew hline hs hplain) (ywx (K:=ckX X A) hq sE sA)
theorem ypQ {i:Nat}(ha:ZE X A a xa) (ho:PE X o (yny i):=by exact yhn rfl (by first|exact Or.inl rfl|exact Or.inr (Or.inl rfl)) (by rfl') (by rfl')) (hbase:attributeBase o "append" X.env (eval o X.env)=eval o X.env:=by rfl) (hfew:((backTo cpos (starEach [a] X.env)).all (fun x=>!x.1) && (backToKw cpos (keywordEach [] X.env)).all (fun x=>x.1.isSome)
   && decide ([a].length+([]:List Keyword).length+(if ([]:List Keyword).isEmpty then 0 else 1)<30))=true:=by rfl) (hline:(apos.endLine == cpos.line)=true:=by rfl) (hs:starEach [a] X.env=(false,eval a X.env)::starEach [] X.env:=by rfl) (hplain:(backTo cpos (starEach [] X.env)).any (·.1)=false:=by rfl) (hsw:swapsWith (.Call (.Attribute o "append" apos) [a] [] cpos) none pos.line X.env=pure false:=by rfl) :
  ZS X A (.Expr (.Call (.Attribute o "append" apos) [a] [] cpos) pos) (yiZ i xa) :=
 wS (ygA (yqT plainAttrs_list PySem.F.slot_list_append PySem.F.type_list_append ycW ho (yex ha.of yim hs) hbase hfew hline hs hplain) hsw) (yrs (K:=ckX X A) i sE)
end
section
variable {tg:Expr}
theorem yfT (h:ZE X A a xa):ZI X A tg a (xIL xa):=wI (yho h.of) (ypf (K:=ckX X A) sE)
theorem yxr (h:ZE X A a xa):ZI X A tg a (xIS xa):=wI (ywk h.of) (yru sE)
theorem ygI (hm:X.mg "range" = none) (ha:ZA X A [a] n aa) (hg:Gl X "range":=by rfl) (hs:starEach [a] X.env=[(false,eval a X.env)]:=by rfl):ZI X A tg (.Call (.Name "range" p) [a] [] pos) (yjb aa):=wI (yox hg hm ha.of hs) (ypg sA)
end
theorem yeZ {i:Nat}(hN:X.N.Nodup:=by exact nd) (hi:X.N[i]?=some x:=by rfl) (hx:Loc X.env.scope x:=by first|exact Or.inl rfl|exact Or.inr rfl) (hf:X.fn x=true\/X.env.scope.names.lookup x=some .local:=by exact Or.inl rfl):ZG X A (.Name x pos) (yz i):=wG (yfO hN hi hx hf) (ygf i)
theorem yuH:ZGs X A [] yyl:=wGs you yrp
theorem yng {y:XG}{ys:XGs}(h1:ZG X A a y) (h2:ZGs X A es ys) (hs:(assignEach (a::es) X.env).map (·.2)=assign a X.env::(assignEach es X.env).map (·.2):=by rfl):ZGs X A (a::es) (ypc y ys):=wGs (yiM h1.of h2.of hs) (ypd sG sGs)
theorem yxs {ys:XGs}{q:Nat}(h:ZGs X A es ys) (hc:X.calm=true:=by rfl) (hn:(assignEach es X.env).length=n:=by rfl) (hst:(assignEach es X.env).findIdx? (·.1)=none:=by rfl):ZG X A (.Tuple es q pos) (ywy n ys):=wG (ysM hc h.of hn hst) (yrq (K:=ckX X A) sGs)
theorem ykI {elt iter:Expr}{px:Pos}{scope:Scope}{cpos:Pos}{it:XA}{xe:XE}{ix:List Nat}(fr:List Str) (hi:ZI X A (.Name x px) iter it) (he:∀ (cl:List (Str×Addr)) (C:Addr) (s₃:Shared) (H₃:Hp) (fp:List Addr) (pins:List (Addr×Obj)),ZE (cxC X scope cl C (x::fr) s₃ H₃ fp pins) A elt xe) (hc:X.calm=true:=by rfl) (hfr:FrOk X scope ix fr:=by repeat' first|exact True.intro|exact rfl|refine And.intro ?_ ?_) (hnd:(x::fr).Nodup:=by rfl') (hkind:scope.kind=.function:=by rfl) (hcell:∀ y∈scope.names,y.2≠.cell:=by rfl') (hnames:∀ y∈scope.names,y.2=.local->scope.names.lookup y.1=some .local:=by rfl') (hfree0:∀ y∈scope.names,y.2=.free->y.1∈fr:=by rfl') (hx:scope.names.lookup x=some .local:=by rfl) (hs:∀ v,foldedSetIterable iter X.env v=pure v:=by exact fun _=>rfl):ZO X A (.ListComp elt [⟨.Name x px,iter,[],0⟩] scope cpos) (yha it ix xe) :=
 wO (yxp (yhk ix fr hc hi.of hfr (te:=cE (ckX X A) xe) (fun cl C s₃ H₃ fp pins=>(he cl C s₃ H₃ fp pins).of) (fun _ _ _ _ _ _=>.nil) hnd hkind hcell hnames hfree0 hx hs)) (yjc (K:=ckX X A) ix sI sE)
section
variable {st:Stmt}{rest:List Stmt}{s u:XS}
theorem yk (h:ZE X A a xa):ZS X A (.Return (some a) pos) (ybf xa):=wS (ysL h.of) (yuh sE)
theorem ycx (h:ZE X A a xa) (hs:swapsWith a none pos.line X.env=pure false:=by rfl):ZS X A (.Expr a pos) (ydN xa):=wS (ygA h.of hs) (yrn sE)
theorem yu {i:Nat}{pos':Pos}(h:ZE X A a xa) (hN:X.N.Nodup:=by exact nd) (hi:X.N[i]?=some x:=by rfl) (hx:Loc X.env.scope x:=by first|exact Or.inl rfl|exact Or.inr rfl) (hs:swapsWith a (some (.Name x pos')) pos.line X.env=pure false:=by rfl) (hf:X.fn x=true\/X.env.scope.names.lookup x=some .local:=by exact Or.inl rfl):ZS X A (.Assign [.Name x pos'] a pos) (ybM xa (yz i)) :=
 wS (yov hN hi hx h.of hs hf) (yja sE (ygf i))
theorem yjk {i:Nat}{pos':Pos}(h:ZO X A a xo) (hN:X.N.Nodup:=by exact nd) (hi:X.N[i]?=some x:=by rfl) (hx:Loc X.env.scope x:=by first|exact Or.inl rfl|exact Or.inr rfl) (hs:swapsWith a (some (.Name x pos')) pos.line X.env=pure false:=by rfl) (hf:X.fn x=true\/X.env.scope.names.lookup x=some .local:=by exact Or.inl rfl):ZS X A (.Assign [.Name x pos'] a pos) (ylU xo i) :=
 wS (yov hN hi hx h.of hs hf) (yrr i sO)
theorem yxt {tg:Expr}{y:XG}(h:ZE X A a xa) (hg:ZG X A tg y) (hs:swapsWithSole [tg] a pos.line X.env=pure false:=by rfl) (hw:swappedStores [tg] a X.env=pure none:=by rfl) (h1:(assignEach [tg] X.env).map (·.2)=[assign tg X.env]:=by rfl):ZS X A (.Assign [tg] a pos) (ybM xa y):=wS (ysO h.of hg.of hs hw h1) (yja sE sG)
theorem ybK {cs:List Nat}{f:Str}{pos':Pos}{i:Nat}(hc:∀ k∈cs,Cls X.K (A k)/\NoAttr X.K (A k) f) (h:ZE X A a xa) (ho:PE X o (yny i):=by exact yhn rfl (by first|exact Or.inl rfl|exact Or.inr (Or.inl rfl)) (by rfl') (by rfl')) (hs:swapsWith a (some (.Attribute o f pos')) pos.line X.env=pure false:=by rfl):ZF X A (.Assign [.Attribute o f pos'] a pos) (ycC cs i f xa):=wF (yoH ho h.of hs) (yrA (K:=ckX X A) hc sE)
theorem ybl {ca:XT}{l m:List Stmt}(hc:ZT X A c ca) (ha:ZSs X A l s) (hb:ZSs X A m u):ZS X A (.If c l m pos) (ycT ca s u):=wS (yvW hc.of ha.of hb.of) (yui sT sS sS)
theorem ykJ {tg iter:Expr}{it:XA}{y:XG}(hi:ZI X A tg iter it) (hg:ZG X A tg y) (hb:ZSs X A rest s) (hp:PassesOwn (model X.prog X.w) X.A X.env X.xe:=by exact PassesOwn.never) (hc:X.calm=true:=by rfl) (hs:∀ x,foldedSetIterable iter X.env x=pure x:=by exact fun _=>rfl):ZS X A (.For tg iter rest [] pos) (yoj it y s):=wS (ysQ hp hc hi.of hg.of hb.of hs) (yum sI sG sS)
theorem yrX {ca:XT}{fu:Nat}(hc:ZT X A c ca) (hb:ZSs X A rest s) (hp:PassesOwn (model X.prog X.w) X.A X.env X.xe:=by exact PassesOwn.never):ZS X A (.While c rest [] pos) (yiq fu ca s):=wS (ymE hp hc.of hb.of) (yph fu sT sS)
theorem yx:ZSs X A [] ybi:=wSs yop yrm
theorem yf (h:ZS X A st s):ZSs X A [st] s:=⟨yoq h.of⟩
theorem yd (h:ZS X A st s) (hr:ZSs X A rest u):ZSs X A (st::rest) (yv s u):=wSs (ygb h.of hr.of) (yug sS sS)
theorem yjl {i:Nat}(h:ZSs X A rest s):ZSs X A rest (yuf i s):=wSs h.of (yuj i sS)
theorem ydy (h:ZF X A st s):ZFs X A [st] s:=⟨yoq h.of⟩
theorem ybu (h:ZF X A st s) (hr:ZFs X A rest u):ZFs X A (st::rest) (yv s u):=wFs (ygb h.of hr.of) (yrB sF sF)
end
end
section
variable {P:Program}{w:World}{K:PySem.W.Frag}{mg:Str->Option Value}{base:Heap}{A:Nat->Addr}
theorem zfn {x qual:Str}{st:Stmt}{f:Addr}{fd:FuncData}{N ps:List Str}{k:Nat}{s:XS}(F:Fun K x qual st f fd) (S:yed N ps (ybs st))
  (h:∀ (cdv:Value) (Ar:Around) (outer:List Env) (sh:Shared) (H:Hp) (E:XK),Room k (Ar.deeper (envOfC qual (ybs st) sh.heap.objs.size f cdv))->ZSs (ylv CX0 P w K mg base N qual (ybs st) f cdv Ar outer sh H E).nox A (yeT st) s) :
  FnOk P w K mg base CX0 (k+1) f fd ps (spE ⟨K,A⟩ ps.length (ycr N.length s)) :=
 F.ok S (fun _ _ _ _ h=>yun h) fun cdv Ar outer sh H vs Q E hr hq=>⟨_,(h cdv Ar outer sh H E hr).of,yrv (K:=⟨K,A⟩) sS hq⟩
theorem zin {x qual:Str}{st:Stmt}{f:Addr}{fd:FuncData}{N ps:List Str}{k kc n:Nat}{s:XS}(F:Fun K x qual st f fd) (S:yed N ps (ybs st)) (hn:ps.length=n+1) (hN:n+1<=N.length)
  (h:∀ (cdv:Value) (Ar:Around) (outer:List Env) (sh:Shared) (H:Hp) (E:XK),Room k (Ar.deeper (envOfC qual (ybs st) sh.heap.objs.size f cdv))->ZFs (ylv CX0 P w K mg base N qual (ybs st) f cdv Ar outer sh H E).nox A (yeT st) s) :
  FnOk P w K mg base CX0 (k+1) f fd ps (spI ⟨K,A⟩ n kc (ylo N.length kc s)) :=
 F.ok S (fun _ _ _ _ h=>(yur h).trans hn.symm) fun cdv Ar outer sh H vs Q E hr hq=>⟨_,(h cdv Ar outer sh H E hr).of,yrC (K:=⟨K,A⟩) hN sF hq⟩
end
end PX
namespace PX
open PySem L2 PySem.Spec PyProof.Rows
section
variable {X:Cx}{A:Nat->Addr}{a b c o i:Expr}{es:List Expr}{xa xb xc xd xk xv:XE}{xo:XO}{aa:XA}{pos p apos cpos pos':Pos}{x:Str}{n k:Nat}
theorem ypR:ZO X A (.Dict [] [] pos) ypw:=wO yrG yrJ
theorem ymk (h:ZE X A a xv) (ho:ZE X A o xd) (hi:ZE X A i xk) (ha:∀ v,assign (.Subscript o i pos') X.env v=(do
   let ov <- holding [v] (eval o X.env)
   let iv <- holding [v,ov] (eval i X.env)
   standAt pos'
   holding [v,ov,iv] (setItem ov iv v)
   release [v,ov,iv] []):=by exact fun _=>rfl) (hs:swapsWithSole [.Subscript o i pos'] a pos.line X.env=pure false:=by rfl) (hw:swappedStores [.Subscript o i pos'] a X.env=pure none:=by rfl) (h1:(assignEach [.Subscript o i pos'] X.env).map (·.2)=[assign (.Subscript o i pos') X.env]:=by rfl) :
  ZS X A (.Assign [.Subscript o i pos'] a pos) (ymb xd xk xv):=wS (ysO h.of (yvY ho.of hi.of set_list ha) hs hw h1) (yrI sE sE sE)
end
end PX
namespace PX
open PySem L2 PySem.Spec PyProof.Rows
section
variable {X:Cx}{A:Nat->Addr}{a b c o:Expr}{es:List Expr}{xa xb xc:XE}{pos p apos cpos:Pos}{x:Str}{n k:Nat}
theorem yxu {i:Nat}(ha:ZE X A a xa) (ho:PE X o (yny i):=by exact yhn rfl (by first|exact Or.inl rfl|exact Or.inr (Or.inl rfl)) (by rfl') (by rfl')) (hbase:attributeBase o "extend" X.env (eval o X.env)=eval o X.env:=by rfl) (hfew:((backTo cpos (starEach [a] X.env)).all (fun x=>!x.1) && (backToKw cpos (keywordEach [] X.env)).all (fun x=>x.1.isSome)
   && decide ([a].length+([]:List Keyword).length+(if ([]:List Keyword).isEmpty then 0 else 1)<30))=true:=by rfl) (hline:(apos.endLine == cpos.line)=true:=by rfl) (hs:starEach [a] X.env=(false,eval a X.env)::starEach [] X.env:=by rfl) (hplain:(backTo cpos (starEach [] X.env)).any (·.1)=false:=by rfl) (hsw:swapsWith (.Call (.Attribute o "extend" apos) [a] [] cpos) none pos.line X.env=pure false:=by rfl) :
  ZS X A (.Expr (.Call (.Attribute o "extend" apos) [a] [] cpos) pos) (yrL i xa) :=
 wS (ygA (yqT plainAttrs_list PySem.F.slot_list_extend PySem.F.type_list_extend yoO ho (yex ha.of yim hs) hbase hfew hline hs hplain) hsw) (yrM (K:=ckX X A) i sE)
theorem yxv {i:Nat}(hm:X.mg x=none) (ho:PE X a (yny i):=by exact yhn rfl (by first|exact Or.inl rfl|exact Or.inr (Or.inl rfl)) (by rfl') (by rfl')) (m:Nm x:=by exact ⟨by rfl',by rfl',by rfl'⟩) (hg:Gl X x:=by rfl) (hv:bootBuiltins x=some (.builtin "len"):=by rfl') (he:starEach [a] X.env=(false,eval a X.env)::starEach [] X.env:=by rfl) (hpl:(backTo pos (starEach [] X.env)).any (·.1)=false:=by rfl) :
  ZE X A (.Call (.Name x p) [a] [] pos) (yrN i) :=
 wE (yiO yn hg hm hv (yex ho yim he) m.n m.d he hpl) (yrO (K:=ckX X A) i)
end
section
variable {X:Cx}{A:Nat->Addr}{tg a b c:Expr}{p pos:Pos}{aa:XA}{n:Nat}
end
section
theorem ydz {xs:List V}{its:List Value}(r:Vals xs its) {j:Nat}(hj:j<its.toArray.size):∃ x,xs[j]?=some x/\RelV x its.toArray[j]:=by
 have hl:=r.length
 have j1:j<its.length:=by simpa using hj
 have x1:xs[j]?=some xs[j]:=List.getElem?_eq_getElem (by omega)
 obtain ⟨u1,q1,w1⟩:=r.get x1
 have g1:its.toArray[j]=u1:=by
  have:=List.getElem?_eq_getElem j1
  rw [q1] at this
  simpa using (Option.some.inj this).symm
 exact ⟨_,x1,by rw [g1];exact w1⟩
variable {X:Cx}
theorem ynh {pins:List (Addr×Obj)}{σ:L2.St}{H:Hp}{s:Shared}(I:Inv X pins σ H s) {n:Nat}{x y:V}{b:Bool}(r:EqR X.K H n x y b):∀ {A:Around}{u v:Value},RelV x u->RelV y v->A.units+n<cLine->SeqAt.EqAt A s u v b:=by
 induction r with
 | flat fx fy=>exact fun rx ry _=>ysW rx ry fx fy
 | same =>
  intro A u v rx ry _
  cases rx
  cases ry
  exact SeqAt.EqAt.same _
 | odd h =>
  obtain ⟨a,o,ob,h1,h2⟩:=h
  have:=(I.bs a ob (I.ok.mod.kin a ob h2)).2
  rw [h1] at this
  cases this
 | nt hb =>
  intro A u v rx ry hu
  cases rx
  cases ry
  obtain ⟨i2,r2,p2,z2⟩:=I.tuple hb
  exact SeqAt.EqAt.none_tuple p2 (by omega)
 | tn hb =>
  intro A u v rx ry hu
  cases rx
  cases ry
  obtain ⟨i2,r2,p2,z2⟩:=I.tuple hb
  exact SeqAt.EqAt.tuple_none p2 (by omega)
 | @lst n a b xs ys e ha hb hl hne he ih =>
  intro A u v rx ry hu
  cases rx
  cases ry
  obtain ⟨i1,n1,r1,e1,z1⟩:=I.lst ha
  obtain ⟨i2,n2,r2,e2,z2⟩:=I.lst hb
  have l1:=r1.length
  have l2:=r2.length
  rw [show xs.length=i1.toArray.size by simp only [size_toArray];omega]
  refine SeqAt.EqAt.of_refs hne (SeqAt.RcAt.lists ⟨_,e1,rfl,n1,rfl⟩ ⟨_,e2,rfl,n2,rfl⟩ (by simp only [size_toArray];omega) (by omega) fun j j1 j2=>?_)
  obtain ⟨x1,q1,w1⟩:=ydz r1 j1
  obtain ⟨y1,q2,w2⟩:=ydz r2 j2
  exact ih j x1 y1 q1 q2 w1 w2 (by show A.units+1+n<cLine;omega)
 | @lstN n a b xs ys ha hb hl =>
  intro A u v rx ry hu
  cases rx
  cases ry
  obtain ⟨i1,n1,r1,e1,z1⟩:=I.lst ha
  obtain ⟨i2,n2,r2,e2,z2⟩:=I.lst hb
  have l1:=r1.length
  have l2:=r2.length
  have hne:a≠b:=fun z=>by subst z;rw [ha] at hb;cases hb;exact hl rfl
  exact SeqAt.EqAt.of_refs hne (SeqAt.RcAt.lists_lengths ⟨_,e1,rfl,n1,rfl⟩ ⟨_,e2,rfl,n2,rfl⟩ (by simp only [size_toArray,bne_iff_ne];omega) (by omega))
 | @tup n a b xs ys e ha hb hne he ih =>
  intro A u v rx ry hu
  cases rx
  cases ry
  obtain ⟨i1,r1,p1,z1⟩:=I.tuple ha
  obtain ⟨i2,r2,p2,z2⟩:=I.tuple hb
  have l1:=r1.length
  have l2:=r2.length
  rw [show xs.length=i1.toArray.size by simp only [size_toArray];omega,show ys.length=i2.toArray.size by simp only [size_toArray];omega]
  refine SeqAt.EqAt.of_refs hne (SeqAt.RcAt.tuples p1 p2 (by omega) fun j j1 j2=>?_)
  obtain ⟨x1,q1,w1⟩:=ydz r1 j1
  obtain ⟨y1,q2,w2⟩:=ydz r2 j2
  exact ih j x1 y1 q1 q2 w1 w2 (by show A.units+1+n<cLine;omega)
theorem yxw (hu:X.A.units+60<cLine):OpR X (compareOp .Eq) (yAI X.K):=by
 intro pins s σ H x y v u Q I rx ry h
 obtain ⟨b,hb,q⟩:=h
 cases hb with
 | nt hb =>
  cases rx
  cases ry
  obtain ⟨i2,r2,p2,z2⟩:=I.tuple hb
  exact SeqAt.RcAt.none_tuple p2 (by omega) _ _ _ _ ⟨.bl _,H,I,rfl,q⟩
 | tn hb =>
  cases rx
  cases ry
  obtain ⟨i2,r2,p2,z2⟩:=I.tuple hb
  exact SeqAt.RcAt.tuple_none p2 (by omega) _ _ _ _ ⟨.bl _,H,I,rfl,q⟩
 | @lst a b xs ys e ha hb hl he =>
  cases rx
  cases ry
  obtain ⟨i1,n1,r1,e1,z1⟩:=I.lst ha
  obtain ⟨i2,n2,r2,e2,z2⟩:=I.lst hb
  have l1:=r1.length
  have l2:=r2.length
  rw [show xs.length=i1.toArray.size by simp only [size_toArray];omega] at q
  refine SeqAt.RcAt.lists ⟨_,e1,rfl,n1,rfl⟩ ⟨_,e2,rfl,n2,rfl⟩ (by simp only [size_toArray];omega) (by omega) (fun j j1 j2=>?_) _ _ _ _ ⟨.bl _,H,I,rfl,q⟩
  obtain ⟨x1,q1,w1⟩:=ydz r1 j1
  obtain ⟨y1,q2,w2⟩:=ydz r2 j2
  exact ynh I (he j x1 y1 q1 q2) w1 w2 (by show X.A.units+1+40<cLine;omega)
 | @lstN a b xs ys ha hb hl =>
  cases rx
  cases ry
  obtain ⟨i1,n1,r1,e1,z1⟩:=I.lst ha
  obtain ⟨i2,n2,r2,e2,z2⟩:=I.lst hb
  have l1:=r1.length
  have l2:=r2.length
  exact SeqAt.RcAt.lists_lengths ⟨_,e1,rfl,n1,rfl⟩ ⟨_,e2,rfl,n2,rfl⟩ (by simp only [size_toArray,bne_iff_ne];omega) (by omega) _ _ _ _ ⟨.bl _,H,I,rfl,q⟩
 | @tup a b xs ys e ha hb he =>
  cases rx
  cases ry
  obtain ⟨i1,r1,p1,z1⟩:=I.tuple ha
  obtain ⟨i2,r2,p2,z2⟩:=I.tuple hb
  have l1:=r1.length
  have l2:=r2.length
  rw [show xs.length=i1.toArray.size by simp only [size_toArray];omega,show ys.length=i2.toArray.size by simp only [size_toArray];omega] at q
  refine SeqAt.RcAt.tuples p1 p2 (by omega) (fun j j1 j2=>?_) _ _ _ _ ⟨.bl _,H,I,rfl,q⟩
  obtain ⟨x1,q1,w1⟩:=ydz r1 j1
  obtain ⟨y1,q2,w2⟩:=ydz r2 j2
  exact ynh I (he j x1 y1 q1 q2) w1 w2 (by show X.A.units+1+40<cLine;omega)
theorem ykK (hu:X.A.units+60<cLine):OpR X (compareOp .NotEq) (yAJ X.K):=by
 intro pins s σ H x y v u Q I rx ry h
 obtain ⟨b,hb,q⟩:=h
 cases hb with
 | nt hb =>
  cases rx
  cases ry
  obtain ⟨i2,r2,p2,z2⟩:=I.tuple hb
  exact SeqAt.RcNeAt.none_tuple p2 (by omega) _ _ _ _ ⟨.bl _,H,I,rfl,q⟩
 | tn hb =>
  cases rx
  cases ry
  obtain ⟨i2,r2,p2,z2⟩:=I.tuple hb
  exact SeqAt.RcNeAt.tuple_none p2 (by omega) _ _ _ _ ⟨.bl _,H,I,rfl,q⟩
 | @lst a b xs ys e ha hb hl he =>
  cases rx
  cases ry
  obtain ⟨i1,n1,r1,e1,z1⟩:=I.lst ha
  obtain ⟨i2,n2,r2,e2,z2⟩:=I.lst hb
  have l1:=r1.length
  have l2:=r2.length
  rw [show xs.length=i1.toArray.size by simp only [size_toArray];omega] at q
  refine SeqAt.RcNeAt.lists ⟨_,e1,rfl,n1,rfl⟩ ⟨_,e2,rfl,n2,rfl⟩ (by simp only [size_toArray];omega) (by omega) (fun j j1 j2=>?_) _ _ _ _ ⟨.bl _,H,I,rfl,q⟩
  obtain ⟨x1,q1,w1⟩:=ydz r1 j1
  obtain ⟨y1,q2,w2⟩:=ydz r2 j2
  exact ynh I (he j x1 y1 q1 q2) w1 w2 (by show X.A.units+1+40<cLine;omega)
 | @lstN a b xs ys ha hb hl =>
  cases rx
  cases ry
  obtain ⟨i1,n1,r1,e1,z1⟩:=I.lst ha
  obtain ⟨i2,n2,r2,e2,z2⟩:=I.lst hb
  have l1:=r1.length
  have l2:=r2.length
  exact SeqAt.RcNeAt.lists_lengths ⟨_,e1,rfl,n1,rfl⟩ ⟨_,e2,rfl,n2,rfl⟩ (by simp only [size_toArray,bne_iff_ne];omega) (by omega) _ _ _ _ ⟨.bl _,H,I,rfl,q⟩
 | @tup a b xs ys e ha hb he =>
  cases rx
  cases ry
  obtain ⟨i1,r1,p1,z1⟩:=I.tuple ha
  obtain ⟨i2,r2,p2,z2⟩:=I.tuple hb
  have l1:=r1.length
  have l2:=r2.length
  rw [show xs.length=i1.toArray.size by simp only [size_toArray];omega,show ys.length=i2.toArray.size by simp only [size_toArray];omega] at q
  refine SeqAt.RcNeAt.tuples p1 p2 (by omega) (fun j j1 j2=>?_) _ _ _ _ ⟨.bl _,H,I,rfl,q⟩
  obtain ⟨x1,q1,w1⟩:=ydz r1 j1
  obtain ⟨y1,q2,w2⟩:=ydz r2 j2
  exact ynh I (he j x1 y1 q1 q2) w1 w2 (by show X.A.units+1+40<cLine;omega)
theorem yix {k:Nat}{A:Around}(r:Room k A):A.units+60<cLine:=by have:=r.un;omega
end
end PX
namespace PX
open PySem L2 PySem.Spec PyProof.Rows
section
variable {X:Cx}{A:Nat->Addr}{o e:Expr}{es:List Expr}{xa xb:XE}{aa:XA}{pos apos pos':Pos}{m f:Str}{n k kc:Nat}{pl:Sem Bool}{p:Fn}{fa:Addr}{fd:FuncData}{ps:List Str}
theorem ycs {st:Stmt}:ZS X A st yeV:=wS yqK (yrQ (K:=ckX X A))
theorem yR (ho:ZE X A o xa) (hm:Meth X.K (A kc) m fa) (F:FnOk X.prog X.w X.K X.mg X.base CX0 k fa fd ps (spE (ckX X A) (n+1) p)) (hb:Binds X.K fd ps []) (ha:ZA X A (e::es) n aa) (c:Cls X.K (A kc):=by exact T.cl _) (hr:Room k X.A:=by exact hr.mono (by omega)) (hst:starEach (e::es) X.env=(false,eval e X.env)::starEach es X.env:=by rfl) (hpl:(backTo pos (starEach es X.env)).any (·.1)=false:=by rfl) (ht:eval (.Call (.Attribute o m apos) (e::es) [] pos) X.env=(do
   let ov <- eval o X.env
   standAt apos.atName
   let (f,first) <- holding [ov] (getMethod ov m pl)
   callWith pos f first (backTo pos (starEach (e::es) X.env)) (backToKw pos (keywordEach [] X.env))):=by rfl) :
  ZE X A (.Call (.Attribute o m apos) (e::es) [] pos) (yl kc m p xa aa):=wE (yoJ ho.of c hm F hr hb .nil yib ha.of hst hpl ht) (ykw (K:=ckX X A) sE sA ha.len)
theorem yr (ho:ZE X A o xa) (hm:Meth X.K (A kc) m fa) (F:FnOk X.prog X.w X.K X.mg X.base CX0 k fa fd ps (spE (ckX X A) 1 p)) (hb:Binds X.K fd ps []) (c:Cls X.K (A kc):=by exact T.cl _) (hr:Room k X.A:=by exact hr.mono (by omega)) (ht:eval (.Call (.Attribute o m apos) [] [] pos) X.env=(do
   let ov <- eval o X.env
   standAt apos.atName
   let (f,first) <- holding [ov] (getMethod ov m pl)
   callWith pos f first (backTo pos (starEach [] X.env)) (backToKw pos (keywordEach [] X.env))):=by rfl) :
  ZE X A (.Call (.Attribute o m apos) [] [] pos) (yl kc m p xa yg):=wE (ymJ ho.of c hm F hr hb .nil yib ht) (ykw (K:=ckX X A) (n:=0) sE ylQ ylT)
theorem ydd {cs:List Nat}{value:Expr}(hc:∀ k∈cs,Cls X.K (A k)/\NoAttr X.K (A k) f) (ho:ZE X A o xa) (hv:ZE X A value xb) (hs:swapsWith value (some (.Attribute o f pos')) pos.line X.env=pure false:=by rfl) :
  ZS X A (.Assign [.Attribute o f pos'] value pos) (yeO cs f xa xb):=wS (yoH ho.of hv.of hs) (yrR (K:=ckX X A) hc sE sE)
end
end PX
namespace KasS
open PySem PySem.W PyProof.Rows
section
variable (key:Nat->Int)
def Kp (p:Array Nat) (i:Nat):Int:=key (p[i]?.getD 0)
def Up (p:Array Nat) (k:Nat):Prop:=∀ i j,i<=j->j<k->Kp key p i<=Kp key p j
end
end KasS
namespace KasS
open PySem PySem.W PyProof.Rows PySem.Calls
noncomputable def Tps (h:Heap):List Value->List (Int×Tok×Value)->Prop
 | [],[]=>True
 | v::vs,p::ps=>(∃ b o m,v=.ref b/\h.get? b=some o/\o.cls=.type "tuple"/\o.data=.seq #[.int p.1 p.2.1,p.2.2] m)/\Tps h vs ps
 | _,_=>False
theorem Tps.mono {h h':Heap}:∀ {vs:List Value}{ps:List (Int×Tok×Value)},Tps h vs ps->(∀ b o,Value.ref b∈vs->h.get? b=some o->h'.get? b=some o)->Tps h' vs ps
 | [],[],_,_=>trivial
 | _::_,_::_,⟨⟨b,o,m,e1,e2,e3⟩,t⟩,k=>⟨⟨b,o,m,e1,k b o (by rw [e1];exact mem_cons_self) e2,e3⟩,Tps.mono t fun b o hb=>k b o (mem_cons_of_mem _ hb)⟩
 | [],_::_,t,_=>t.elim
 | _::_,[],t,_=>t.elim
def yrY (ps:List (Int×Tok×Value)) (i:Nat):Int:=((ps[i]?).map (·.1)).getD 0
section
variable {prog:Program}{w:World}{A:Around}{E:Value->Shared->Prop}{s:Shared}
theorem yrZ {a:Addr}{vs:List Value}{ps:List (Int×Tok×Value)}{n:Nat}{P:PySem.Fin->Shared->Prop}(ho:s.heap.get? a=some (seqObj "list" vs.toArray n)) (tp:Tps s.heap vs ps) (na:Value.ref a∉vs) (hn:(ps.map (·.1)).Nodup) (h64:vs.length<2)
  (h:∀ q:Array Nat,q.Perm (toArray (List.range vs.length))->Up (yrY ps) q vs.length->P (.done (.ret .none)) { s with heap:=sortedHeap s.heap a vs (toArray (q.toList.map fun i=>vs.getD i Value.none)) }) :
  wpAny (model prog w) A (Builtin.«list.sort» ⟨[.ref a],[]⟩) P E s:=by
 have ha:a<s.heap.objs.size:=Heap.lt_size ho
 have z64:vs.length<=sizeLine:=by rw [sizeLine_eq];omega
 rw [list_sort_plain]
 obtain ⟨e1,ho1⟩:∃ e1,(s.heap.update a (Obj.mapSeq fun _=>(#[]:Array Value))).get? a=some (seqObj "list" #[] e1):=⟨_,get?_update_seq ho _⟩
 refine wpAny_bind (listItems_at ho rfl (wpAny_bind (listUpdate_at ho rfl (wpAny_bind (seqEpoch_at ho1 rfl (wpAny_bind (wpAny_newTuple (wpAny_bind (wpAny_newList (wpAny_holding ?_) (zero_le _))) (by simpa using z64))))) (by simpa using z64) (zero_le _))))
 generalize hH:((s.heap.update a (Obj.mapSeq fun _=>(#[]:Array Value))).push (seqObj "tuple" vs.toArray 0)).push (seqObj "list" #[] 0)=H6
 have keep:∀ b o,b≠a->s.heap.get? b=some o->H6.get? b=some o:=fun b o hb e=>by
  rw [<- hH]
  exact Heap.get?_push_of_some _ (Heap.get?_push_of_some _ ((Heap.get?_update_other _ _ (Ne.symm hb)).trans e))
 have ho6:H6.get? a=some (seqObj "list" #[] e1):=by rw [<- hH];exact Heap.get?_push_of_some _ (Heap.get?_push_of_some _ ho1)
 have tp6:Tps H6 vs ps:=tp.mono fun b o hb e=>keep b o (fun z=>na (z ▸ hb)) e
 show wpAny (model prog w) A _ P E { s with heap:=H6 }
 dsimp only
 have fin:∀ q:Array Nat,q.Perm (toArray (List.range vs.length))->Up (yrY ps) q vs.length->P (.done (.ret .none)) { s with heap:=H6.update a (Obj.mapSeq fun _=>toArray (q.toList.map fun i=>vs.getD i Value.none)) }:=fun q h1 h2=>by
  have:=h q h1 h2
  unfold sortedHeap at this
  rw [show ((s.heap.update a (Obj.mapSeq fun _=>(#[]:Array Value))).push (seqObj "tuple" vs.toArray 0)).push (seqObj "list" #[] 0)=H6 from hH] at this
  exact this
 by_cases h2:vs.toArray.size<2
 .rw [if_pos h2,if_pos h2]
  refine wpAny_bind (wpAny_pure ?_)
  rw [StateT.run_pure]
  have hz:((arrOf (SortSt.mk' general' (vs.toArray.zip vs.toArray) #[] 7 none)).map (·.2))=toArray ((toArray (List.range vs.length)).toList.map fun i=>vs.getD i Value.none):=by
   show (vs.toArray.zip vs.toArray).map (·.2)=_
   apply Array.toList_inj.mp
   simp only [Array.toList_map,Array.toList_zip,List.map_snd_zip (Nat.le_refl _)]
   apply List.ext_getElem
   .simp
   .intro i h3 h4
    simp
    rw [List.getElem?_eq_getElem (by simpa using h3)];rfl
  refine wpAny_bind (wpAny_pure (wpAny_bind (seqEpoch_at ho6 rfl (wpAny_bind (listUpdate_at ho6 rfl ?_ (zero_le _) ?_)))))
  .dsimp only
   rw [hz]
   simp only [bne_self_eq_false,Bool.false_eq_true,if_false]
   exact wpAny_pure (fin _ (Array.Perm.refl _) fun i j hij hj=>by rw [show i=j by (simp at h2);omega];exact Int.le_refl _)
  .rw [hz];simp;omega
 .rw [if_neg h2,if_neg h2]
  have hv2:2<=vs.length:=by simp at h2;omega
  exact absurd hv2 (by omega)
end
end KasS
namespace PXS
open PySem L2 PySem.Spec PyProof.Rows KasS PX
theorem ysa {P:Program}{w:World}{H:Hp}{h:Heap}{a:Addr}{o:HO}(x:ObjOk P w H h a o):∃ u,h.get? a=some u:=by
 cases o with
 | lst xs=>obtain ⟨_,_,_,_,e⟩:=x;exact ⟨_,e⟩
 | tup xs=>obtain ⟨_,_,_,ob,e,_⟩:=x;exact ⟨_,e⟩
 | dK kvs=>obtain ⟨_,_,_,_,o,_,_,e,_⟩:=x;exact ⟨_,e⟩
 | dT kvs=>obtain ⟨_,_,_,_,o,_,_,e,_⟩:=x;exact ⟨_,e⟩
 | set S n=>obtain ⟨o,_,_,_,e,_⟩:=x;exact ⟨_,e⟩
 | ins C dx fs=>obtain ⟨_,_,_,e,_⟩:=x;exact ⟨_,e⟩
 | own y=>obtain ⟨_,e⟩:=x;exact ⟨_,e⟩
 | xd fs=>obtain ⟨_,⟨_,_,_,e,_⟩,_⟩:=x;exact ⟨_,e⟩
 | rng lo hi=>obtain ⟨_,_,_,e⟩:=x;exact ⟨_,e⟩
 | frz ob u=>obtain ⟨e,_⟩:=x;exact ⟨_,e⟩
 | tbl ps=>exact ⟨_,show h.get? a=some _ from x⟩
 | met f y=>exact ⟨_,show h.get? a=some _ from x⟩
 | ext φ=>obtain ⟨_,⟨_,e⟩,_⟩:=x;exact ⟨_,e⟩
section
variable {X:Cx}
theorem ysb:MtM X "dict.items" ytl:=by
 intro pins s σ H x vs v us Q I rx rv h
 obtain ⟨d,kvs,rfl,rfl,hH,q⟩:=h
 cases rx
 have hus:=rv.zero
 subst hus
 obtain ⟨z,sy,ws,kv,hD⟩:=I.hok d _ hH
 refine call_meetsIn PySem.F.slot_dict_items hD.typeIs PySem.F.entry_dict_items (PySem.F.args_dict_items_1 _) (meets_dict_items _ d sy) ⟨⟨ws,hD⟩,?_⟩
 refine ⟨.ref _,_,I.laid (t':=s.toks) (o:=ymf s.heap.objs.size d) (fun _ _ q=>Heap.get?_push_of_some _ q) (Nat.le_refl _) ⟨Heap.get?_push_size _ rfl,⟨_,Heap.get?_push_size _ rfl⟩,fun h1 h2 e k=>k _ e⟩,rfl,q _ I.fresh⟩
theorem yuI {pins:List (Addr×Obj)}{σ:L2.St}{H H':Hp}{s:Shared}{h':Heap}{t':Nat}(I:Inv X pins σ H s) (k:∀ b u,s.heap.get? b=some u->h'.get? b=some u) (sub:∀ b o,H b=some o->H' b=some o)
  (nw:∀ b o,H b=none->H' b=some o->s.heap.get? b=none/\ObjOk X.prog X.w H' h' b o):Inv X pins σ H' { s with heap:=h',toks:=t' }:=by
 refine I.un ⟨fun b u q _ _ _=>k b u q,fun b u q _ _ _=>⟨u.slots,k b u q⟩,fun b u q n _=>?_,fun b u q _=>⟨u,k b u q⟩,fun b xs q=>sub _ _ q,fun b u xs q=>sub _ _ q,fun b ps q=>⟨#[],by rw [sub _ _ q];simp⟩⟩ fun b o e=>?_
 .cases e:H' b with
  | none=>rfl
  | some o=>rw [(nw b o n e).1] at q;cases q
 .cases e2:H b with
  | none=>exact (nw b o e2 e).2
  | some u =>
   have:=sub _ _ e2
   rw [e] at this
   cases this
   exact (I.hok b o e2).stay (fun c v _ q=>k c v q) (fun c q=>sub _ _ q) fun c xs q=>sub _ _ q
theorem ytn {h:Heap}:∀ (as:List Addr) (ws:List (Key×Value)) (ns:List Int),as.length=ws.length->ws.map (·.1)=ns.map Sum.inl ->
  (∀ (j:Nat) (a:Addr),as[j]?=some a->∃ key k x,ws[j]?=some (k,x)/\ytA k key=true/\h.get? a=some { cls:=.type "tuple",data:=.seq #[key,x] }) ->
  ∃ ps,Tps h (as.map Value.ref) ps/\ps.map (·.1)=ns/\ps.map (·.2.2)=ws.map (·.2)
 | [],[],ns,_,e,_=>⟨[],trivial,by cases ns with|nil=>rfl|cons=>simp at e,rfl⟩
 | [],_::_,_,hl,_,_=>by simp at hl
 | _::_,[],_,hl,_,_=>by simp at hl
 | a::as,(k,x)::ws,ns,hl,e,hp=>by
  cases ns with
  | nil=>simp at e
  | cons n ns =>
   simp only [map_cons,List.cons.injEq] at e
   obtain ⟨ps,t,e1,e2⟩:=ytn as ws ns (by simpa using hl) e.2 fun j b hb=>by
    obtain ⟨key,k',x',f1,f2,f3⟩:=hp (j+1) b (by simpa using hb)
    exact ⟨key,k',x',by simpa using f1,f2,f3⟩
   obtain ⟨key,k',x',f1,f2,f3⟩:=hp 0 a rfl
   simp at f1
   obtain ⟨rfl,rfl⟩:=f1
   obtain ⟨j,tk,g1,rfl⟩:∃ j tk,k=Sum.inl j/\key=Value.int j tk:=by
    rcases ybL f2 with ⟨j,tk,g1,g2⟩|⟨y,tk,g1,g2⟩
    .exact ⟨j,tk,g1,g2⟩
    .rw [g1] at e;cases e.1
   rw [g1] at e
   obtain rfl:j=n:=by injection e.1
   exact ⟨(j,tk,x)::ps,⟨⟨a,_,_,rfl,f3,rfl,rfl⟩,t⟩,by rw [map_cons,e1],by rw [map_cons,e2];rfl⟩
theorem yez {α:Type}:∀ {as:List Addr}{ts:List α}{b:Addr}{t:α},(as.zip ts).lookup b=some t->∃ j:Nat,as[j]?=some b/\ts[j]?=some t
 | [],_,_,_,h=>by simp at h
 | _::_,[],_,_,h=>by simp at h
 | a::as,u::ts,b,t,h=>by
  rw [zip_cons_cons,lookup_cons] at h
  split at h
  .rename_i hb
   cases h
   exact ⟨0,by rw [eq_of_beq hb];rfl,rfl⟩
  .obtain ⟨j,h1,h2⟩:=yez h
   exact ⟨j+1,by simpa using h1,by simpa using h2⟩
theorem yxx:∀ {kvs:List (Key×V)}{ws:List (Key×Value)},KV kvs ws->ws.map (·.1)=kvs.map (·.1)/\∀ i:Nat,i<kvs.length->RelV ((kvs.map (·.2)).getD i .non) ((ws.map (·.2)).getD i .none):=by
 intro kvs ws h
 induction h with
 | nil=>exact ⟨rfl,fun i hi=>by simp at hi⟩
 | @cons p q _ _ h1 _ ih =>
  refine ⟨by rw [map_cons,map_cons,ih.1,h1.1],fun i hi=>?_⟩
  cases i with
  | zero=>exact h1.2
  | succ i=>simpa using ih.2 i (by simpa using hi)
theorem yni {α:Type}{f:α->V}{g:α->Value}:∀ {l:List α},(∀ i∈l,RelV (f i) (g i))->Vals (l.map f) (l.map g)
 | [],_=>.nil
 | i::l,h=>.cons (h i mem_cons_self) (yni fun j hj=>h j (mem_cons_of_mem _ hj))
theorem yhb (hc:X.calm=true):yfP X (.builtin "sorted") rSI:=by
 intro pins s σ H xs us Q I rr hh
 obtain ⟨r,d,kvs,ns,rfl,hr,hd,hk,h64,q⟩:=hh
 obtain ⟨u,rfl,rx⟩:=vals1 rr
 cases rx
 obtain ⟨hview,_,_⟩:=I.hok r _ hr
 obtain ⟨z,sy,ws,kv,hD⟩:=I.hok d _ hd
 obtain ⟨ep,hat⟩:=hD.dictAt
 obtain ⟨kv1,kv2⟩:=yxx kv
 have lw:ws.length=kvs.length:=by have:=congrArg length kv1;simpa using this
 have ln:ns.length=kvs.length:=by have:=congrArg length hk;simpa using this.symm
 have nd:ns.Nodup:=by
  obtain ⟨_,_,_,_,_,_,_,_,n⟩:=hD
  rw [kv1,hk] at n
  exact (List.pairwise_map.mp n).imp fun h e=>h (by rw [e])
 refine Calls.call_function_entry kind_sorted plain_sorted entry_sorted (args_sorted1 _) ?_
 unfold Builtin.«sorted»
 refine wpAny_bind (m:=checkCount "sorted" 1 1 _) (wpAny_pure ?_)
 refine wpAny_bind (PySem.W.kdx_collect (A:=X.A.in1) (knd:=ylp X.prog X.w) (kvs:=ws) (ep:=ep) (I.ok.hd hc) ⟨_,hview,rfl,rfl⟩ hat (by rw [lw];exact z) fun h' tk as keep hl hG=>wpAny_bind (wpAny_newList ?_ (by rw [length_map,hl,lw];exact z)))
 obtain ⟨ps,tp,e1,e2⟩:=ytn (h:=h') as ws ns hl (by rw [kv1,hk]) fun j a ha=>hG.pairs j a ha
 have la:as.length=ns.length:=by omega
 have above:∀ a∈as,s.heap.objs.size<a:=hG.above
 have there:∀ a∈as,a<h'.objs.size:=fun a ha=>hG.there ha
 generalize hB:h'.objs.size=B at *
 have noB:s.heap.get? B=none:=by
  cases e:s.heap.get? B with
  | none=>rfl
  | some o=>exact absurd (Heap.lt_size (keep B o e)) (by rw [hB];exact lt_irrefl _)
 have noA:∀ a∈as,s.heap.get? a=none:=fun a ha=>Heap.get?_none_of_le (le_of_lt (above a ha))
 have free:∀ b,s.heap.get? b=none->H b=none:=fun b e=>by
  cases e2:H b with
  | none=>rfl
  | some o=>obtain ⟨u,hu⟩:=ysa (I.hok b o e2);rw [e] at hu;cases hu
 have hoL:(h'.push { cls:=.type "list",data:=.seq (as.map Value.ref).toArray }).get? B=some (seqObj "list" (as.map Value.ref).toArray 0):=by rw [<- hB];exact Heap.get?_push_size _ rfl
 refine wpAny_bind (wpAny_holding (wpAny_call_entry PySem.F.slot_list_sort ⟨_,hoL,rfl⟩ PySem.F.entry_list_sort ?body (PySem.F.args_list_sort_1 _)))
 case body =>
  refine yrZ (s:={ s with heap:=h'.push { cls:=.type "list",data:=.seq (as.map Value.ref).toArray },toks:=tk }) (ps:=ps) hoL (tp.mono fun b o _ e=>Heap.get?_push_of_some _ e) (fun z=>?_) (by rw [e1];exact nd) (by rw [length_map];omega) fun qa z1 z2=>?_
  .obtain ⟨a,ha,e⟩:=List.mem_map.mp z
   cases e
   exact absurd (there B ha) (lt_irrefl _)
  refine ⟨_,rfl,wpAny_pure ⟨_,rfl,?_⟩⟩
  have lq:qa.toList.length=ns.length:=by have:=z1.size_eq;simpa [la] using this
  have pq:qa.toList.Perm (List.range ns.length):=by have:=Array.perm_iff_toList_perm.mp z1;simpa [la] using this
  have inq:∀ i∈qa.toList,i<ns.length:=fun i hi=>by have:=pq.mem_iff.mp hi;simpa using this
  have nda:as.Nodup:=hG.rise.imp fun h=>ne_of_lt h
  have ndq:qa.toList.Nodup:=pq.nodup_iff.mpr List.nodup_range
  generalize hS:sortedHeap (h'.push { cls:=.type "list",data:=.seq (as.map Value.ref).toArray }) B (as.map Value.ref) (toArray (qa.toList.map fun i=>(as.map Value.ref).getD i Value.none))=S
  have hFa:∀ b o,b≠B->h'.get? b=some o->S.get? b=some o:=fun b o hb e=>by
   rw [<- hS]
   unfold sortedHeap
   exact (Heap.get?_update_other _ _ (Ne.symm hb)).trans (Heap.get?_push_of_some _ (Heap.get?_push_of_some _ ((Heap.get?_update_other _ _ (Ne.symm hb)).trans (Heap.get?_push_of_some _ e))))
  have hFB:∃ c,S.get? B=some (seqObj "list" (toArray (qa.toList.map fun i=>(as.map Value.ref).getD i Value.none)) c):=by
   rw [<- hS]
   unfold sortedHeap
   exact ⟨_,get?_update_seq (Heap.get?_push_of_some _ (Heap.get?_push_of_some _ (get?_update_seq hoL _))) _⟩
  have hF:∀ b o,s.heap.get? b=some o->S.get? b=some o:=fun b o e=>hFa b o (fun z=>by rw [z,noB] at e;cases e) (keep b o e)
  have aget:∀ i,i<ns.length->∃ a,as[i]?=some a/\as.getD i 0=a/\a∈as:=fun i hi=>by
   have h1:i<as.length:=by omega
   exact ⟨as[i],List.getElem?_eq_getElem h1,by simp [getD,List.getElem?_eq_getElem h1],getElem_mem h1⟩
  have mem:∀ a∈(qa.toList.map fun i=>as.getD i 0),a∈as:=fun a ha=>by
   obtain ⟨i,hi,rfl⟩:=List.mem_map.mp ha
   obtain ⟨a,_,e,m⟩:=aget i (inq i hi)
   rw [e];exact m
  have neB:∀ a∈as,a≠B:=fun a ha=>ne_of_lt (there a ha)
  have kat:∀ i,yrY ps i=ns.getD i 0:=fun i=>by
   unfold yrY
   rw [<- e1]
   simp [getD]
  refine ⟨.ref B,yyp H B (qa.toList.map fun i=>as.getD i 0) (qa.toList.map fun i=>[V.int (ns.getD i 0),(kvs.map (·.2)).getD i .non]),?_,rfl,q B _ qa.toList pq ?_ nd (by simp) ?_ ?_⟩
  .show L2.Inv X pins σ _ { s with heap:=S,toks:=tk }
   refine yuI I hF (fun b o e=>?_) fun b o e e2=>?_
   .unfold yyp upd ymZ
    rw [if_neg fun z=>by rw [z,free _ noB] at e;cases e]
    cases e3:List.lookup b ((qa.toList.map fun i=>as.getD i 0).zip (qa.toList.map fun i=>[V.int (ns.getD i 0),(kvs.map (·.2)).getD i .non])) with
    | none=>exact e
    | some t =>
     obtain ⟨j,g1,_⟩:=yez e3
     rw [free _ (noA b (mem b (mem_of_getElem? g1)))] at e
     cases e
   .unfold yyp upd ymZ at e2
    split at e2
    .rename_i hb
     subst hb
     cases e2
     obtain ⟨c,hc⟩:=hFB
     refine ⟨noB,by simp [lq];rw [ln];exact z,_,c,?_,hc⟩
     rw [map_map]
     refine yni fun i hi=>?_
     obtain ⟨a,f1,f2,_⟩:=aget i (inq i hi)
     show RelV (V.ref (as.getD i 0)) _
     rw [f2]
     simp [getD,f1]
     rfl
    .split at e2
     .rename_i t e3
      cases e2
      obtain ⟨j,g1,g2⟩:=yez e3
      rw [getElem?_map] at g1 g2
      cases e4:qa.toList[j]? with
      | none=>rw [e4] at g1;cases g1
      | some i =>
       rw [e4] at g1 g2
       have hi:=inq i (mem_of_getElem? e4)
       obtain ⟨a,f1,f2,f3⟩:=aget i hi
       simp only [map_some,Option.some.injEq] at g1 g2
       rw [f2] at g1
       subst g1
       subst g2
       obtain ⟨key,k,x,w1,w2,w3⟩:=hG.pairs i a f1
       have wk:k=Sum.inl (ns.getD i 0):=by
        have h1:(ws.map (·.1))[i]?=some k:=by rw [getElem?_map,w1];rfl
        rw [kv1,hk,getElem?_map] at h1
        rw [List.getElem?_eq_getElem hi] at h1
        simp [getD,List.getElem?_eq_getElem hi] at h1 ⊢
        exact h1.symm
       obtain ⟨tk2,rfl⟩:∃ tk,key=Value.int (ns.getD i 0) tk:=by
        rcases ybL w2 with ⟨j,tk,g1,g2⟩|⟨y,tk,g1,g2⟩
        .rw [wk] at g1;cases g1;exact ⟨tk,g2⟩
        .rw [wk] at g1;cases g1
       have wx:(ws.map (·.2)).getD i .none=x:=by simp [getD,w1]
       refine ⟨noA a f3,by simp [sizeLine_eq],[_,x],.cons ⟨_,rfl⟩ (.cons ?_ .nil),_,hFa a _ (neB a f3) w3,rfl,_,rfl⟩
       rw [<- wx]
       exact kv2 i (by omega)
     .rw [e] at e2;cases e2
  .refine List.pairwise_iff_getElem.mpr fun i j hi hj hij=>?_
   have:=z2 i j (le_of_lt hij) (by simpa [la,lq] using hj)
   unfold Kp at this
   rw [kat,kat] at this
   have hi':i<qa.size:=by simpa using hi
   have hj':j<qa.size:=by simpa using hj
   rw [Array.getElem?_eq_getElem hi',Array.getElem?_eq_getElem hj'] at this
   simpa using this
  .intro a ha
   rcases mem_cons.mp ha with rfl|ha
   .exact free _ noB
   .exact free _ (noA a (mem a ha))
  .refine List.nodup_cons.mpr ⟨fun h=>neB _ (mem _ h) rfl,?_⟩
   refine List.pairwise_map.mpr (ndq.imp_of_mem fun {i j} hi hj hij e=>hij ?_)
   obtain ⟨a,f1,f2,_⟩:=aget i (inq i hi)
   obtain ⟨b,g1,g2,_⟩:=aget j (inq j hj)
   rw [f2,g2] at e
   subst e
   exact (List.getElem?_inj (by have:=inq i hi;omega) nda).mp (f1.trans g1.symm)
variable {A:Nat->Addr}{o:Expr}{xa:XE}{pos p apos cpos:Pos}{x:Str}
theorem z_sortI (ho:ZE X A o xa) (hm:X.mg x=none) (hc:X.calm=true:=by rfl) (m:Nm x:=by exact ⟨by rfl',by rfl',by rfl'⟩) (hg:Gl X x:=by rfl) (hv:bootBuiltins x=some (.builtin "sorted"):=by rfl') (hbase:attributeBase o "items" X.env (eval o X.env)=eval o X.env:=by rfl) (hline:(apos.endLine == cpos.line)=true:=by rfl) (he:starEach [.Call (.Attribute o "items" apos) [] [] cpos] X.env=(false,eval (.Call (.Attribute o "items" apos) [] [] cpos) X.env)::starEach [] X.env:=by rfl) (hpl:(backTo pos (starEach [] X.env)).any (·.1)=false:=by rfl) :
  ZO X A (.Call (.Name x p) [.Call (.Attribute o "items" apos) [] [] cpos] [] pos) (yky xa) :=
 wO (yiO (yhb hc) hg hm hv (yex (ywg PySem.F.plainAttrs_dict PySem.F.slot_dict_items PySem.F.type_dict_items ysb ho.of hbase hline) yim he) m.n m.d he hpl) (ypD (K:=ckX X A) sE)
end
end PXS
namespace PX
open PySem L2 PySem.Spec PyProof.Rows
section
variable {X:Cx}{A:Nat->Addr}{tg a:Expr}{p pos:Pos}{xa:XE}
theorem yuJ {rest:List Stmt}{s:XS}{y:XG}(hi:ZE X A a xa) (hg:ZG X A tg y) (hb:ZSs X A rest s) (hp:PassesOwn (model X.prog X.w) X.A X.env X.xe:=by exact PassesOwn.never) (hc:X.calm=true:=by rfl) (hs:∀ x,foldedSetIterable a X.env x=pure x:=by exact fun _=>rfl):ZS X A (.For tg a rest [] pos) (yrT false xa y s) :=
 wS (ysQ hp hc (yho hi.of) hg.of hb.of hs) (yrU (K:=ckX X A) sE sG sS)
end
end PX
namespace PX
open PySem L2 PySem.Spec PyProof.Rows
section
variable {X:Cx}{A:Nat->Addr}{a o:Expr}{xa xb:XE}{pos apos cpos:Pos}
end
end PX
namespace PX
open PySem L2 PySem.Spec PyProof.Rows
variable {X:Cx}{A:Nat->Addr}{x:Str}
theorem yuK {elt iter cnd:Expr}{px:Pos}{scope:Scope}{cpos:Pos}{it:XA}{xe:XE}{xc:XT}{ix:List Nat}(fr:List Str) (hi:ZI X A (.Name x px) iter it) (he:∀ (cl:List (Str×Addr)) (C:Addr) (s₃:Shared) (H₃:Hp) (fp:List Addr) (pins:List (Addr×Obj)),ZE (cxC X scope cl C (x::fr) s₃ H₃ fp pins) A elt xe) (hq:∀ (cl:List (Str×Addr)) (C:Addr) (s₃:Shared) (H₃:Hp) (fp:List Addr) (pins:List (Addr×Obj)),ZT (cxC X scope cl C (x::fr) s₃ H₃ fp pins) A cnd xc) (hc:X.calm=true:=by rfl) (hfr:FrOk X scope ix fr:=by repeat' first|exact True.intro|exact rfl|refine And.intro ?_ ?_) (hnd:(x::fr).Nodup:=by rfl') (hkind:scope.kind=.function:=by rfl) (hcell:∀ y∈scope.names,y.2≠.cell:=by rfl') (hnames:∀ y∈scope.names,y.2=.local->scope.names.lookup y.1=some .local:=by rfl') (hfree0:∀ y∈scope.names,y.2=.free->y.1∈fr:=by rfl') (hx:scope.names.lookup x=some .local:=by rfl) (hs:∀ v,foldedSetIterable iter X.env v=pure v:=by exact fun _=>rfl):ZO X A (.ListComp elt [⟨.Name x px,iter,[cnd],0⟩] scope cpos) (ykz it ix xc xe) :=
 wO (yhk ix fr hc hi.of hfr (te:=cE (ckX X A) xe) (tc:=cT (ckX X A) xc) (fun cl C s₃ H₃ fp pins=>(he cl C s₃ H₃ fp pins).of) (fun cl C s₃ H₃ fp pins=>.one (hq cl C s₃ H₃ fp pins).of) hnd hkind hcell hnames hfree0 hx hs) (ypF (K:=ckX X A) ix sI sT sE)
end PX
namespace PX
open PySem L2 PySem.Spec PyProof.Rows
variable {X:Cx}{A:Nat->Addr}{x y:Str}{py spos:Pos}{iy:Nat}
theorem ysc {elt iter:Expr}{px:Pos}{scope:Scope}{cpos:Pos}{it:XA}{xe:XE}{ix:List Nat}(fr:List Str) (hi:ZI X A (.Name x px) iter it) (he:∀ (cl:List (Str×Addr)) (C:Addr) (s₃:Shared) (H₃:Hp) (fp:List Addr) (pins:List (Addr×Obj)),ZE (cxC X scope cl C (x::fr) s₃ H₃ fp pins) A elt xe) (hc:X.calm=true:=by rfl) (hfr:FrOk X scope ix fr:=by repeat' first|exact True.intro|exact rfl|refine And.intro ?_ ?_) (hnd:(x::fr).Nodup:=by rfl') (hkind:scope.kind=.function:=by rfl) (hcell:∀ y∈scope.names,y.2≠.cell:=by rfl') (hnames:∀ y∈scope.names,y.2=.local->scope.names.lookup y.1=some .local:=by rfl') (hfree0:∀ y∈scope.names,y.2=.free->y.1∈fr:=by rfl') (hx:scope.names.lookup x=some .local:=by rfl) (hs:∀ v,foldedSetIterable iter X.env v=pure v:=by exact fun _=>rfl) (hN:X.N.Nodup:=by exact nd) (hyi:X.N[iy]?=some y:=by rfl) (hyx:Loc X.env.scope y:=by first|exact Or.inl rfl|exact Or.inr rfl) (hyf:X.fn y=true\/X.env.scope.names.lookup y=some .local:=by exact Or.inl rfl) (hsw:swapsWith (.ListComp elt [⟨.Name x px,iter,[],0⟩] scope cpos) (some (.Name y py)) spos.line X.env=pure true:=by rfl):ZS X A (.Assign [.Name y py] (.ListComp elt [⟨.Name x px,iter,[],0⟩] scope cpos) spos) (ybM (xFz (yha it ix xe)) (yz iy)) :=
 wS (yxq (yne ix fr hc hi.of hfr (te:=cE (ckX X A) xe) (fun cl C s₃ H₃ fp pins=>(he cl C s₃ H₃ fp pins).of) (fun _ _ _ _ _ _=>.nil) hnd hkind hcell hnames hfree0 hx hs hN hyi hyx hyf hsw)) (yja (yte (yjc (K:=ckX X A) ix sI sE)) (ygf iy))
theorem ysd {elt iter:Expr}{px:Pos}{scope:Scope}{cpos:Pos}{it:XA}{xe:XE}{ix:List Nat}(fr:List Str) (hi:ZI X A (.Name x px) iter it) (he:∀ (cl:List (Str×Addr)) (C:Addr) (s₃:Shared) (H₃:Hp) (fp:List Addr) (pins:List (Addr×Obj)),ZE (cxC X scope cl C (x::fr) s₃ H₃ fp pins) A elt xe) (hc:X.calm=true:=by rfl) (hfr:FrOk X scope ix fr:=by repeat' first|exact True.intro|exact rfl|refine And.intro ?_ ?_) (hnd:(x::fr).Nodup:=by rfl') (hkind:scope.kind=.function:=by rfl) (hcell:∀ y∈scope.names,y.2≠.cell:=by rfl') (hnames:∀ y∈scope.names,y.2=.local->scope.names.lookup y.1=some .local:=by rfl') (hfree0:∀ y∈scope.names,y.2=.free->y.1∈fr:=by rfl') (hx:scope.names.lookup x=some .local:=by rfl) (hs:∀ v,foldedSetIterable iter X.env v=pure v:=by exact fun _=>rfl) (hN:X.N.Nodup:=by exact nd) (hyi:X.N[iy]?=some y:=by rfl) (hyx:Loc X.env.scope y:=by first|exact Or.inl rfl|exact Or.inr rfl) (hyf:X.fn y=true\/X.env.scope.names.lookup y=some .local:=by exact Or.inl rfl) (hsw:swapsWith (.ListComp elt [⟨.Name x px,iter,[],0⟩] scope cpos) (some (.Name y py)) spos.line X.env=pure true:=by rfl):ZS X A (.Assign [.Name y py] (.ListComp elt [⟨.Name x px,iter,[],0⟩] scope cpos) spos) (ybM (yfZ (yha it ix xe)) (yz iy)) :=
 wS (yxq (yne ix fr hc hi.of hfr (te:=cE (ckX X A) xe) (fun cl C s₃ H₃ fp pins=>(he cl C s₃ H₃ fp pins).of) (fun _ _ _ _ _ _=>.nil) hnd hkind hcell hnames hfree0 hx hs hN hyi hyx hyf hsw)) (yja (ypb (yjc (K:=ckX X A) ix sI sE)) (ygf iy))
theorem yuL {k lv:Nat}{f:Addr}{fd:FuncData}{ps:List Str}{p pos:Pos}{fi} (M:Mk X.K (A k) f) (F:FnOk X.prog X.w X.K X.mg X.base CX0 lv f fd ps (spI (ckX X A) 0 k fi)) (hm:X.mg x=some (.ref (A k))) (hb:Binds X.K fd ps []) (hr:Room (lv+1) X.A:=by exact hr.mono (by omega)) (m:Nm x:=by exact ⟨by rfl',by rfl',by rfl'⟩) (hg:Gl X x:=by rfl):ZO X A (.Call (.Name x p) [] [] pos) (yfB fi yg) :=
 wO (yqS M F hr hg hm hb .nil yib m.d) (ymU (K:=ckX X A) (k:=k) ylQ ylT)
end PX
namespace PX
open PySem L2 PySem.Spec PyProof.Rows KasS PXS
section
variable {X:Cx}{A:Nat->Addr}
theorem yjm:∀ (vs:List Value) (ns:List Int),vs.length=ns.length->(∀ (j:Nat) (v:Value),vs[j]?=some v->∃ t n,ns[j]?=some n/\v=.int n t)->IntsAre vs ns
 | [],[],_,_=>IntsAre.nil
 | [],_::_,h,_=>by cases h
 | _::_,[],h,_=>by cases h
 | v::vs,n::ns,hl,h=>by
  obtain ⟨t,m,e1,e2⟩:=h 0 v rfl
  have e1:some n=some m:=e1
  cases e1
  subst e2
  have ih:=yjm vs ns (by simpa using hl) fun j v e=>by
   obtain ⟨t,n,e1,e2⟩:=h (j+1) v (by simpa using e)
   exact ⟨t,n,by simpa using e1,e2⟩
  exact .cons _ _ ih
theorem yhv {vs:List Value}{ns:List Int}(h:IntsAre vs ns):Vals (ns.map V.int) vs:=by
 induction h with
 | nil=>exact .nil
 | cons n t _ ih=>exact .cons ⟨t,rfl⟩ ih
variable {a:Expr}{xa:XE}{aa:XA}{pos p:Pos}{x:Str}{n:Nat}
end
end PX
namespace PX
open PySem L2 PySem.Spec PyProof.Rows KasS PXS
section
variable {X:Cx}{A:Nat->Addr}{tg a:Expr}{p pos:Pos}{xa:XE}
end
end PX
namespace PX
open PySem L2 PySem.Spec PyProof.Rows
section
variable {X:Cx}{A:Nat->Addr}
variable {pos p apos:Pos}{x m:Str}{e:Expr}{es:List Expr}{aa:XA}{n:Nat}
theorem yxy {a:Addr}{ss:List Str}(hm:X.mg x=some (.ref a)) (hk:KTp X.K a (ss.map V.str)) (nm:Nm x:=by exact ⟨by rfl',by rfl',by rfl'⟩) (hg:Gl X x:=by rfl):ZE X A (.Name x pos) (xC (.tup (ss.map PV.str))):=wE (ylF hg hm nm.d) (yrV (K:=ckX X A) hk)
structure yse (K:PySem.W.Frag) (C:Addr) (m:Str) (f:Addr):Prop where
 rd:PySem.W.readsIn K C (.type "type")=true
 fc:PySem.W.findCls K (.ref C) (.type "type") m=some (.val (.ref f))
 sp:PySem.W.specialIn K (.ref C) "__getattribute__" = some (some (.builtin "type.__getattribute__"))
 kp:keepIn K (.ref f)=true
theorem yuM {C f:Addr}{k:Nat}{fd:FuncData}{ps:List Str}{sp:Sp}{E:XK}{t:TA}{pl:Sem Bool}{CX:CXT}(c:yse X.K C m f) (hg:Gl X x) (hm:X.mg x=some (.ref C)) (F:FnOk X.prog X.w X.K X.mg X.base CX k f fd ps sp) (hr:Room k X.A) (hb:Binds X.K fd ps []) (hx:Passes CX X E) (ha:PA X (e::es) t)
  (hd:(x == ("__debug__":Str))=false)
  (hst:starEach (e::es) X.env=(false,eval e X.env)::starEach es X.env) (hpl:(backTo pos (starEach es X.env)).any (·.1)=false)
  (ht:eval (.Call (.Attribute (.Name x p) m apos) (e::es) [] pos) X.env=(do
   let ov <- eval (.Name x p) X.env
   standAt apos.atName
   let (f,first) <- holding [ov] (getMethod ov m pl)
   callWith pos f first (backTo pos (starEach (e::es) X.env)) (backToKw pos (keywordEach [] X.env)))) :
  PE X (.Call (.Attribute (.Name x p) m apos) (e::es) [] pos) (yqQ sp [] E t):=by
 intro pins s σ H Q I h
 refine PySem.W.methodCall_KW (pl:=pl) (thn (ylF (X:=X) hg hm hd pins s σ H (fun v H1=>v=.ref C/\H1=H) I ⟨rfl,rfl⟩) fun u s1 ⟨v,H1,I1,rx,ex,eh⟩=>?_) ht
 subst ex eh
 obtain rfl:u=Value.ref C:=rx
 refine PySem.W.method_cls I1.kIn c.sp (PySem.W.cls_value I1.kIn c.rd c.fc rfl ?_)
 have I1:=I1.tok (s1.toks+1)
 refine PySem.W.callWith_K (first:=[]) (h₀:=X.base) I.ok.mod.kin c.kp (thn (ha pos pins _ σ H1 _ I1 h) fun us s2 ⟨vs,H2,I2,r,q2⟩=>⟨I2.kIn,?_⟩) hst hpl
 exact yjP (us:=us) (vs:=vs) F hr hb .nil hx I2 r q2
theorem yuN {C f:Addr}{lv k:Nat}{fd:FuncData}{ps:List Str}{fi} {pl:Sem Bool}{o:Expr}{sp:Pos}(c:yse X.K C m f) (hm:X.mg x=some (.ref C)) (F:FnOk X.prog X.w X.K X.mg X.base CX0 lv f fd ps (spJ (ckX X A) n k fi)) (hb:Binds X.K fd ps []) (ha:ZA X A es n aa) (nm:Nm x:=by exact ⟨by rfl',by rfl',by rfl'⟩) (hg:Gl X x:=by rfl) (hr:Room lv X.A:=by exact hr.mono (by omega)) (ho:PE X o (yny 0):=by exact yhn rfl (by first|exact Or.inl rfl|exact Or.inr (Or.inl rfl)) (by rfl') (by rfl')) (hst:starEach (o::es) X.env=(false,eval o X.env)::starEach es X.env:=by rfl) (hpl:(backTo pos (starEach es X.env)).any (·.1)=false:=by rfl) (ht:eval (.Call (.Attribute (.Name x p) m apos) (o::es) [] pos) X.env=(do
   let ov <- eval (.Name x p) X.env
   standAt apos.atName
   let (f,first) <- holding [ov] (getMethod ov m pl)
   callWith pos f first (backTo pos (starEach (o::es) X.env)) (backToKw pos (keywordEach [] X.env))):=by rfl) (hq:swapsWith (.Call (.Attribute (.Name x p) m apos) (o::es) [] pos) none sp.line X.env=pure false:=by rfl):ZF X A (.Expr (.Call (.Attribute (.Name x p) m apos) (o::es) [] pos) sp) (xBI k fi aa) :=
 wF (ygA (yuM (E:=fun _ _ _=>False) c hg hm F hr hb yib (yex ho ha.of hst) nm.d hst hpl ht) hq) (yuB (K:=ckX X A) sA ha.len)
end
section
variable {P:Program}{w:World}{K:PySem.W.Frag}{mg:Str->Option Value}{base:Heap}{A:Nat->Addr}
theorem yBj {x qual:Str}{st:Stmt}{f:Addr}{fd:FuncData}{N ps:List Str}{k kc n:Nat}{s:XS}(F:Fun K x qual st f fd) (S:yed N ps (ybs st)) (hn:ps.length=n+1) (hN:n+1<=N.length)
  (h:∀ (cdv:Value) (Ar:Around) (outer:List Env) (sh:Shared) (H:Hp) (E:XK),Room k (Ar.deeper (envOfC qual (ybs st) sh.heap.objs.size f cdv))->ZFs (ylv CX0 P w K mg base N qual (ybs st) f cdv Ar outer sh H E).nox A (yeT st) s) :
  FnOk P w K mg base CX0 (k+1) f fd ps (spJ ⟨K,A⟩ n kc (ylo N.length kc s)) :=
 F.ok S (fun _ _ _ _ h=>(yuA h).trans hn.symm) fun cdv Ar outer sh H vs Q E hr hq=>⟨_,(h cdv Ar outer sh H E hr).of,ypG (K:=⟨K,A⟩) hN sF hq⟩
end
end PX
namespace PX
open PySem L2 PySem.Spec PyProof.Rows
section
variable {X:Cx}{A:Nat->Addr}
end
end PX
namespace PX
open PySem L2 PySem.Spec PyProof.Rows
section
variable {prog:Program}{w:World}{A:Around}{E:Value->Shared->Prop}{s:Shared}
end
section
variable {X:Cx}{A:Nat->Addr}
end
end PX
namespace PX
open PySem L2 PySem.Spec PyProof.Rows
open Builtin Builtin.Str in
section
variable {prog:Program}{w:World}{A:Around}{E:Value->Shared->Prop}{s:Shared}
theorem ynW {x y:Str}{t u:Tok}{Q:Value->Shared->Prop}(hy:(y.length == 0)=false) (hz:x.length+2<=sizeLine)
  (h:∀ (l:List (Str×Tok)) (k:Nat),l.map (·.1)=Txt.split x y->Q (.ref s.heap.objs.size) { s with heap:=s.heap.push { cls:=.type "list",data:=.seq (strValues l).toArray },toks:=k }) :
  wpAny (model prog w) A (call (.builtin "str.split") [.str x t,.str y u]) Q E s:=by
 have h2:(partsBetween x (occurrences x y 0 x.length (x.length+1)) y.length).length<=sizeLine:=by
  have:=StrLaws.occ_length_le x y 0 x.length (x.length+1)
  rw [length_partsBetween]
  omega
 by_cases c1:(decide (x.length<y.length) || decide (strKind x<strKind y))=true
 .exact call_meets F.slot_str_split (typeIs_str _ _ _) F.entry_str_split (F.args_str_split_2 _ _) (meets_str_split_cannot_occur x y t u c1) (h [(x,t)] s.toks (if_pos c1).symm)
 .have c1':(decide (x.length<y.length) || decide (strKind x<strKind y))=false:=by simpa using c1
  by_cases c2:(occurrences x y 0 x.length (x.length+1)).isEmpty=true
  .exact call_meets F.slot_str_split (typeIs_str _ _ _) F.entry_str_split (F.args_str_split_2 _ _) (meets_str_split_not_found x y t u c1' hy c2) (h [(x,t)] s.toks ((if_neg c1).trans (if_pos c2)).symm)
  .refine call_meets F.slot_str_split (typeIs_str _ _ _) F.entry_str_split (F.args_str_split_2 _ _) (meets_str_split_sep x y t u c1' hy (by simpa using c2) (by omega) h2) ?_
   show wants Q E _ { s with toks:=_,heap:=s.heap.push { cls:=.type "list",data:=.seq (strsFrom s.toks (partsBetween x (occurrences x y 0 x.length (x.length+1)) y.length)).toArray } }
   rw [strsFrom_eq]
   exact h _ _ ((numbered_texts _ _).trans ((if_neg c1).trans (if_neg c2)).symm)
end
theorem ynj (z:Str):Txt.split z " " = yom z:=by
 have e:(" ":Str)=⟨#[32]⟩:=by rfl'
 have h:=ykB (Txt.split z " ") (fun q=>by have:=split_pos z " ";rw [q] at this;simp at this) (by rw [e];exact StrLaws.split_free z 32)
 rw [StrLaws.join_split] at h
 exact h.symm
theorem ykL:∀ (l:List (Str×Tok)),Vals ((l.map (·.1)).map V.str) (strValues l)
 | []=>.nil
 | (_,t)::l=>.cons ⟨t,rfl⟩ (ykL l)
section
variable {X:Cx}{A:Nat->Addr}
theorem ysf:MtR X "str.split" ytm:=by
 intro pins s σ H x xs v us Q I rx rv h
 obtain ⟨z,rfl,rfl,hz,q⟩:=h
 obtain ⟨t,rfl⟩:=rx
 obtain ⟨u,rfl,ru⟩:=vals1 rv
 obtain ⟨t',rfl⟩:=ru
 have hs:z.length+2<=sizeLine:=by simp only [PySem.sizeLine_eq];omega
 refine ynW (by decide) hs fun l k e=>?_
 have e2:l.map (·.1)=yom z:=e.trans (ynj z)
 have e3:=split_le z " "
 rw [ynj] at e3
 refine ⟨.ref s.heap.objs.size,_,I.laid (t':=k) (o:=.lst ((yom z).map V.str)) (fun b o e=>Heap.get?_push_of_some _ e) (Nat.le_refl _) ?_,rfl,q _ (I.hok.fresh (Nat.le_refl _))⟩
 exact ⟨by rw [length_map];exact Nat.le_trans e3 hs,strValues l,0,e2 ▸ ykL l,Heap.get?_push_size _ rfl⟩
end
section
variable {X:Cx}{pins:List (Addr×Obj)}{σ:L2.St}{H:Hp}{s:Shared}{h':Heap}
end
section
variable {X:Cx}{A:Nat->Addr}{elts:List Expr}{x1:Nat}{tp p pos:Pos}{a b:Expr}{aa:XA}{n:Nat}
end
section
variable {X:Cx}{A:Nat->Addr}{pos:Pos}
end
end PX
namespace PX
open PySem L2 PySem.Spec PyProof.Rows
section
variable {X:Cx}{A:Nat->Addr}{a:Expr}{es:List Expr}{p pos:Pos}{x:Str}{aa:XA}{n lv:Nat}{f:Addr}{fd:FuncData}{ps:List Str}{fn:Fn}
end
end PX
namespace PX
open PySem L2 PySem.Spec PyProof.Rows
section
variable {X:Cx}{A:Nat->Addr}{tg a b c:Expr}{p pos:Pos}{aa:XA}{n:Nat}
end
end PX
namespace PX
open PySem L2 PySem.Spec PyProof.Rows
section
variable {X:Cx}{A:Nat->Addr}{tg a:Expr}{p pos:Pos}{xa:XE}{x:Str}{es:List Expr}{aa:XA}{n:Nat}
theorem yml {f:Addr}{fd:FuncData}{ps:List Str}{lv k:Nat}{fn:Fn}(M:Mk X.K (A k) f) (F:FnOk X.prog X.w X.K X.mg X.base CX0 lv f fd ps (spE (ckX X A) (n+1+1) fn)) (hm:X.mg x=some (.ref (A k))) (hb:Binds X.K fd ps []) (ha:ZA X A (a::es) (n+1) aa) (hr:Room (lv+1) X.A:=by exact hr.mono (by omega)) (m:Nm x:=by exact ⟨by rfl',by rfl',by rfl'⟩) (hg:Gl X x:=by rfl) (he:starEach (a::es) X.env=(false,eval a X.env)::starEach es X.env:=by rfl) (hpl:(backTo pos (starEach es X.env)).any (·.1)=false:=by rfl):ZE X A (.Call (.Name x p) (a::es) [] pos) (ygi k fn aa) :=
 wE (ylu M F hr hg hm hb .nil yib ha.of m.d he hpl) (ypI (K:=ckX X A) (k:=k) sA ha.len)
theorem ynk (hc:X.calm=true):yfP X (.builtin "any") yAL:=by
 intro pins s σ H xs us Q I r h
 obtain ⟨p,bs,rfl,hp,q⟩:=h
 obtain ⟨u,rfl,rx⟩:=vals1 r
 cases rx
 obtain ⟨its,n,rv,e,hz⟩:=I.lst hp
 have eb:=yiQ rv
 subst eb
 have hl:s.heap.IsList p (bs.map Value.bool).toArray:=⟨_,e,rfl,n,rfl⟩
 have hlt:p<s.heap.objs.size:=Heap.lt_size e
 refine call_any_walk (wpAny_pyIter_list hl ?_)
 refine ⟨s.heap.objs.size,[s.heap.objs.size,p],[s.heap.objs.size],(bs.map Value.bool).toArray.size,_,_,fun i=>(bs[i]?).getD false,rfl,Walks.list (A:=X.A.in1) (I.ok.hd hc) _ p (ne_of_lt hlt) _,
  ⟨⟨_,Heap.get?_push_size _ rfl,rfl,rfl⟩,hl.push _⟩,fun i v s' Q' E' hP hQ=>?_,fun h' tk hk=>?_⟩
 .have hP:(bs.map Value.bool)[i]?=some v:=by simpa using hP
  rw [getElem?_map] at hP
  cases eb:bs[i]? with
  | none=>rw [eb] at hP;cases hP
  | some b =>
   rw [eb] at hP
   cases hP
   simp only [eb,Option.getD_some] at hQ
   exact wpAny_truthy_bool hQ
 .have ea:((List.range (bs.map Value.bool).toArray.size).any fun i=>(bs[i]?).getD false)=bs.any id:=by
   rw [size_toArray,length_map]
   exact LSm.range_any bs
  rw [ea]
  exact ⟨.bl _,H,I.kept (t':=tk) fun b o eo=>hk b o (fun hm=>by rw [List.mem_singleton.mp hm] at eo;exact absurd (Heap.lt_size eo) (lt_irrefl _)) (Heap.get?_push_of_some _ eo),rfl,q⟩
theorem yfa {elt iter:Expr}{px:Pos}{scope:Scope}{cpos:Pos}{xe:XE}{ix:List Nat}(fr:List Str) (hi:ZE X A iter xa) (he:∀ (cl:List (Str×Addr)) (C:Addr) (s₃:Shared) (H₃:Hp) (fp:List Addr) (pins:List (Addr×Obj)),ZE (cxC X scope cl C (x::fr) s₃ H₃ fp pins) A elt xe) (hc:X.calm=true:=by rfl) (hfr:FrOk X scope ix fr:=by repeat' first|exact True.intro|exact rfl|refine And.intro ?_ ?_) (hnd:(x::fr).Nodup:=by rfl') (hkind:scope.kind=.function:=by rfl) (hcell:∀ y∈scope.names,y.2≠.cell:=by rfl') (hnames:∀ y∈scope.names,y.2=.local->scope.names.lookup y.1=some .local:=by rfl') (hfree0:∀ y∈scope.names,y.2=.free->y.1∈fr:=by rfl') (hx:scope.names.lookup x=some .local:=by rfl) (hs:∀ v,foldedSetIterable iter X.env v=pure v:=by exact fun _=>rfl):ZO X A (.ListComp elt [⟨.Name x px,iter,[],0⟩] scope cpos) (ycw xa ix xe) :=
 wO (yxp (yhk ix fr hc (yho hi.of) hfr (te:=cE (ckX X A) xe) (fun cl C s₃ H₃ fp pins=>(he cl C s₃ H₃ fp pins).of) (fun _ _ _ _ _ _=>.nil) hnd hkind hcell hnames hfree0 hx hs)) (ypJ (K:=ckX X A) ix sE sE)
end
end PX
namespace PX
open PySem L2 PySem.Spec PyProof.Rows KasS PXS
section
variable {X:Cx}{A:Nat->Addr}{xa:XE}{x:Str}
end
end PX
namespace PX
open PySem L2 PySem.Spec PyProof.Rows KasS PXS
section
variable {X:Cx}{A:Nat->Addr}{elts:List Expr}{x1:Nat}{tp pos apos cpos:Pos}{a:Expr}{xa:XE}
end
end PX
namespace PX
open PySem L2 PySem.Spec PyProof.Rows
section
variable (K:Ck) (E:XK)
noncomputable def cR (r:XR):TE:=fun σ H _=>∃ (W0 W:Wd) (ρ:PSt) (c:Str) (h':AH),W.H=H/\Good K W0 W ρ σ/\r ρ W.h=some (c,h')/\∀ W' a,W'.h=h'->Le K W W'->W'.H a=none->E (.ref (xAd K.K c)) (some a) W'.H
noncomputable def cRS (r:XR):TS:=fun _ σ H=>∃ (W0 W:Wd) (ρ:PSt) (c:Str) (h':AH),W.H=H/\Good K W0 W ρ σ/\r ρ W.h=some (c,h')/\∀ W' a,W'.h=h'->Le K W0 W'->W'.H a=none->E (.ref (xAd K.K c)) (some a) W'.H
end
noncomputable def spR (K:Ck) (n:Nat) (f:FnR):Sp:=fun vs H _ E=>∃ (W:Wd) (xs:List PV) (c:Str) (h':AH),W.H=H/\WOk K W/\ycL K W xs vs/\xs.length=n/\f xs W.h=some (c,h')/\∀ W' a,W'.h=h'->Le K W W'->W'.H a=none->E (.ref (xAd K.K c)) (some a) W'.H
theorem yuO {K:Ck}{n:Nat}{f:FnR}{vs:List V}{H:Hp}{Q:VK}{E:XK}(h:spR K n f vs H Q E):vs.length=n:=by
 obtain ⟨W,xs,c,h',rfl,w,r,hn,_⟩:=h
 rw [r.len,hn]
structure YE (X:Cx) (A:Nat->Addr) (E:XK) (e:Expr) (r:XR):Prop where of:PE X e (cR (ckX X A) E r)
structure YS (X:Cx) (A:Nat->Addr) (E:XK) (e:Stmt) (r:XR):Prop where of:PS X e (cRS (ckX X A) E r)
structure YSs (X:Cx) (A:Nat->Addr) (E:XK) (e:List Stmt) (r:XR):Prop where of:PSs X e (cRS (ckX X A) E r)
section
variable {X:Cx}{A:Nat->Addr}{E:XK}{o e a:Expr}{es:List Expr}{xa xb:XE}{aa:XA}{pos apos pos' p:Pos}{m f x:Str}{n k kc:Nat}{c:Str}{pl:Sem Bool}{fa:Addr}{fd:FuncData}{ps:List Str}{r r':XR}{rf:FnR}{lv:Nat}{st:Stmt}{rest:List Stmt}{s:XS}{xc:XT}
theorem y_call (F:FnOk X.prog X.w X.K X.mg X.base (CXr X.prog X.w) lv fa fd ps (spR (ckX X A) (n+1) rf)) (hm:X.mg x=some (.ref fa)) (hk:keepIn X.K (.ref fa)=true) (hb:Binds X.K fd ps [])
  (ha:ZA X A (a::es) (n+1) aa) (hp:Passes (CXr X.prog X.w) X E:=by exact ymm) (hr:Room lv X.A:=by exact hr.mono (by omega)) (m:Nm x:=by exact ⟨by rfl',by rfl',by rfl'⟩) (hg:Gl X x:=by rfl) (he:starEach (a::es) X.env=(false,eval a X.env)::starEach es X.env:=by rfl) (hpl:(backTo pos (starEach es X.env)).any (·.1)=false:=by rfl):YE X A E (.Call (.Name x p) (a::es) [] pos) (yji rf aa):=⟨fun pins s σ H Q I h=>by
 refine ylt F hr hg hm hk hb .nil hp ha.of m.d he hpl pins s σ H Q I ?_
 obtain ⟨W0,W,ρ,c,h',rfl,g,er,q⟩:=h
 obtain ⟨xs,h1,e1,e2⟩:=yh er
 refine ⟨W0,W,ρ,xs,h1,rfl,g,e1,fun vs W1 w1 l1 r1=>?_⟩
 subst w1
 rw [append_nil]
 exact ⟨W1,xs,c,h',rfl,l1.ok,r1,ha.len _ _ _ _ e1,e2,fun W' a w2 l2 n=>q W' a w2 (l1.trans l2) n⟩⟩
theorem ybW (ho:ZE X A o xa) (hm:Meth X.K (A kc) m fa) (F:FnOk X.prog X.w X.K X.mg X.base (CXr X.prog X.w) k fa fd ps (spR (ckX X A) (n+1) rf)) (hb:Binds X.K fd ps []) (ha:ZA X A (e::es) n aa) (hp:Passes (CXr X.prog X.w) X E:=by exact ymm) (c:Cls X.K (A kc):=by exact T.cl _) (hr:Room k X.A:=by exact hr.mono (by omega)) (hst:starEach (e::es) X.env=(false,eval e X.env)::starEach es X.env:=by rfl) (hpl:(backTo pos (starEach es X.env)).any (·.1)=false:=by rfl) (ht:eval (.Call (.Attribute o m apos) (e::es) [] pos) X.env=(do
   let ov <- eval o X.env
   standAt apos.atName
   let (f,first) <- holding [ov] (getMethod ov m pl)
   callWith pos f first (backTo pos (starEach (e::es) X.env)) (backToKw pos (keywordEach [] X.env))):=by rfl) :
  YE X A E (.Call (.Attribute o m apos) (e::es) [] pos) (yY kc m rf xa aa):=⟨fun pins s σ H Q I h=>by
 refine yoJ ho.of c hm F hr hb .nil hp ha.of hst hpl ht pins s σ H Q I ?_
 obtain ⟨W0,W,ρ,c,h',rfl,g,er,q⟩:=h
 obtain ⟨x,h1,e1,f1⟩:=yh er
 refine ⟨W0,W,ρ,x,h1,rfl,g,e1,fun v W1 w1 l1 r1=>?_⟩
 subst w1
 split at f1
 .rename_i k' ns xs hi
  split at f1
  .rename_i hc
   obtain ⟨ys,h2,e2,f2⟩:=yh f1
   obtain ⟨p,dx,vs,ev,hp,hl,rs⟩:=yem l1.ok hi r1
   rw [hc.1] at hp
   refine ⟨p,dx,_,ev,hp,ycv hc.2,?_⟩
   refine ⟨W0,W1,ρ,ys,h2,rfl,g.step l1,e2,fun us W2 w2 l2 r2=>?_⟩
   subst w2
   rw [append_nil]
   exact ⟨W2,x::ys,c,h',rfl,l2.ok,⟨v,us,rfl,l2.rep r1,r2⟩,by rw [length_cons,ha.len _ _ _ _ e2],f2,fun W' a w3 l3 n=>q W' a w3 ((l1.trans l2).trans l3) n⟩
  .cases f1
 .cases f1⟩
theorem ysg {K:Ck}{σ:L2.St}{H:Hp}{D:Ends}{Q:VK}(h:cRS K E r D σ H):cR K E r σ H Q:=by
 obtain ⟨W0,W,ρ,c,h',rfl,g,er,q⟩:=h
 exact ⟨W0,W,ρ,c,h',rfl,g,er,fun W' a w l n=>q W' a w (g.le.trans l) n⟩
theorem yfb (h:YE X A E e r):YS X A E (.Return (some e) pos) r:=⟨fun pins s σ H D I q=>ysL h.of pins s σ H D I (ysg q)⟩
theorem yfU (h:YE X A E e r) (hs:swapsWith e none pos.line X.env=pure false:=by rfl):YS X A E (.Expr e pos) r:=⟨fun pins s σ H D I q=>ygA h.of hs pins s σ H D I (ysg q)⟩
theorem yct {i:Nat}(h:YE X A E e r) (hi:X.N[i]?=some x:=by rfl) (hN:X.N.Nodup:=by exact nd) (hx:Loc X.env.scope x:=by first|exact Or.inl rfl|exact Or.inr rfl) (hs:swapsWith e (some (.Name x pos')) pos.line X.env=pure false:=by rfl) (hf:X.fn x=true\/X.env.scope.names.lookup x=some .local:=by exact Or.inl rfl):YS X A E (.Assign [.Name x pos'] e pos) r:=⟨fun pins s σ H D I q=>yov hN hi hx h.of hs hf pins s σ H D I (ysg q)⟩
theorem ycD (c':XCls X.K (xAd X.K x)) (hm:X.mg x=some (.ref (xAd X.K x))) (ha:ZE X A e xa) (hE:XEs X E:=by exact yto) (hx:X.ex=[]:=by rfl) (hc:X.calm=true:=by rfl) (hg:Gl X x:=by rfl) (hst:starEach [e] X.env=[(false,eval e X.env)]:=by rfl) (hd:(x == ("__debug__":Str))=false:=by decide) {np cpos:Pos} :
  YS X A E (.Raise (some (.Call (.Name x np) [e] [] cpos)) none pos) (ydG x xa):=⟨fun pins s σ H D I h=>by
 refine yra c' hE hx hc hg hm ha.of hst hd pins s σ H D I ?_
 obtain ⟨W0,W,ρ,c,h',rfl,g,er,q⟩:=h
 obtain ⟨y,h1,e1,f1⟩:=yh er
 cases f1
 exact ⟨W0,W,ρ,y,_,rfl,g,e1,fun v W' w l rv=>⟨rfl,fun a na=>q W' a w (g.le.trans l) na⟩⟩⟩
theorem ygk:YSs X A E rest rNo:=⟨fun pins s σ H D I h=>by
 obtain ⟨W0,W,ρ,c,h',rfl,g,er,q⟩:=h
 cases er⟩
theorem ycI {tt:List Stmt}{cc:Expr}(hc:ZT X A cc xc) (ha:YSs X A E tt r) (hb:YSs X A E rest r'):YSs X A E (.If cc tt [] pos::rest) (rIf xc r r'):=⟨fun pins s σ H D I h=>by
 refine ygb (yvW hc.of ha.of yop) hb.of pins s σ H D I ?_
 obtain ⟨W0,W,ρ,c,h',rfl,g,er,q⟩:=h
 obtain ⟨b,h1,e1,f1⟩:=yh er
 refine ⟨W0,W,ρ,b,h1,rfl,g,e1,fun W1 w1 l1=>?_⟩
 subst w1
 cases b with
 | true=>exact ⟨W0,W1,ρ,c,h',rfl,g.step l1,f1,q⟩
 | false=>exact ⟨W0,W1,ρ,c,h',rfl,g.step l1,f1,q⟩⟩
theorem yS (h:YS X A E st r):YSs X A E (st::rest) r:=⟨fun pins s σ H D I q=>ygb h.of yot pins s σ H D I q⟩
theorem ygJ (h1:ZS X A st s) (h2:YSs X A E rest r):YSs X A E (st::rest) (ypK s r):=⟨fun pins s σ H D I h=>by
 refine ygb h1.of h2.of pins s σ H D I ?_
 obtain ⟨W0,W,ρ,c,h',rfl,g,er,q⟩:=h
 obtain ⟨o,h1,e1,f1⟩:=yh er
 refine ⟨W0,W,ρ,o,h1,rfl,g,e1,?_⟩
 cases o with
 | nx ρ'=>exact fun W' σ' w l g'=>by subst w;exact ⟨W0,W',ρ',c,h',rfl,g',f1,q⟩
 | rt y=>cases f1
 | bk y=>cases f1
 | ct y=>cases f1⟩
end
section
variable {P:Program}{w:World}{K:PySem.W.Frag}{mg:Str->Option Value}{base:Heap}{A:Nat->Addr}
theorem yfn {x qual:Str}{st:Stmt}{f:Addr}{fd:FuncData}{N ps:List Str}{k:Nat}{r:XR}(F:Fun K x qual st f fd) (S:yed N ps (ybs st))
  (h:∀ (cdv:Value) (Ar:Around) (outer:List Env) (sh:Shared) (H:Hp) (E:XK),Room k (Ar.deeper (envOfC qual (ybs st) sh.heap.objs.size f cdv))->YSs (ylv (CXr P w) P w K mg base N qual (ybs st) f cdv Ar outer sh H E) A E (yeT st) r) :
  FnOk P w K mg base (CXr P w) (k+1) f fd ps (spR ⟨K,A⟩ ps.length (yiw N.length r)):=by
 obtain ⟨oc,od,kV,doc,pm,an,cdv,ct,osl,rfl,lk,hcd⟩:=F.ex
 refine ywd lk hcd S (fun _ _ _ _ h=>yuO h) fun Ar outer s H vs Q E hr hsp=>?_
 refine ⟨_,(h cdv Ar outer s H E hr).of,?_⟩
 obtain ⟨W,xs,c,h',rfl,wo,rp,_,er,q⟩:=hsp
 exact ⟨W,W,_,c,h',rfl,yft wo rp,er,q⟩
theorem yto {N:List Str}{qual:Str}{scope:Scope}{f:Addr}{cd:Value}{Ar:Around}{outer:List Env}{s:Shared}{H:Hp}{E:XK}:XEs (ylv (CXr P w) P w K mg base N qual scope f cd Ar outer s H E) E:=fun _ _ _ _ _ F q=>ytc F q
theorem ymm {N:List Str}{qual:Str}{scope:Scope}{f:Addr}{cd:Value}{Ar:Around}{outer:List Env}{s:Shared}{H:Hp}{E:XK}:Passes (CXr P w) (ylv (CXr P w) P w K mg base N qual scope f cd Ar outer s H E) E:=ywm fun _ _ _ q=>q
end
end PX
namespace L2
open PySem PySem.Spec PyProof.Rows
section
variable {X:Cx}{CX:CXT}{k:Nat}{f:Addr}{fd:FuncData}{ps:List Str}{sp:Sp}{dvs:List V}{ds:List Value}{E:XK}
end
end L2
namespace PX
open PySem L2 PySem.Spec PyProof.Rows
structure YB (X:Cx) (A:Nat->Addr) (b:List Stmt) (r:XR):Prop where of:BX X b (fun E σ H=>cR (ckX X A) E r σ H fun _ _=>False)
section
variable {X:Cx}{A:Nat->Addr}{e a:Expr}{es:List Expr}{aa:XA}{pos epos p:Pos}{x n:Str}{N lv i:Nat}{fa:Addr}{fd:FuncData}{ps:List Str}{r:XR}{rf:FnR}{s:XS}{body suite:List Stmt}{b₀:Stmt}
theorem Good.unset {K:Ck}{W0 W:Wd}{ρ:PSt}{σ:L2.St}(g:Good K W0 W ρ σ) (i:Nat):Good K W0 W (ρ.set i .no) (σ.set i none) where
 le:=g.le
 len:=by rw [length_set,length_set];exact g.len
 val:=fun j x e=>by
  by_cases q:i=j
  .subst q
   rw [List.getElem?_set] at e
   simp at e
  .rw [getElem?_set_ne q] at e
   obtain ⟨v,h1,h2⟩:=g.val j x e
   exact ⟨v,by rw [getElem?_set_ne q];exact h1,h2⟩
 own:=fun j d e=>by
  by_cases q:i=j
  .subst q
   rw [List.getElem?_set] at e
   simp at e
  .rw [getElem?_set_ne q] at e
   obtain ⟨p,h1,h2⟩:=g.own j d e
   exact ⟨p,by rw [getElem?_set_ne q];exact h1,h2⟩
 ne:=fun j k d d' hjk e1 e2=>by
  by_cases q:i=j
  .subst q
   rw [List.getElem?_set] at e1
   simp at e1
  .by_cases q':i=k
   .subst q'
    rw [List.getElem?_set] at e2
    simp at e2
   .rw [getElem?_set_ne q] at e1
    rw [getElem?_set_ne q'] at e2
    rw [getElem?_set_ne q,getElem?_set_ne q']
    exact g.ne j k d d' hjk e1 e2
theorem yxz {cs:List Str}{np hpos:Pos}(hb:YB X A body r) (hs:∀ a xe,ZSs (X.inX a xe) A (b₀::suite) s) (hc:∀ k∈cs,XSub X.K (xAd X.K k) (xAd X.K x)) (hm:X.mg x=some (.ref (xAd X.K x))) (hg:Gl X x:=by rfl) (hN:X.N.Nodup:=by exact nd) (hi:X.N[i]?=some n:=by rfl) (hk:X.env.scope.names.lookup n=some .local:=by rfl)
  (hst:X.stack=X.env::X.outer:=by rfl) (hL:X.env.frame=some X.env.locals:=by rfl) (hd:(x == ("__debug__":Str))=false:=by decide) :
  ZS X A (.Try body [.ExceptHandler (some (.Name x np)) (some n) (b₀::suite) hpos] [] [] pos) (yxo cs i r s):=⟨fun pins sh σ H D I h=>by
 refine ywq (t:=fun E σ H=>cR (ckX X A) E r σ H fun _ _=>False) (ts:=cS (ckX X A) s) hb.of (fun a xe=>(hs a xe).of) hg hm hN hi hk hst hL hd pins sh σ H D I ?_
 obtain ⟨W0,W,ρ,o,h',rfl,g,er,q⟩:=h
 unfold yxo at er
 split at er
 .rename_i c' h1 e1
  split at er
  .rename_i hc'
   split at er
   .rename_i ρ' h2 e2
    cases er
    refine ⟨W0,W,ρ,c',h1,rfl,g,e1,fun W' a w l na=>⟨xAd X.K c',a,rfl,rfl,hc c' hc',?_⟩⟩
    subst w
    have l2:=ylR (o:=ExO (xAd X.K c') a) l.ok na
    refine ⟨W0,ytd W' a (ExO (xAd X.K c') a),ρ.set i (.val (.exc c')),.nx ρ',h',rfl,((g.step l).step l2).set i ⟨a,rfl,yG⟩,e2,fun W2 σ2 w2 f2 g2=>?_⟩
    exact q W2 _ w2 ((l.trans l2).lf.trans f2) (g2.unset i)
   .cases er
  .cases er
 .cases er⟩
theorem yiy {K:Ck}{tb:List (Nat×Nat×Bool)}{xc:List (Str×Str×Bool)}{xy:List (Str×String×Bool)}(ht:∀ r∈tb,∀ (H:Hp) (a dx:Addr) (fs:List (Str×V)),H a=some (.ins (K.A r.1) dx fs)->IsI K.K H (.ref a) (.ref (K.A r.2.1)) r.2.2)
  (hx:∀ r∈xc,(∀ a,PySem.W.KitX K.K (.ref a) (.ref (xAd K.K r.1)) (fun h=>∃ ox,PySem.W.InstAt h a ox (xAd K.K r.1) none))/\PySem.W.kitOne K.K (.ref (xAd K.K r.1)) (.ref (xAd K.K r.2.1))=some r.2.2)
  (hy:∀ r∈xy,(∀ a,PySem.W.KitX K.K (.ref a) (.ref (xAd K.K r.1)) (fun h=>∃ ox,PySem.W.InstAt h a ox (xAd K.K r.1) none))/\PySem.W.kitOne K.K (.ref (xAd K.K r.1)) (.type r.2.1)=some r.2.2):yhx K (ywp K.K) (ykE tb xc xy):=by
 intro W xs vs Q z h' w r e q
 unfold ykE at e
 split at e
 .rename_i k c
  split at e
  .rename_i b hb
   cases e
   obtain ⟨v,u,rfl,⟨a,rfl,ha⟩,ru⟩:=yAF r
   refine .inr ⟨a,xAd K.K k,u,?_⟩
   unfold yxn at hb
   split at hb
   .rename_i c'
    obtain ⟨⟨k1,c1,b1⟩,hf,rfl⟩:=Option.map_eq_some_iff.mp hb
    have hm:=List.mem_of_find?_eq_some hf
    have hp:=List.find?_some hf
    simp only [and_eq_true,beq_iff_eq] at hp
    obtain ⟨rfl,rfl⟩:=hp
    obtain ⟨g1,g2⟩:=hx _ hm
    obtain rfl:u=.ref (xAd K.K c1):=ru
    exact ⟨_,_,rfl,w.le _ _ ha,g1 a,rfl,g2,q _ W rfl (.refl w) rfl⟩
   .rename_i n'
    obtain ⟨⟨k1,c1,b1⟩,hf,rfl⟩:=Option.map_eq_some_iff.mp hb
    have hm:=List.mem_of_find?_eq_some hf
    have hp:=List.find?_some hf
    simp only [and_eq_true,beq_iff_eq] at hp
    obtain ⟨rfl,rfl⟩:=hp
    obtain ⟨g1,g2⟩:=hy _ hm
    obtain rfl:u=.ty c1:=ru
    exact ⟨_,_,rfl,w.le _ _ ha,g1 a,rfl,g2,q _ W rfl (.refl w) rfl⟩
   .cases hb
  .cases e
 .exact .inl (yen ht W xs vs Q z h' w r e q)
theorem ykM (hm:X.mg x=some (.ref (xAd X.K x))) (m:Nm x:=by exact ⟨by rfl',by rfl',by rfl'⟩) (hg:Gl X x:=by rfl):ZE X A (.Name x pos) (xC (.xcl x)):=wE (yiL (v:=.ref (xAd X.K x)) hg hm rfl m.d) (fun W0 W ρ σ Q y h' g e q=>by cases e;exact q _ W rfl (.refl g.ok) rfl)
end
end PX
namespace PX
open PySem L2 PySem.Spec PyProof.Rows
section
variable {X:Cx}{A:Nat->Addr}{pos kpos:Pos}{keys:List (Option Expr)}{values:List Expr}{ks:List Str}{a:XA}{v:Expr}{xv:XE}{k:Str}{j}
end
end PX
namespace L2
open PySem PySem.Spec PyProof.Rows
abbrev ExB:List Value:=[.type "ValueError",.type "Exception",.type "BaseException",.type "object"]
structure XKit (K:PySem.W.Frag) (D:Addr):Prop where
 ex:PySem.W.excIn K D ExB "ValueError.__new__" = true
 mb:mroIn K D (.type "BaseException")=some true
 ga:findIn K (.ref D) "__getattribute__" = some (some (.builtin "BaseException.__getattribute__"))
 gn:findIn K (.ref D) "__getattr__" = some none
 cl:findIn K (.ref D) "__class__" = some (some (.builtin "object.__class__"))
 mo:mroIn K D (.type "object")=some true
 ty:typeIn K (.ref D)=some (.type "type")
theorem XKit.cls {K:PySem.W.Frag}{D:Addr}(x:XKit K D):XCls K D:=XCls.of x.ex
theorem XKit.kit {K:PySem.W.Frag}{D:Addr}(x:XKit K D) (hn:PySem.W.specialIn K (.builtin "object.__class__") "__get__" = some (some (.builtin "getset_descriptor.__get__"))) (htk:PySem.W.takesIn K (.builtin "object.__class__")=some true) (a:Addr) :
  PySem.W.KitX K (.ref a) (.ref D) (fun h=>∃ ox,PySem.W.InstAt h a ox D none):=by
 have hc:∃ c0 dd cd sl,K.lookup D=some ⟨c0,dd,.cls cd,sl⟩:=by
  have:=x.mo
  unfold mroIn PySem.W.clsIn at this
  split at this
  .rename_i c0 dd cd sl e
   exact ⟨_,_,_,_,e⟩
  .cases this
 obtain ⟨c0,dd,cd,sl,lk⟩:=hc
 refine yrd lk (fun {prog w s A E Q} X q=>PySem.W.looks_mroIn X x.mb A Q E s (fun _ _ e=>e) q) x.ga x.gn ?_ x.mo
 unfold PySem.W.findObj PySem.W.clsIn
 rw [lk,x.cl]
 simp only [bind_some,hn,htk]
theorem ypS {K:PySem.W.Frag}{D:Addr}{T:String}{b:Bool}(hm:PySem.W.kitMeta T=true) (h:mroIn K D (.type T)=some b):PySem.W.kitOne K (.ref D) (.type T)=some b:=by
 unfold PySem.W.kitOne
 rw [if_neg (by intro z;cases eq_of_beq z)]
 show (if _ then _ else _)=_
 rw [if_pos hm]
 exact h
theorem yZ {K:PySem.W.Frag}{n:Str}{D:Addr}(h:nsIn K mainGlobals n=some (some (.ref D))):xAd K n=D:=by
 unfold xAd
 rw [h]
end L2
namespace PX
open PySem L2 PySem.Spec PyProof.Rows
theorem ybv {X:Cx}{A:Nat->Addr}{E:XK}{st:Stmt}{rest:List Stmt}{s:XS}{r r':XR}(h1:YS X A E st r) (hz:ZS X A st s) (h2:YSs X A E rest r'):YSs X A E (st::rest) (yel s r r'):=⟨fun pins sh σ H D I h=>by
 obtain ⟨W0,W,ρ,c,h',rfl,g,er,q⟩:=h
 unfold yel at er
 split at er
 .rename_i ρ' h1' e1
  refine (ygJ hz h2).of pins sh σ _ D I ⟨W0,W,ρ,c,h',rfl,g,?_,q⟩
  unfold ypK
  rw [e1]
  exact er
 .cases er
 .exact (yS h1).of pins sh σ _ D I ⟨W0,W,ρ,c,h',rfl,g,er,q⟩⟩
section
variable {X:Cx}{A:Nat->Addr}{E:XK}{x:Str}
end
end PX
namespace PX
open PySem L2 PySem.Spec PyProof.Rows
section
variable {X:Cx}{A:Nat->Addr}{E:XK}{x n:Str}{r:XR}{i:Nat}{pos:Pos}
theorem ypT {elt iter:Expr}{px:Pos}{scope:Scope}{cpos:Pos}{xa xe:XE}{ix:List Nat}(fr:List Str) (hi:ZE X A iter xa) (hz:∀ (cl:List (Str×Addr)) (C:Addr) (s₃:Shared) (H₃:Hp) (fp:List Addr) (pins pn:List (Addr×Obj)) (XE:Value->Shared->Prop),ZE (cxP (cxC X scope cl C (x::fr) s₃ H₃ fp pins) pn XE) A elt xe)
  (hy:∀ (cl:List (Str×Addr)) (C:Addr) (s₃:Shared) (H₃:Hp) (fp:List Addr) (pins pn:List (Addr×Obj)) (XE:Value->Shared->Prop),Passes (CXr X.prog X.w) (cxP (cxC X scope cl C (x::fr) s₃ H₃ fp pins) pn XE) E->YE (cxP (cxC X scope cl C (x::fr) s₃ H₃ fp pins) pn XE) A E elt r) (hc:X.calm=true:=by rfl) (hE:XEs X E:=by exact yto) (hst:X.stack=X.env::X.outer:=by rfl) (hL:X.env.frame=some X.env.locals:=by rfl) (hex:X.ex=[]:=by rfl) (hfr:FrOk X scope ix fr:=by repeat' first|exact True.intro|exact rfl|refine And.intro ?_ ?_) (hnd:(x::fr).Nodup:=by rfl') (hkind:scope.kind=.function:=by rfl) (hcell:∀ y∈scope.names,y.2≠.cell:=by rfl') (hnames:∀ y∈scope.names,y.2=.local->scope.names.lookup y.1=some .local:=by rfl') (hfree0:∀ y∈scope.names,y.2=.free->y.1∈fr:=by rfl') (hx:scope.names.lookup x=some .local:=by rfl) (hs:∀ v,foldedSetIterable iter X.env v=pure v:=by intro _;rfl) :
  YE X A E (.ListComp elt [⟨.Name x px,iter,[],0⟩] scope cpos) (ykG xa ix xe r):=⟨fun pins s σ H Q I h=>by
 refine yre (E:=E) (te:=fun σ H Q=>cE (ckX X A) xe σ H Q\/cR (ckX X A) E r σ H Q) ix fr hc (yho hi.of) hfr (fun cl C s₃ H₃ fp pins pn XE hp pins' s σ H Q I q=>?_) hst hL hex hE hnd hkind hcell hnames hfree0 hx hs pins s σ H Q I ?_
 .rcases q with q|q
  .exact (hz cl C s₃ H₃ fp pins pn XE).of pins' s σ H Q I q
  .exact (hy cl C s₃ H₃ fp pins pn XE hp).of pins' s σ H Q I q
 .obtain ⟨W0,W,ρ,c,h',rfl,gd,er,q⟩:=h
  obtain ⟨v0,h1,e1,f1⟩:=yh er
  refine ⟨W0,W,ρ,v0,h1,rfl,gd,e1,fun v W1 w1 l1 r1=>?_⟩
  subst w1
  split at f1
  .rename_i n
   split at f1
   .rename_i xs hn
    split at f1
    .rename_i hlen
     obtain ⟨p,ev,hm,hf,us,hp,rs⟩:=l1.ok.loc hn r1
     refine ⟨p,ev,⟨us,SqL.of hp⟩,fun D hD=>?_⟩
     have nm:=l1.ok.out hD
     have nf:=l1.ok.ff hD
     refine ⟨fun i m H=>m=xs.length-i/\i<=xs.length/\∃ W' acc done,W'.H=H/\Le (ckX X A) W1 W'/\D∉W'.m/\W'.F D=none/\H D=some (.lst acc)/\ycL (ckX X A) W' done acc/\done.length=i/\ykF n xe r (yga ix ρ) (xs.length-i) i W'.h=some (c,h'),⟨_,rfl,zero_le _,yfs W1 D (.lst []),[],[],rfl,ycp l1.ok hD,nm,nf,yG,rfl,rfl,f1⟩,?_⟩
     rintro i m _ ⟨rfl,hi,W',acc,done,rfl,l,n1,n2,hd,rd,ld,f⟩
     have hm':W'.m[n]?=some p:=yeU l.pre hm
     by_cases hlt:i<xs.length
     .obtain ⟨k,hk⟩:∃ k,xs.length-i=k+1:=⟨xs.length-i-1,by omega⟩
      rw [hk] at f
      unfold ykF at f
      split at f
      .rename_i ys hy
       split at f
       .rename_i z hz
        obtain ⟨p',ev',hm2,hf',vs,hp',rs'⟩:=l.ok.loc hy (v:=.ref p) ⟨p,rfl,hm'⟩
        cases ev'
        obtain ⟨vz,hv1,hv2⟩:=rs'.get hz
        refine .inr ⟨⟨vs,vz,SqL.of hp',hv1⟩,fun v H2 hy=>?_⟩
        obtain ⟨rfl,hx⟩:=hy
        have hx:=hx vs (SqL.of hp')
        rw [hv1] at hx
        cases hx
        have gi:=ygg gd (l1.trans l) ix hv2
        split at f
        rotate_left
        .exact .inr ⟨W',W',_,c,h',rfl,gi,f,fun W'' a w l2 na=>q W'' a w ((l1.trans l).trans l2) na⟩
        .rename_i y h3 k1
         have k2:=f
         refine .inl ⟨W',W',_,y,h3,rfl,gi,k1,fun w W2 w2 l2 r2=>?_⟩
         have nm2:D∉W2.m:=fun z=>by rw [l2.mn D z n1] at hd;cases hd
         have nf2:W2.F D=none:=l2.new D _ hd n1 n2
         refine ⟨acc,l2.keep _ _ hd n1,?_,xs.length-(i+1),by omega,rfl,hlt,yok W2 D (.lst (acc++[w])),acc++[w],done++[y],rfl,ygC (l.trans l2) nm2 nf2 hD,nm2,nf2,yG,(l2.repL rd).snoc r2,by simp [ld],?_⟩
         .rw [rd.len,ld];exact big (by omega)
         .show ykF n xe r (yga ix ρ) (xs.length-(i+1)) (i+1) W2.h=some (c,h')
          rw [w2,show xs.length-(i+1)=k by omega];exact k2
       .cases f
      .cases f
     .rw [show xs.length-i=0 by omega] at f
      cases f
    .cases f1
   .cases f1
  .cases f1⟩
theorem ysh {cc:Expr}{body:List Stmt}{ca:XT}{b:XS}{fu:Nat}(hc:ZT X A cc ca) (hz:ZSs X A body b) (hy:YSs X A E body r) (hp:PassesOwn (model X.prog X.w) X.A X.env X.xe:=by exact PassesOwn.leaving):YS X A E (.While cc body [] pos) (ynd fu ca b r):=⟨fun pins s σ H D I h=>by
 refine ymE (tb:=fun D σ H=>cS (ckX X A) b D σ H\/cRS (ckX X A) E r D σ H) hp hc.of (fun pins s σ H D I q=>?_) pins s σ H D I ?_
 .rcases q with q|q
  .exact hz.of pins s σ H D I q
  .exact hy.of pins s σ H D I q
 .obtain ⟨W0,W,ρ,c,h',rfl,g,er,q⟩:=h
  refine ⟨fun m σ H=>∃ W' ρ',W'.H=H/\Good (ckX X A) W0 W' ρ' σ/\yrW ca b r m ρ' W'.h=some (c,h'),⟨fu,W,ρ,rfl,g,er⟩,?_⟩
  rintro m σ' _ ⟨W',ρ',rfl,g',f⟩
  cases m with
  | zero=>cases f
  | succ m =>
   obtain ⟨k,h1,e1,f1⟩:=yh f
   refine ⟨W0,W',ρ',k,h1,rfl,g',e1,fun W1 w1 l1=>?_⟩
   subst w1
   cases k with
   | false=>cases f1
   | true =>
    rw [if_pos rfl] at f1 ⊢
    refine ⟨fun σ2 H2=>∃ W2 ρ2,W2.H=H2/\Good (ckX X A) W0 W2 ρ2 σ2/\yrW ca b r m ρ2 W2.h=some (c,h'),fun σ2 H2 ⟨W2,ρ2,e2,g2,f2⟩=>⟨m,Nat.lt_succ_self m,W2,ρ2,e2,g2,f2⟩,?_⟩
    split at f1
    .rename_i ρ2 h2 e2
     exact .inl ⟨W0,W1,ρ',.nx ρ2,h2,rfl,g'.step l1,e2,fun W2 σ2 w2 _ g2=>⟨W2,ρ2,rfl,g2,by rw [w2];exact f1⟩⟩
    .cases f1
    .exact .inr ⟨W0,W1,ρ',c,h',rfl,g'.step l1,f1,q⟩⟩
theorem yuP {cs:List Str}{np hpos:Pos}{body suite:List Stmt}{b₀:Stmt}{s b:XS}(hb:YB X A body r) (hz:∀ xe,ZSs (X.wX xe) A body b) (hs:∀ a xe,ZSs (X.inX a xe) A (b₀::suite) s) (hc:∀ k∈cs,XSub X.K (xAd X.K k) (xAd X.K x)) (hm:X.mg x=some (.ref (xAd X.K x))) (hg:Gl X x:=by rfl) (hN:X.N.Nodup:=by exact nd) (hi:X.N[i]?=some n:=by rfl) (hk:X.env.scope.names.lookup n=some .local:=by rfl)
  (hst:X.stack=X.env::X.outer:=by rfl) (hL:X.env.frame=some X.env.locals:=by rfl) (hd:(x == ("__debug__":Str))=false:=by decide) :
  ZS X A (.Try body [.ExceptHandler (some (.Name x np)) (some n) (b₀::suite) hpos] [] [] pos) (yjj cs i r b s):=⟨fun pins sh σ H D I h=>by
 obtain ⟨W0,W,ρ,o,h',rfl,g,er,q⟩:=h
 unfold yjj at er
 split at er
 rotate_left
 .exact (yxz hb hs hc hm hg hN hi hk hst hL hd).of pins sh σ _ D I ⟨W0,W,ρ,o,h',rfl,g,er,q⟩
 .rename_i ρ' h2 e2
  .cases er
   have body:∀ xe,wpAny (model X.prog X.w) X.A (execs body X.env) (fun f s1=>match f with|.next=>wpAny (model X.prog X.w) X.A (execs [] X.env) (SP X pins D) X.xe s1|f=>SP X pins D f s1) xe sh:=fun xe=>by
    refine thn ((hz xe).of pins sh σ W.H ⟨D.nx,fun _ _=>False,fun _ _=>False,fun _ _=>False⟩ I.wX ⟨W0,W,ρ,.nx ρ',h',rfl,g,e2,q⟩) fun f s1 h1=>?_
    cases f with
    | next =>
     obtain ⟨σ',H',I',q'⟩:=h1
     exact wpAny_execs_nil ⟨σ',H',I'.unX I.ok,q'⟩
    | brk=>obtain ⟨_,_,_,z⟩:=h1;exact z.elim
    | cont=>obtain ⟨_,_,_,z⟩:=h1;exact z.elim
    | ret u=>obtain ⟨_,_,_,_,_,z⟩:=h1;exact z.elim
   exact wpAny_Try_except (body _)⟩
end
end PX
namespace L2
open PySem PySem.Spec PyProof.Rows
section
variable {X:Cx}{CX:CXT}{k:Nat}{f C:Addr}{fd:FuncData}{ps:List Str}{sp:Sp}{dvs:List V}{ds:List Value}{E:XK}
theorem ypU {pins:List (Addr×Obj)}{σ:St}{H:Hp}{s:Shared}{us:List Value}{vs:List V}{XE:Value->Shared->Prop}(M:Mk X.K C f) (F:FnOk X.prog X.w X.K X.mg X.base CX k f fd ps sp) (hr:Room (k+1) X.A) (hb:Binds X.K fd ps ds) (hd:Vals dvs ds)
  (I:Inv X pins σ H s) (r:Vals vs us) (h:∀ x dx,H x=none->H dx=none->dx≠x->sp (.ref x::(vs++dvs)) (upd (upd H dx (.own x)) x (.ins C dx [])) (fun _ _=>False) E)
  (hx:∀ H1 s1 e s',Inv X pins σ H1 s1->CX X.stack H1 s1 E e s'->XE e s'):wpAny (model X.prog X.w) X.A (call (.ref C) us) (fun _ _=>False) XE s:=by
 have hq:=h (s.heap.objs.size+1) s.heap.objs.size (I.hok.fresh (Nat.le_succ _)) (I.hok.fresh (Nat.le_refl _)) (ne_of_lt (Nat.lt_succ_self _))
 have I2:=Inv.made (C:=C) I
 have r2:Vals (V.ref (s.heap.objs.size+1)::(vs++dvs)) (Value.ref (s.heap.objs.size+1)::(us++ds)):=.cons rfl (r.append hd)
 have hl:(Value.ref (s.heap.objs.size+1)::us++ds).length=ps.length:=by
  have e:=r2.length
  rw [F.len _ _ _ _ hq] at e
  exact e.symm
 refine wpAny_call (ymH (f:=f) I.kIn M.makes M.init (beq_iff_eq.mp M.fn) (codeAny_mono (F.run _ X.stack _ _ ⟨Value.ref (s.heap.objs.size+1)::us,[]⟩ (Value.ref (s.heap.objs.size+1)::(us++ds)) _ _ E (hr.make C us [])
  (I2.env0.make C us []) (hb _ (Value.ref (s.heap.objs.size+1)::us) I2.kIn hl) r2 hq) fun r s' hq'=>?_))
 cases r with
 | error e=>exact hx _ _ e s' I2 hq'
 | ok fl =>
  cases fl with
  | ret u =>
   obtain ⟨v,H',I3,rv,q3⟩:=I2.after hq'
   exact q3.elim
  | next=>exact False.elim hq'
  | brk=>exact False.elim hq'
  | cont=>exact False.elim hq'
end
end L2
namespace PX
open PySem L2 PySem.Spec PyProof.Rows
section
variable {X:Cx}{A:Nat->Addr}{a:Expr}{es:List Expr}{aa:XA}{pos apos p py:Pos}{x y:Str}{N lv k:Nat}{fa:Addr}{fd:FuncData}{ps:List Str}{rf:FnR}
theorem yuQ (M:Mk X.K (A k) fa) (F:FnOk X.prog X.w X.K X.mg X.base (CXr X.prog X.w) lv fa fd ps (spR (ckX X A) (N+1+1) rf)) (hm:X.mg x=some (.ref (A k))) (hb:Binds X.K fd ps [])
  (ha:∀ xe,ZA (X.wX xe) A (a::es) (N+1) aa) (hr:Room (lv+1) X.A:=by exact hr.mono (by omega)) (m:Nm x:=by exact ⟨by rfl',by rfl',by rfl'⟩) (hg:Gl X x:=by rfl) (he:starEach (a::es) X.env=(false,eval a X.env)::starEach es X.env:=by rfl) (hpl:(backTo pos (starEach es X.env)).any (·.1)=false:=by rfl) (hs:swapsWith (.Call (.Name x p) (a::es) [] pos) (some (.Name y py)) apos.line X.env=pure false:=by rfl) :
  YB X A [.Assign [.Name y py] (.Call (.Name x p) (a::es) [] pos) apos] (yuD k rf aa):=⟨fun pins s σ H E XE I h hx=>by
 obtain ⟨W0,W,ρ,c,h',rfl,g,er,q⟩:=h
 obtain ⟨xs,h1,e1,e2⟩:=yh er
 refine wpAny_execs_cons (thn (wpAny_Assign_Name (Q:=fun _ _=>False) (thn (Q:=fun _ _=>False) ?_ fun _ _ z=>z.elim) hs) fun _ _ z=>z.elim)
 refine wpAny_Call_Name_kw (yeS I hg hm ?_ m.d)
 refine PySem.W.callWith_K (h₀:=X.base) I.ok.mod.kin M.kp (thn ((ha XE).of pos pins s σ W.H (fun vs H1=>∀ x dx,H1 x=none->H1 dx=none->dx≠x->spR (ckX X A) (N+1+1) rf (.ref x::(vs++[])) (upd (upd H1 dx (.own x)) x (.ins (A k) dx [])) (fun _ _=>False) E) I.wX ⟨W0,W,ρ,xs,h1,rfl,g,e1,fun vs W1 w1 l1 r1=>?_⟩) fun us s1 ⟨vs,H1,I1,r,q⟩=>⟨I1.kIn,?_⟩) he hpl
 .subst w1
  intro x dx hx' hd hne
  rw [append_nil]
  have a1:Le (ckX X A) W1 (yfs W1 dx (.own x)):=ycp l1.ok hd
  have hx1:(yfs W1 dx (.own x)).H x=none:=(yU hne.symm).trans hx'
  have a2:Le (ckX X A) (yfs W1 dx (.own x)) (yfs (yfs W1 dx (.own x)) x (.ins (A k) dx [])):=ycp a1.ok hx1
  obtain ⟨a3,r3⟩:=yxl (d:=.ins k [] []) (a1.trans a2) (l1.ok.out hx') hx' ⟨l1.ok.ff hx',dx,[],yG,rfl,rfl⟩
  exact ⟨⟨W1.F,upd (upd W1.H dx (.own x)) x (.ins (A k) dx []),W1.m++[x],W1.h++[Nd.ins k [] []]⟩,.loc W1.h.length::xs,c,h',rfl,a3.ok,⟨_,_,rfl,r3,a3.repL r1⟩,by rw [length_cons,(ha XE).len _ _ _ _ e1],e2,fun W' b w2 l2 n=>q W' b w2 (l1.trans (a3.trans l2)) n⟩
 .have I2:=I1.unX I.ok
  exact ypU M F hr hb .nil I2 r q fun H1 s1 e s' I3 z=>hx H1 s1 e s' I3 z⟩
end
end PX
namespace L2
open PySem PySem.Spec PyProof.Rows PX
def ynl (ix:List Nat) (σ:St) (a b:V):St:=some a::some b::ix.map fun i=>(σ[i]?).getD none
def yxA (K:PySem.W.Frag) (J:It) (tc:TT) (te:TE) (inn:V->V->St) (D:Addr) (Q:VK) (H:Hp):Prop:=∃ W:Nat->Nat->Hp->Prop,(∃ m,W 0 m H)/\∀ i m H,W i m H ->
 (J.stop i H/\Q (.ref D) H)\/(J.go i H/\∀ x H',J.yld i H x H'->∃ p a b,x=.ref p/\SqT K H' p [a,b]/\tc (inn a b) H' fun k H1=>if k=true then te (inn a b) H1 fun y H2=>∃ acc,H2 D=some (.lst acc)/\acc.length<sizeLine/\∃ m',m'<m/\W (i+1) m' (upd H2 D (.lst (acc++[y]))) else ∃ m',m'<m/\W (i+1) m' H1)
def ytp (K:PySem.W.Frag) (wi:TI) (ix:List Nat) (tc:TT) (te:TE):TE:=fun σ H Q=>wi σ H fun J H1=>∀ D,H1 D=none->yxA K J tc te (ynl ix σ) D Q (upd H1 D (.lst []))
theorem ysi {X:Cx}{elt iter:Expr}{cs:List Expr}{tc:TT}{x x2:Str}{px px2 tp:Pos}{tk:Nat}{scope:Scope}{cpos:Pos}{wi:TI}{te:TE}(ix:List Nat) (fr:List Str) (hc:X.calm=true) (hi:PI X (.Tuple [.Name x px,.Name x2 px2] tk tp) iter wi) (hfr:FrOk X scope ix fr)
  (he:∀ (cl:List (Str×Addr)) (C:Addr) (s₃:Shared) (H₃:Hp) (fp:List Addr) (pins:List (Addr×Obj)),PE (cxC X scope cl C (x::x2::fr) s₃ H₃ fp pins) elt te)
  (hq:∀ (cl:List (Str×Addr)) (C:Addr) (s₃:Shared) (H₃:Hp) (fp:List Addr) (pins:List (Addr×Obj)),PTs (cxC X scope cl C (x::x2::fr) s₃ H₃ fp pins) cs tc)
  (hnd:(x::x2::fr).Nodup) (hkind:scope.kind=.function) (hcell:∀ y∈scope.names,y.2≠.cell)
  (hnames:∀ y∈scope.names,y.2=.local->scope.names.lookup y.1=some .local) (hfree0:∀ y∈scope.names,y.2=.free->y.1∈fr) (hx:scope.names.lookup x=some .local) (hx2:scope.names.lookup x2=some .local)
  (hs:∀ v,foldedSetIterable iter X.env v=pure v):PE X (.ListComp elt [⟨.Tuple [.Name x px,.Name x2 px2] tk tp,iter,cs,0⟩] scope cpos) (ytp X.K wi ix tc te):=by
 intro pins s σ H Q I h
 have hfn:X.env.scope.kind=.function:=I.ok.kind
 have hfree:∀ y∈scope.names,y.2=.free->X.env.kindOf y.1=some .cell/\scope.names.lookup y.1=some .free:=fun y hy e=>by
  obtain ⟨j,hj,ej⟩:=getElem_of_mem (hfree0 y hy e)
  obtain ⟨i,_,_,h3,h4⟩:=hfr.get (j:=j) (y:=y.1) (by rw [List.getElem?_eq_getElem hj,ej])
  exact ⟨h4,h3⟩
 obtain ⟨cl,ecl,hcl1,hcl2⟩:=ycR (env:=X.env) scope.names [] fun n hn=>I.ok.has n (.inl (hfree _ hn rfl).1)
 have hclos:closureFor scope X.env=pure cl:=by
  unfold closureFor
  have:(forIn scope.names ([]:List (Str×Addr)) (fun (x:Str×NameKind) (r:List (Str×Addr))=>if (x.2 == NameKind.free)=true then do let c <- cellOf X.env x.1;pure (ForInStep.yield ((x.1,c)::r)) else pure (ForInStep.yield r)):Sem (List (Str×Addr)))=pure cl:=ecl
  first
   | exact (by simpa using congrArg (· >>= fun r=>pure r) this)
   | (rw [show (pure cl:Sem (List (Str×Addr)))=(pure cl >>= fun r=>pure r) from rfl,<- this];rfl)
 have hcle:∀ y c,cl.lookup y=some c->X.env.cells.lookup y=some c/\(y,NameKind.free)∈scope.names:=fun y c e=>by
  by_cases hy:(y,NameKind.free)∈scope.names
  .exact ⟨by rw [<- hcl1 y hy];exact e,hy⟩
  .rw [hcl2 y hy] at e;simp at e
 rw [eval_ListComp]
 refine wpAny_comprehension_free (use:=none) rfl hs hclos hkind hnames ?_
 refine thn (hi pins s σ H _ I h) fun v s1 h1=>thn h1 fun itv s2 h2=>?_
 obtain ⟨it,fp,tn,J,H2,e,I2,T,st2,f2,q2⟩:=h2
 subst e
 refine wpAny_newObj_type ?_
 generalize hs3:({ s2 with heap:=s2.heap.push { cls:=.type "list",dict:=none,data:=.seq ([]:List Value).toArray } }:Shared)=s3
 generalize hD:s2.heap.objs.size=D
 have hDn:H2 D=none:=by rw [<- hD];exact I2.hok.fresh (Nat.le_refl _)
 have I3:Inv X pins σ (upd H2 D (.lst [])) s3:=by
  rw [<- hs3,<- hD]
  exact I2.lnew (t':=s2.toks) (ys:=[]) (its:=[]) .nil (zero_le _)
 have k3:∀ b o,s2.heap.get? b=some o->s3.heap.get? b=some o:=fun b o e=>by rw [<- hs3];exact Heap.get?_push_of_some _ e
 have st3:tn 0 s3.heap:=T.keep _ _ _ st2 fun b _ o e=>k3 b o e
 have fne:∀ b∈fp,b≠D:=fun b hb=>by
  obtain ⟨o,e,_⟩:=T.obj _ _ st2 b hb
  rw [<- hD]
  exact ne_of_lt (Heap.lt_size e)
 have f3:∀ b∈fp,yll X pins (upd H2 D (.lst [])) b:=fun b hb=>⟨by rw [yU (fne b hb)];exact (f2 b hb).1,(f2 b hb).2⟩
 have q3:=q2 D hDn
 generalize upd H2 D (.lst [])=H3 at I3 f3 q3
 obtain ⟨W,⟨m0,w0⟩,turn⟩:=q3
 refine wpAny_newFunctionEnv hcell (by intro y hy;simp at hy) (fun h4 hns hsb=>?_) hkind
 try dsimp only at hns hsb ⊢
 generalize hC:s3.heap.objs.size=C at hns hsb ⊢
 have k4:∀ b o,s3.heap.get? b=some o->h4.get? b=some o:=fun b o e=>(hsb.2 b (by rw [<- hC];exact ne_of_lt (Heap.lt_size e))).trans (Heap.get?_push_of_some _ e)
 have Cne:∀ b o,s3.heap.get? b=some o->b≠C:=fun b o e=>by rw [<- hC];exact ne_of_lt (Heap.lt_size e)
 have stk:=I3.stkSub
 have pinF:∀ p∈X.pn++pins,p.1∉frs X.stack:=fun p hp z=>by
  obtain ⟨_,_,n1,n2,_⟩:=I3.pin p hp
  rcases mem_cons.mp (stk _ z) with z|z
  .exact n1 z
  .exact n2 z
 have okC:(cxC X scope cl C (x::x2::fr) s3 H3 fp pins).Ok:=by
  refine ⟨I3.ok.mod,by show (relabel scope X.env).kind=_;exact hkind,I3.ok.glob,I3.ok.blt,le_of_eq hC,fun y z c h1 h2=>I3.ok.inj y z c (hcle y c h1).1 (hcle z c h2).1,fun y hy=>?_,fun y c hf _=>(by cases hf),I3.ok.hd,I3.ok.frames,.inl rfl,fun b hb=>⟨?_,fun y c e z=>?_⟩,I3.bs,?_,fun b o e hb=>?_,fun b hb z=>?_,I3.stack,I3.stkFree⟩
  .have hy:((relabel scope X.env).names.lookup y=some .cell)\/((relabel scope X.env).names.lookup y=some .free):=hy
   rw [show (relabel scope X.env).names.lookup y=_ from ybt y scope.names] at hy
   cases e:scope.names.lookup y with
   | none=>rw [e] at hy;simp at hy
   | some k =>
    have hm:(y,k)∈scope.names:=PySem.mem_of_lookup e
    have hkf:k=.free:=by
     rw [e] at hy
     cases k<;>simp at hy ⊢
     exact absurd rfl (hcell _ hm)
    subst hkf
    obtain ⟨c,hc'⟩:=I3.ok.has y (.inl (hfree _ hm rfl).1)
    exact ⟨c,by show cl.lookup y=_;rw [hcl1 y hm];exact hc'⟩
  .obtain ⟨o,e,_⟩:=T.obj _ _ st3 b hb
   exact Cne b o e
  .exact (f3 b hb).2.2.2.2.1 y c (hcle y c e).1 z
  .exact Nat.le_trans I3.ok.bsz I3.sz
  .rcases (f3 b hb).2.2.2.1 with z|z
   .exact I3.ok.noex b o e z
   .exact absurd (lt_of_lt_of_le (Heap.lt_size e) (Nat.le_trans I3.ok.bsz z)) (lt_irrefl _)
  .rcases mem_cons.mp (stk _ z) with z|z
   .exact (f3 b hb).2.1 z
   .exact (f3 b hb).2.2.1 z
 have I4:Inv (cxC X scope cl C (x::x2::fr) s3 H3 fp pins) [] (none::none::ix.map fun i=>(σ[i]?).getD none) H3 { s3 with heap:=h4,toks:=s3.toks+([]:List (Str×Value)).length }:=by
  refine ⟨okC,rfl,I3.bare,Un.kept k4,⟨_,hns,fun j y v e1 e2 e3=>?_⟩,fun y c e=>?_,I3.hok.fresh (le_of_eq hC),fun y c e=>I3.freeC y c (hcle y c e).1,fun p hp=>?_,I3.hok.kept k4,?_⟩
  .match j,e1,e2 with
   | 0,e1,e2=>simp at e2
   | 1,e1,e2=>simp at e2
   | j+2,e1,e2 =>
    obtain ⟨i,hi1,hi2,hi3,hi4⟩:=hfr.get (j:=j) (y:=y) (by have e1':(x::x2::fr)[j+2]?=some y:=e1;simpa using e1')
    have e2':σ[i]?=some (some v):=by
     have e2:(ix.map fun i=>(σ[i]?).getD none)[j]?=some (some v):=by simpa using e2
     rw [getElem?_map,hi1] at e2
     simp at e2
     cases z:σ[i]? with
     | none=>rw [z] at e2;simp at e2
     | some o=>rw [z] at e2;simp at e2;rw [e2]
    obtain ⟨m,_,hl⟩:=I3.loc
    obtain ⟨u,r,l⟩:=hl i y v hi2 e2' (.inr (.inl hi4))
    refine ⟨u,r,?_⟩
    rcases l with ⟨k,_⟩|⟨k,c,ec,z⟩
    .rw [hi4] at k;cases k
    .have hm:(y,NameKind.free)∈scope.names:=PySem.mem_of_lookup hi3
     refine .inr ⟨.inl ?_,c,by show cl.lookup y=_;rw [hcl1 y hm];exact ec,?_⟩
     .show (relabel scope X.env).names.lookup y=_
      rw [show (relabel scope X.env).names.lookup y=_ from ybt y scope.names,hi3]
      simp [hfn,hi4]
     .obtain ⟨o,ho,hd⟩:=z
      exact ⟨o,k4 _ _ ho,hd⟩
  .obtain ⟨v,o,ho,hd⟩:=I3.cell y c (hcle y c e).1
   exact ⟨v,o,k4 _ _ ho,hd⟩
  .have hp:p∈X.pn++pins:=by simpa [cxC] using hp
   obtain ⟨e,n,ne,nf,d⟩:=I3.pin p hp
   exact ⟨k4 _ _ e,n,Cne _ _ e,pinF p hp,d⟩
  .show (none::none::ix.map fun i=>(σ[i]?).getD none).length=(x::x2::fr).length
   rw [length_cons,length_cons,length_cons,length_cons,length_map,hfr.len]
 have st4:tn 0 h4:=T.keep _ _ _ st3 fun b _ o e=>k4 b o e
 have f4:∀ b∈fp,b≠C/\b∉frs X.stack/\(∀ y c,cl.lookup y=some c->c≠b)/\∀ p∈(X.pn++pins)++([]:List (Addr×Obj)),p.1≠b:=fun b hb=>by
  obtain ⟨o,e,_⟩:=T.obj _ _ st3 b hb
  refine ⟨Cne b o e,fun z=>?_,fun y c e=>(f3 b hb).2.2.2.2.1 y c (hcle y c e).1,fun p hp=>(f3 b hb).2.2.2.2.2 p (by simpa using hp)⟩
  rcases mem_cons.mp (stk _ z) with z|z
  .exact (f3 b hb).2.1 z
  .exact (f3 b hb).2.2.1 z
 have stat:∀ {H':Hp},(∀ b∈fp,H' b=none)->∀ b∈fp,yll (cxC X scope cl C (x::x2::fr) s3 H3 fp pins) [] H' b:=fun hn b hb=>⟨hn b hb,(f4 b hb).1,(f4 b hb).2.1,.inl hb,(f4 b hb).2.2.1,(f4 b hb).2.2.2⟩
 have fin:∀ {σ':St}{H':Hp}{s':Shared},Inv (cxC X scope cl C (x::x2::fr) s3 H3 fp pins) [] σ' H' s'->Q (.ref D) H'->compPost (model X.prog X.w) X.A X.xe none (EP X pins σ Q) (.ref D) C (.ok .next) s':=fun {σ' H' s'} I' q'=>by
  obtain ⟨m,hn,_⟩:=I'.loc
  refine ⟨m,hn,fun h' sb=>⟨.ref D,H',?_,rfl,q'⟩⟩
  have hCn:H' C=none:=I'.free
  have same:∀ b,b≠C->h'.get? b=s'.heap.get? b:=fun b hb=>sb.2 b hb
  have U:=I'.base
  have U':Un (frs X.stack) fp H3 H' s3.heap h':=by
   refine ⟨fun b o e n h1 h2=>?_,fun b o e n h1 h2=>?_,U.free,fun b o e h2=>?_,U.tups,U.frzs,U.tbls⟩
   .rw [same b (Cne b o e)];exact U.keep b o e n h1 h2
   .rw [same b (Cne b o e)];exact U.slot b o e n h1 h2
   .rw [same b (Cne b o e)];exact U.there b o e h2
  refine I3.call' (s':={ s' with heap:=h' }) (by show s'.os=s3.os;exact I'.os) U' ?_ I'.bare fun b hb=>⟨(f3 b hb).2.2.2.1,(f3 b hb).2.1,(f3 b hb).2.2.2.2.1,(f3 b hb).2.2.2.2.2⟩
  intro b ob e
  refine (I'.hok b ob e).stay (fun c w' hc q=>?_) (fun _ q=>q) fun _ _ q=>q
  show h'.get? c=_
  rw [same c ?_]
  .exact q
  rintro rfl
  rcases hc with rfl|hc
  .rw [hCn] at e;cases e
  .rw [hCn] at hc;cases hc
 have loop:∀ s5:Shared,s5={ s3 with heap:=h4,toks:=s3.toks+([]:List (Str×Value)).length } ->
   codeAny (model X.prog X.w) X.A (.compLoop (.ListComp elt [⟨.Tuple [.Name x px,.Name x2 px2] tk tp,iter,cs,0⟩] scope cpos) 0 (.ref it) (.ref D) (compEnvC scope cl C X.env)) (compPost (model X.prog X.w) X.A X.xe none (EP X pins σ Q) (.ref D) C) s5:=by
  rintro s5 rfl
  refine codeAny_loop rfl (fun n s'=>∃ i o o2 H',Inv (cxC X scope cl C (x::x2::fr) s3 H3 fp pins) [] (o::o2::ix.map fun i=>(σ[i]?).getD none) H' s'/\tn i s'.heap/\(∀ b∈fp,H' b=none)/\W i n H') ?_ m0 ⟨0,none,none,H3,I4,st4,fun b hb=>(f3 b hb).1,w0⟩
  rintro n s6 ⟨i,o,o2,H6,I6,st6,fr6,w6⟩
  show wpAny _ _ ((compTurn (.ListComp elt [⟨.Tuple [.Name x px,.Name x2 px2] tk tp,iter,cs,0⟩] scope cpos) 0 (.ref it) (.ref D) (compEnvC scope cl C X.env)).onRaise (fun x=>do noteFrame x (compEnvC scope cl C X.env);theTreesLotGoes x)) _ _ s6
  refine wpAny_noted ?_
  rw [compTurn_list]
  rcases turn i n H6 w6 with ⟨stop,qn⟩|⟨go,step⟩
  .refine wpAny_bind (wpAny_standAt (wpAny_bind (thn (T.done (cxC X scope cl C (x::x2::fr) s3 H3 fp pins) rfl rfl rfl hc i [] s6 _ H6 _ I6 (stat fr6) st6 stop) fun r s7 ⟨hr,I7⟩=>?_)))
   subst hr
   exact wpAny_pure (fin I7 qn)
  .refine wpAny_bind (wpAny_standAt (wpAny_bind (thn (T.item (cxC X scope cl C (x::x2::fr) s3 H3 fp pins) rfl rfl rfl hc i [] s6 _ H6 _ I6 (stat fr6) st6 go) fun r s7 ⟨u,hr,h7⟩=>?_)))
   subst hr
   refine wpAny_bind (thn h7 fun _ s8 ⟨y,H8,I8,r8,y8,st8,fr8⟩=>?_)
   have I8':=I8.pinned (stat fr8) (T.obj _ _ st8)
   obtain ⟨p,va,vb,ep,hp,qs⟩:=step y _ y8
   have hx':Loc (cxC X scope cl C (x::x2::fr) s3 H3 fp pins).env.scope x:=.inl (lookup_relabel_local hx)
   have hx2':Loc (cxC X scope cl C (x::x2::fr) s3 H3 fp pins).env.scope x2:=.inl (lookup_relabel_local hx2)
   refine wpAny_bind (wpAny_mono (ysM (X:=cxC X scope cl C (x::x2::fr) s3 H3 fp pins) (pos:=tp) (k:=tk) (n:=2) hc (yiM (yfO (i:=0) (x:=x) (pos:=px) hnd rfl hx' (.inr (lookup_relabel_local hx))) (yiM (yfO (i:=1) (x:=x2) (pos:=px2) hnd rfl hx2' (.inr (lookup_relabel_local hx2))) you)) rfl rfl _ s8 _ H8 y u (fun σ9 H9=>σ9=ynl ix σ va vb/\H9=H8) I8' r8 ⟨p,[va,vb],ep,hp,rfl,va,[vb],rfl,vb,[],rfl,rfl,rfl,rfl⟩) (fun _ s9 ⟨σ9,H9,I9,e9,e9'⟩=>?_) fun _ _ f=>f.elim)
   subst e9 e9'
   refine wpAny_bind (wpAny_mono (hq cl C s3 H3 fp pins _ s9 _ _ _ I9 qs) (fun kb s9b hkb=>?_) fun _ _ f=>f.elim)
   obtain ⟨H9b,I9b,q9b⟩:=hkb
   cases kb with
   | false =>
    rw [if_neg (by decide)] at q9b
    obtain ⟨m',hm',w10⟩:=q9b
    refine wpAny_pure ⟨rfl,m',hm',i+1,some va,some vb,_,I9b.unpinned,T.keep _ _ _ st8 fun b hb o e=>(I9b.pin (b,o) (mem_append_right _ (mem_append_right _ (yba hb e)))).1,fun b hb=>?_,w10⟩
    obtain ⟨o,e,d⟩:=T.obj _ _ st8 b hb
    exact (I9b.pin (b,o) (mem_append_right _ (mem_append_right _ (yba hb e)))).2.1
   | true =>
   rw [if_pos rfl] at q9b
   refine wpAny_bind (wpAny_bind (wpAny_mono (he cl C s3 H3 fp pins _ s9b _ _ _ I9b q9b) (fun v s10 ⟨z,H10,I10,r10,acc,a10,l10,m',hm',w10⟩=>?_) fun _ _ f=>f.elim))
   refine wpAny_bind (wpAny_mono (ycW (X:=cxC X scope cl C (x::x2::fr) s3 H3 fp pins) _ s10 _ H10 (.ref D) [z] (.ref D) [v] (fun _ H11=>H11=upd H10 D (.lst (acc++[z]))) I10 rfl (.cons r10 .nil) ⟨D,acc,z,rfl,rfl,a10,l10,rfl⟩) (fun _ s11 ⟨_,H11,I11,_,e11⟩=>?_) fun _ _ f=>f.elim)
   subst e11
   refine wpAny_pure (wpAny_pure ⟨rfl,m',hm',i+1,some va,some vb,_,I11.unpinned,T.keep _ _ _ st8 fun b hb o e=>(I11.pin (b,o) (mem_append_right _ (mem_append_right _ (yba hb e)))).1,fun b hb=>?_,w10⟩)
   obtain ⟨o,e,d⟩:=T.obj _ _ st8 b hb
   exact (I11.pin (b,o) (mem_append_right _ (mem_append_right _ (yba hb e)))).2.1
 exact codeAny_compStart_list (loop _ rfl) (T.self X.A 0 _ _ _ st4 (loop _ rfl))
end L2
namespace PX
open PySem L2 PySem.Spec PyProof.Rows
section
variable {K:Ck}
theorem ykN {W0 W W':Wd}{ρ:PSt}{σ:L2.St}(g:Good K W0 W ρ σ) (l:Le K W W') (ix:List Nat) {x x2:PV}{v v2:V}(r:yda K W' x v) (r2:yda K W' x2 v2):Good K W' W' (yhE ix ρ x x2) (ynl ix σ v v2) where
 le:=.refl l.ok
 len:=by simp [yhE,ynl]
 val:=fun j y e=>by
  cases j with
  | zero=>simp [yhE] at e;subst e;exact ⟨v,rfl,r⟩
  | succ j =>
  cases j with
  | zero=>simp [yhE] at e;subst e;exact ⟨v2,rfl,r2⟩
  | succ j =>
   have e:(ix.map (yir ρ))[j]?=some (.val y):=e
   rw [getElem?_map] at e
   cases ei:ix[j]? with
   | none=>rw [ei] at e;cases e
   | some i =>
    rw [ei] at e
    have e:yir ρ i=.val y:=Option.some.inj e
    unfold yir at e
    split at e
    .rename_i z hz
     cases e
     obtain ⟨w,h1,h2⟩:=g.val i _ hz
     exact ⟨w,by show (ix.map fun i=>(σ[i]?).getD none)[j]?=_;rw [getElem?_map,ei];simp [h1],l.rep h2⟩
    .cases e
 own:=fun j d e=>by
  cases j with
  | zero=>simp [yhE] at e
  | succ j =>
  cases j with
  | zero=>simp [yhE] at e
  | succ j =>
   have e:(ix.map (yir ρ))[j]?=some (.own d):=e
   rw [getElem?_map] at e
   cases ei:ix[j]? with
   | none=>rw [ei] at e;cases e
   | some i =>
    rw [ei] at e
    have e:yir ρ i=.own d:=Option.some.inj e
    unfold yir at e
    split at e<;>cases e
 ne:=fun j k d d' _ e _=>by
  cases j with
  | zero=>simp [yhE] at e
  | succ j =>
  cases j with
  | zero=>simp [yhE] at e
  | succ j =>
   have e:(ix.map (yir ρ))[j]?=some (.own d):=e
   rw [getElem?_map] at e
   cases ei:ix[j]? with
   | none=>rw [ei] at e;cases e
   | some i =>
    rw [ei] at e
    have e:yir ρ i=.own d:=Option.some.inj e
    unfold yir at e
    split at e<;>cases e
theorem ypV {ta:TE}{ea:XE}{tA:TT}{eA:XT}{wi:TI}{it:XA}(ix:List Nat) (a:yrt K wi it) (c:yjK K tA eA) (b:ycH K ta ea):yln K (ytp K.K wi ix tA ta) (ypL it ix eA ea):=by
 intro W0 W ρ σ Q d h' gd e q
 obtain ⟨xs,h1,e1,f1⟩:=yh e
 split at f1
 .rename_i hlen
  obtain ⟨zs,h2,e2,f2⟩:=yh f1
  cases f2
  refine a W0 W ρ σ _ xs h1 gd e1 fun J W1 w1 l1 J1=>?_
  subst w1
  intro D hD
  have nm:=l1.ok.out hD
  have nf:=l1.ok.ff hD
  refine ⟨fun i m H=>m=xs.length-i/\i<=xs.length/\∃ W' acc done rest,W'.H=H/\Le K W1 W'/\D∉W'.m/\W'.F D=none/\H D=some (.lst acc)/\ycL K W' done acc/\done.length<=i/\zs=done++rest/\yvA eA ea (yhE ix ρ) (xs.drop i) W'.h=some (rest,h'),⟨_,rfl,zero_le _,yfs W1 D (.lst []),[],[],zs,rfl,ycp l1.ok hD,nm,nf,yG,rfl,Nat.le_refl _,rfl,by rw [List.drop_zero];exact e2⟩,?_⟩
  rintro i m _ ⟨rfl,hi,W',acc,done,rest,rfl,l,n1,n2,hd,rd,ld,ez,f⟩
  by_cases hlt:i<xs.length
  .rw [List.drop_eq_getElem_cons hlt] at f
   refine .inr ⟨J1.go i W' l.lf l.ok hlt,fun v H2 hy=>?_⟩
   obtain ⟨rfl,x,hx,rx⟩:=J1.yld i W' v H2 l.lf l.ok hlt hy
   rw [List.getElem?_eq_getElem hlt] at hx
   cases hx
   unfold yvA at f
   split at f
   rotate_left
   .cases f
   rename_i va vb ev
   obtain ⟨k0,h0,k00,f0⟩:=yh f
   rw [ev] at rx
   obtain ⟨pa,vs,rfl,hsq,rvs⟩:=rx
   obtain ⟨wa,wr,rfl,ra,rr⟩:=rvs
   obtain ⟨wb,we,rfl,rb,rn⟩:=rr
   cases rn
   refine ⟨pa,wa,wb,rfl,(hsq.elim (fun h=>SqT.of (l.ok.le _ _ h)) .inr),?_⟩
   refine c W' W' _ _ _ k0 h0 (ykN gd (l1.trans l) ix ra rb) k00 fun W0' w0' l0=>?_
   subst w0'
   have hd0:=l0.keep _ _ hd n1
   have nm0:D∉W0'.m:=fun z=>by rw [l0.mn D z n1] at hd;cases hd
   have nf0:W0'.F D=none:=l0.new D _ hd n1 n2
   cases k0 with
   | false =>
    rw [if_neg (by decide)] at f0 ⊢
    exact ⟨xs.length-(i+1),by omega,rfl,hlt,W0',acc,done,rest,rfl,l.trans l0,nm0,nf0,hd0,l0.repL rd,by omega,ez,f0⟩
   | true =>
   rw [if_pos rfl] at f0 ⊢
   obtain ⟨y,h3,k1,f3⟩:=yh f0
   obtain ⟨ys,h4,k2,f4⟩:=yh f3
   cases f4
   refine b W0' W0' _ _ _ y h3 (ykN gd (l1.trans (l.trans l0)) ix (l0.rep ra) (l0.rep rb)) k1 fun w W2 w2 l2 r2=>?_
   have nm2:D∉W2.m:=fun z=>by rw [l2.mn D z nm0] at hd0;cases hd0
   have nf2:W2.F D=none:=l2.new D _ hd0 nm0 nf0
   refine ⟨acc,l2.keep _ _ hd0 nm0,?_,xs.length-(i+1),by omega,rfl,hlt,yok W2 D (.lst (acc++[w])),acc++[w],done++[y],ys,rfl,ygC ((l.trans l0).trans l2) nm2 nf2 hD,nm2,nf2,yG,((l0.trans l2).repL rd).snoc r2,by simp;omega,by simp [ez],?_⟩
   .rw [rd.len];exact big (by omega)
   .show yvA eA ea (yhE ix ρ) (xs.drop (i+1)) W2.h=some (ys,h')
    rw [w2];exact k2
  .have ei:i=xs.length:=by omega
   subst ei
   rw [List.drop_length] at f
   cases f
   refine .inl ⟨J1.stop W' l.lf l.ok,?_⟩
   rw [append_nil] at ez
   subst ez
   exact q D W' rfl (l1.trans l) n1 (l1.fresh hD) (fun z=>by cases z) ⟨n2,acc,hd,rd⟩
 .cases f1
end
section
variable {X:Cx}{A:Nat->Addr}{x:Str}
theorem yuR {elt iter cnd:Expr}{px px2 tp:Pos}{tk:Nat}{x2:Str}{scope:Scope}{cpos:Pos}{it:XA}{xe:XE}{xc:XT}{ix:List Nat}(fr:List Str) (hi:ZI X A (.Tuple [.Name x px,.Name x2 px2] tk tp) iter it) (he:∀ (cl:List (Str×Addr)) (C:Addr) (s₃:Shared) (H₃:Hp) (fp:List Addr) (pins:List (Addr×Obj)),ZE (cxC X scope cl C (x::x2::fr) s₃ H₃ fp pins) A elt xe) (hq:∀ (cl:List (Str×Addr)) (C:Addr) (s₃:Shared) (H₃:Hp) (fp:List Addr) (pins:List (Addr×Obj)),ZT (cxC X scope cl C (x::x2::fr) s₃ H₃ fp pins) A cnd xc) (hc:X.calm=true:=by rfl) (hfr:FrOk X scope ix fr:=by repeat' first|exact True.intro|exact rfl|refine And.intro ?_ ?_) (hnd:(x::x2::fr).Nodup:=by rfl') (hkind:scope.kind=.function:=by rfl) (hcell:∀ y∈scope.names,y.2≠.cell:=by rfl') (hnames:∀ y∈scope.names,y.2=.local->scope.names.lookup y.1=some .local:=by rfl') (hfree0:∀ y∈scope.names,y.2=.free->y.1∈fr:=by rfl') (hx:scope.names.lookup x=some .local:=by rfl) (hx2:scope.names.lookup x2=some .local:=by rfl) (hs:∀ v,foldedSetIterable iter X.env v=pure v:=by exact fun _=>rfl):ZO X A (.ListComp elt [⟨.Tuple [.Name x px,.Name x2 px2] tk tp,iter,[cnd],0⟩] scope cpos) (ypL it ix xc xe) :=
 wO (ysi ix fr hc hi.of hfr (te:=cE (ckX X A) xe) (tc:=cT (ckX X A) xc) (fun cl C s₃ H₃ fp pins=>(he cl C s₃ H₃ fp pins).of) (fun cl C s₃ H₃ fp pins=>.one (hq cl C s₃ H₃ fp pins).of) hnd hkind hcell hnames hfree0 hx hx2 hs) (ypV (K:=ckX X A) ix sI sT sE)
end
end PX
namespace PX
open PySem L2 PySem.Spec PyProof.Rows
def cRA (K:Ck) (E:XK) (r:XR):TA:=fun σ H _=>cR K E r σ H fun _ _=>False
structure YA (X:Cx) (A:Nat->Addr) (E:XK) (es:List Expr) (r:XR):Prop where of:PA X es (cRA (ckX X A) E r)
section
variable {X:Cx}{A:Nat->Addr}{E:XK}{o e a:Expr}{es:List Expr}{xa xb:XE}{aa:XA}{pos apos pos' p cpos:Pos}{m f x:Str}{n k kc:Nat}{pl:Sem Bool}{fa C:Addr}{fd:FuncData}{ps:List Str}{r r':XR}{rf:FnR}{lv:Nat}{sp:Sp}
theorem yfV (h:YE X A E a r) (hs:starEach (a::es) X.env=(false,eval a X.env)::starEach es X.env:=by rfl):YA X A E (a::es) r:=⟨fun pos pins s σ H Q I q=>yex (t:=fun _ _ _=>False) h.of (fun _ _ _ _ _ _ _ z=>z.elim) hs pos pins s σ H Q I q⟩
theorem yjn (h1:ZE X A a xa) (h2:YA X A E es r) (hs:starEach (a::es) X.env=(false,eval a X.env)::starEach es X.env:=by rfl):YA X A E (a::es) (ynS xa r):=⟨fun pos pins s σ H Q I q=>by
 refine yex h1.of h2.of hs pos pins s σ H Q I ?_
 obtain ⟨W0,W,ρ,c,h',rfl,g,er,q⟩:=q
 obtain ⟨x,h1,e1,f1⟩:=yh er
 refine ⟨W0,W,ρ,x,h1,rfl,g,e1,fun v W1 w1 l1 r1=>?_⟩
 subst w1
 exact ⟨W0,W1,ρ,c,h',rfl,g.step l1,f1,fun W' a w l n=>q W' a w (l1.trans l) n⟩⟩
theorem yzT (h:YA X A E es r):YE X A E (.List es pos) r:=⟨fun pins s σ H Q I q=>ysV h.of pins s σ H Q I q⟩
theorem yuS (F:FnOk X.prog X.w X.K X.mg X.base CX0 lv fa fd ps sp) (hm:X.mg x=some (.ref fa)) (hk:keepIn X.K (.ref fa)=true) (hb:Binds X.K fd ps [])
  (ha:YA X A E (a::es) r) (hr:Room lv X.A:=by exact hr.mono (by omega)) (m:Nm x:=by exact ⟨by rfl',by rfl',by rfl'⟩) (hg:Gl X x:=by rfl) (he:starEach (a::es) X.env=(false,eval a X.env)::starEach es X.env:=by rfl) (hpl:(backTo pos (starEach es X.env)).any (·.1)=false:=by rfl):YE X A E (.Call (.Name x p) (a::es) [] pos) r:=⟨fun pins s σ H Q I q=>ylt F hr hg hm hk hb .nil yib ha.of m.d he hpl pins s σ H Q I q⟩
theorem yjo (M:Mk X.K C fa) (F:FnOk X.prog X.w X.K X.mg X.base CX0 lv fa fd ps sp) (hm:X.mg x=some (.ref C)) (hb:Binds X.K fd ps [])
  (ha:YA X A E (a::es) r) (hr:Room (lv+1) X.A:=by exact hr.mono (by omega)) (m:Nm x:=by exact ⟨by rfl',by rfl',by rfl'⟩) (hg:Gl X x:=by rfl) (he:starEach (a::es) X.env=(false,eval a X.env)::starEach es X.env:=by rfl) (hpl:(backTo pos (starEach es X.env)).any (·.1)=false:=by rfl):YE X A E (.Call (.Name x p) (a::es) [] pos) r:=⟨fun pins s σ H Q I q=>ylu M F hr hg hm hb .nil yib ha.of m.d he hpl pins s σ H Q I q⟩
theorem yxB {i:Nat}(ha:YE X A E a r) (ho:PE X o (yny i):=by exact yhn rfl (by first|exact Or.inl rfl|exact Or.inr (Or.inl rfl)) (by rfl') (by rfl')) (hbase:attributeBase o "append" X.env (eval o X.env)=eval o X.env:=by rfl) (hfew:((backTo cpos (starEach [a] X.env)).all (fun x=>!x.1) && (backToKw cpos (keywordEach [] X.env)).all (fun x=>x.1.isSome)
   && decide ([a].length+([]:List Keyword).length+(if ([]:List Keyword).isEmpty then 0 else 1)<30))=true:=by rfl) (hline:(apos.endLine == cpos.line)=true:=by rfl) (hs:starEach [a] X.env=(false,eval a X.env)::starEach [] X.env:=by rfl) (hplain:(backTo cpos (starEach [] X.env)).any (·.1)=false:=by rfl) (hsw:swapsWith (.Call (.Attribute o "append" apos) [a] [] cpos) none pos.line X.env=pure false:=by rfl) :
  YS X A E (.Expr (.Call (.Attribute o "append" apos) [a] [] cpos) pos) (ynT i r):=⟨fun pins s σ H D I q=>by
 refine ygA (yqT plainAttrs_list PySem.F.slot_list_append PySem.F.type_list_append ycW ho (yfV ha hs).of hbase hfew hline hs hplain) hsw pins s σ H D I ?_
 obtain ⟨W0,W,ρ,c,h',rfl,g,er,q⟩:=q
 unfold ynT at er
 split at er
 .rename_i xs0 hx
  obtain ⟨p,a1,a2,a3,a4,hf,vs,hp,r⟩:=g.own _ _ hx
  exact ⟨.ref p,a1,.inl ⟨rfl,_,SqL.of hp⟩,W0,W,ρ,c,h',rfl,g,er,fun W' a w l n=>q W' a w (g.le.trans l) n⟩
 .cases er⟩
theorem yxC {value:Expr}(hv:YE X A E value r) (ho:ZE X A o xa) (hs:swapsWith value (some (.Attribute o f pos')) pos.line X.env=pure false:=by rfl):YS X A E (.Assign [.Attribute o f pos'] value pos) r:=⟨fun pins s σ H D I q=>yoH ho.of hv.of hs pins s σ H D I (ysg q)⟩
theorem ybG (ho:ZE X A o xa) (hm:Meth X.K (A kc) m fa) (F:FnOk X.prog X.w X.K X.mg X.base (CXr X.prog X.w) k fa fd ps (spR (ckX X A) 1 rf)) (hb:Binds X.K fd ps []) (hp:Passes (CXr X.prog X.w) X E:=by exact ymm) (c:Cls X.K (A kc):=by exact T.cl _) (hr:Room k X.A:=by exact hr.mono (by omega)) (ht:eval (.Call (.Attribute o m apos) [] [] pos) X.env=(do
   let ov <- eval o X.env
   standAt apos.atName
   let (f,first) <- holding [ov] (getMethod ov m pl)
   callWith pos f first (backTo pos (starEach [] X.env)) (backToKw pos (keywordEach [] X.env))):=by rfl) :
  YE X A E (.Call (.Attribute o m apos) [] [] pos) (yY kc m rf xa yg):=⟨fun pins s σ H Q I h=>by
 refine ymJ ho.of c hm F hr hb .nil hp ht pins s σ H Q I ?_
 obtain ⟨W0,W,ρ,c,h',rfl,g,er,q⟩:=h
 obtain ⟨x,h1,e1,f1⟩:=yh er
 refine ⟨W0,W,ρ,x,h1,rfl,g,e1,fun v W1 w1 l1 r1=>?_⟩
 subst w1
 split at f1
 .rename_i k' ns xs hi
  split at f1
  .rename_i hc
   obtain ⟨p,dx,vs,ev,hp,hl,rs⟩:=yem l1.ok hi r1
   rw [hc.1] at hp
   refine ⟨p,dx,_,ev,hp,ycv hc.2,?_⟩
   exact ⟨W1,[x],c,h',rfl,l1.ok,⟨v,[],rfl,r1,rfl⟩,rfl,f1,fun W' a w3 l3 n=>q W' a w3 (l1.trans l3) n⟩
  .cases f1
 .cases f1⟩
theorem yuT {elt iter:Expr}{px:Pos}{scope:Scope}{ix:List Nat}{xe:XE}(fr:List Str) (hi:YE X A E iter r) (he:∀ (cl:List (Str×Addr)) (C:Addr) (s₃:Shared) (H₃:Hp) (fp:List Addr) (pins:List (Addr×Obj)),ZE (cxC X scope cl C (x::fr) s₃ H₃ fp pins) A elt xe) (hc:X.calm=true:=by rfl) (hfr:FrOk X scope ix fr:=by repeat' first|exact True.intro|exact rfl|refine And.intro ?_ ?_) (hnd:(x::fr).Nodup:=by rfl') (hkind:scope.kind=.function:=by rfl) (hcell:∀ y∈scope.names,y.2≠.cell:=by rfl') (hnames:∀ y∈scope.names,y.2=.local->scope.names.lookup y.1=some .local:=by rfl') (hfree0:∀ y∈scope.names,y.2=.free->y.1∈fr:=by rfl') (hx:scope.names.lookup x=some .local:=by rfl) (hs:∀ v,foldedSetIterable iter X.env v=pure v:=by exact fun _=>rfl):YE X A E (.ListComp elt [⟨.Name x px,iter,[],0⟩] scope cpos) r:=⟨fun pins s σ H Q I q=>by
 exact yhk ix fr hc (yho hi.of) hfr (te:=cE (ckX X A) xe) (fun cl C s₃ H₃ fp pins=>(he cl C s₃ H₃ fp pins).of) (fun _ _ _ _ _ _=>.nil) hnd hkind hcell hnames hfree0 hx hs pins s σ H Q I q⟩
end
end PX
namespace My
open PySem L2 PX
theorem yxD:(", not ":Str).length=6:=by rfl'
theorem yuU:("abcdefgh":Str).length=8:=by rfl'
theorem yuV:("no fault's name: ":Str).length=17:=by rfl'
theorem yuW:("no number: ":Str).length=11:=by rfl'
theorem yuX:("no part begins so: ":Str).length=19:=by rfl'
theorem yuY:("no slot: ":Str).length=9:=by rfl'
theorem yuZ:("wanted is ":Str).length=10:=by rfl'
section
def sl_ (s:String):Array (Lean.TSyntax `Lean.Parser.Tactic.simpLemma):=(s.splitOn " ").toArray.map fun s=>⟨Lean.mkNode `Lean.Parser.Tactic.simpLemma #[Lean.mkNullNode,Lean.mkNullNode,Lean.mkIdent s.toName]⟩
local macro_rules | `(tactic| simp_all? only [$ls,*])=>`(tactic| simp only [$(sl_ "yey yyZ yza ywI ywJ x_c yBb yzc yBc yBd yus ywK ywL ywM yzd yBe yze yBf yzf ywN yzg yzh ywO yzi yzj yzk x_call yBg yzl yBh yut ywP yuu ywQ yzm yzn yzo ywR yps yzp yzq ywS ywT ywU yuv ywV yzr yzs yzt yzu yzv yzw yzx yzy x_i yBi yzz ywW ywX yzA yzB yzC yzD yzE yzF ywY ywZ yzG yzH yzI yzJ yzK yzL yxa yxb yxc yxd yzb bind_some Option.bind_none List.set_cons_zero List.set_cons_succ length_cons List.length_nil decide_eq_true_eq Bool.not_eq_true' decide_eq_false_iff_not if_true if_false ite_true ite_false and_self Int.reducePow Int.reduceToNat Int.reduceLT Int.reduceLE Int.reduceNeg Int.reduceAdd Int.reduceSub Nat.reduceLT Nat.reduceLeDiff Nat.reduceAdd true_and and_true reduceIte Nat.reduceEqDiff eq_self yAH yzM yzN yzO yzP Int.reduceEq Bool.not_true Bool.not_false yxD yuU yuV yuW yuX yuY yuZ"),*,$ls,*])
local macro_rules | `(tactic| symm)=>`(tactic| simp_all? only [yey])
def tbO (cs:List Nat):List (Nat×Nat×Bool):=cs.flatMap fun i=>cs.map fun j=>(i,j,i == j)
def ycN:List (Nat×Nat×Bool):=tbO [1,2,3,4,5,6,7,8,9]
noncomputable def yva:List (Str×Str×Bool):=[("NoBoxes","NoBoxes",true),("NoBoxes","NoHands",false),("NoBoxes","NoDeed",false),("NoBoxes","NoHand",false),("NoBoxes","NoRow",false),("NoHands","NoBoxes",false),("NoHands","NoHands",true),("NoHands","NoDeed",false),("NoHands","NoHand",false),("NoHands","NoRow",false),("NoDeed","NoBoxes",false),("NoDeed","NoHands",false),("NoDeed","NoDeed",true),("NoDeed","NoHand",false),("NoDeed","NoRow",false)]
noncomputable def yvb:List (Str×String×Bool):=[("NoBoxes","ValueError",true),("NoHands","ValueError",true),("NoDeed","ValueError",true)]
def yfI:List PV->AH->Option (Nd×AH):=ylo 1 11 (yv (ycC [11] 0 "stack" (yfZ (ydn (yb (yfZ (ypw)) (yg))))) (ycC [11] 0 "last_seen" (yfZ (ypw))))
def ygl:Fn:=ycr 1 (ybf (xFz (yky (ydp [11] "last_seen" (ye 0)))))
def yep:Fn:=ycr 1 (ybf (yiW (xCB (ygE ycN) (yb (ye 0) (yb (xC (.ty "int")) (yg)))) (ynL (xCB (ygE ycN) (yb (ye 0) (yb (xC (.ty "bool")) (yg)))))))
def yde:Fn:=ycr 1 (ybf (yiW (yN yep (yb (ye 0) (yg))) (ydF (oLe) (oLt) (xC (.int 0)) (ye 0) (xC (.int 18446744073709551616)))))
def ydq:Fn:=ycr 2 (ybf (xCB (yqF) (yb (xFz (yha (xIS (ye 0)) [1] (xOp (ywD) (ye 0) (ye 1)))) (yg))))
def ycO:Fn:=ycr 2 (yv (ycT (xOr (ygz (yy (ydF (oLe) (oLe) (xC (.int 1)) (xCB (ylY) (yb (ye 0) (yg))) (xC (.int 20))))) (ygz (yy (yN ydq (yb (ye 0) (yb (xC (.str "0123456789")) (yg))))))) (ybf (xC .non)) (ybi)) (yv (ycT (yvw (yy (xOp (oEq) (xOp (ywF) (ye 0) (xC (.int 0))) (xC (.str "0")))) (yy (xOp (oNe) (ye 0) (xC (.str "0"))))) (ybf (xC .non)) (ybi)) (yv (ybM (xCB (ypq) (yb (ye 0) (yg))) (yz 1)) (ybf (xIf (yy (xOp (oLt) (ye 1) (xC (.int 18446744073709551616)))) (ye 1) (xC .non))))))
def yfc:Fn:=ycr 1 (ybf (xOp (yxe false) (ye 0) (xC (.tup [.str "plus",.str "minus",.str "times",.str "less",.str "same"]))))
def yfd:Fn:=ycr 1 (ybf (yiW (xOp (oEq) (xCB (ylY) (yb (ye 0) (yg))) (xC (.int 1))) (xOp (ywD) (ye 0) (xC (.str "abcdefgh")))))
def yfe:Fn:=ycr 1 (ybf (yiW (ydF (oLe) (oLe) (xC (.int 1)) (xCB (ylY) (yb (ye 0) (yg))) (xC (.int 8))) (yN ydq (yb (ye 0) (yb (xC (.str "abcdefghijklmnopqrstuvwxyz")) (yg))))))
def yff:List PV->AH->Option (Nd×AH):=ylo 3 12 (yv (ycC [12] 0 "held" (yfZ (ygZ (ybo) (yb (ye 1) (yg))))) (yv (ycC [12,14] 0 "width" (ye 2)) (ycC [12] 0 "log" (yfZ (yfB yfI (yg))))))
def yef:List PV->AH->Option (Nd×AH):=ylo 4 12 (yv (xBI 12 yff (yb (ye 2) (yb (ye 3) (yg)))) (yv (ycC [12] 0 "rows" (ye 1)) (yv (ycC [10,12] 0 "at" (xC (.int 0))) (yv (ycC [12] 0 "seen_stamps" (yfZ (ypw))) (ycC [12] 0 "sides" (yfZ (ydn (yg))))))))
def ydT:Fn:=ycr 1 (yv (ycT (yy (xOp (oEq) (ydp [14] "nth" (ye 0)) (xCB (ybD) (yb (ydp [14] "deeds" (ye 0)) (yg))))) (ybf (xC (.str "ended"))) (ybi)) (ybf (xIf (yy (ydp [14] "sleeps" (ye 0))) (xC (.str "asleep")) (xC (.str "awake")))))
def ydl:Fn:=ycr 2 (yv (ybM (xIf (yy (xOp (oLt) (ydp [14] "nth" (ye 0)) (xCB (ybD) (yb (ydp [14] "deeds" (ye 0)) (yg))))) (xOp (ydw) (ydp [14] "deeds" (ye 0)) (ydp [14] "nth" (ye 0))) (xFz (ydn (yg)))) (yz 1)) (ybf (yfZ (yfB yef (yb (ye 1) (yb (ydp [14] "before" (ye 0)) (yb (ydp [12,14] "width" (ye 0)) (yg))))))))
def ybw:Fn:=ycr 3 (yv (yeO [14] "deeds" (ye 0) (xFz (ygZ (ybo) (yb (ye 1) (yg))))) (yv (yeO [12,14] "width" (ye 0) (ye 2)) (yv (yeO [14] "nth" (ye 0) (xC (.int 0))) (yv (yeO [14] "sleeps" (ye 0) (xC (.bl false))) (yv (yeO [14] "before" (ye 0) (xFz (yjL yry (xFz (ydn (yb (xC (.int 0)) (yg)))) (xCB (ylY) (yb (xC (.str "abcdefgh")) (yg)))))) (yeO [14] "run" (ye 0) (yl 14 "new_run" ydl (ye 0) (yg))))))))
def yeg:List PV->AH->Option (Nd×AH):=ylo 3 1 (yv (ycC [1,2,3,4,5,7,8] 0 "slot" (ye 1)) (ycC [1] 0 "number" (ye 2)))
def ydf:List PV->AH->Option (Nd×AH):=ylo 5 2 (yv (ycC [2] 0 "word" (ye 1)) (yv (ycC [1,2,3,4,5,7,8] 0 "slot" (ye 2)) (yv (ycC [2] 0 "one" (ye 3)) (ycC [2] 0 "other" (ye 4)))))
def ydJ:List PV->AH->Option (Nd×AH):=ylo 3 3 (yv (ycC [1,2,3,4,5,7,8] 0 "slot" (ye 1)) (ycC [3,4] 0 "place" (ye 2)))
def yeh:List PV->AH->Option (Nd×AH):=ylo 3 4 (yv (ycC [3,4] 0 "place" (ye 1)) (ycC [1,2,3,4,5,7,8] 0 "slot" (ye 2)))
def yeA:List PV->AH->Option (Nd×AH):=ylo 4 5 (yv (ycC [1,2,3,4,5,7,8] 0 "slot" (ye 1)) (yv (ycC [5,6,7] 0 "parts" (xFz (ygZ (ybo) (yb (ye 2) (yg))))) (ycC [5,6,7] 0 "others" (xFz (ygZ (ybo) (yb (ye 3) (yg)))))))
def ydg:List PV->AH->Option (Nd×AH):=ylo 3 6 (yv (ycC [5,6,7] 0 "parts" (xFz (ygZ (ybo) (yb (ye 1) (yg))))) (ycC [5,6,7] 0 "others" (xFz (ygZ (ybo) (yb (ye 2) (yg))))))
def yei:List PV->AH->Option (Nd×AH):=ylo 5 7 (yv (ycC [5,6,7] 0 "parts" (xFz (ygZ (ybo) (yb (ye 1) (yg))))) (yv (ycC [7,8] 0 "name" (ye 2)) (yv (ycC [1,2,3,4,5,7,8] 0 "slot" (ye 3)) (ycC [5,6,7] 0 "others" (xFz (ygZ (ybo) (yb (ye 4) (yg))))))))
def ydA:List PV->AH->Option (Nd×AH):=ylo 3 8 (yv (ycC [7,8] 0 "name" (ye 1)) (ycC [1,2,3,4,5,7,8] 0 "slot" (ye 2)))
def yiz:Fn:=ycr 1 (ybf (xC (.int 1)))
def ygm:Fn:=ycr 1 (ybf (xC (.int 1)))
def yhF:Fn:=ycr 1 (ybf (xC (.int 1)))
def yiA:Fn:=ycr 1 (ybf (xC (.int 1)))
def ygU:Fn:=ycr 1 (ybf (xC (.int 1)))
def yhG:Fn:=ycr 1 (ybf (xC (.int 1)))
mutual
noncomputable def ypW:Nat->Nat->Fn
 | 0,_=>fun _ _=>none
 | n+1,k=>match k with|1=>yiz|2=>ygm|3=>yhF|4=>yiA|5=>ykO n|6=>ygn n|7=>yiB n|8=>ygU|9=>yhG|_=>fun _ _=>none
noncomputable def ybA:Nat->Fn
 | 0=>fun _ _=>none
 | n+1=>ycr 1 (ybf (xCB (yyX) (yb (xFz (yha (xIL (ye 0)) [] (yrD "long" (ypW n) (ye 0)))) (yg))))
noncomputable def ykO:Nat->Fn
 | 0=>fun _ _=>none
 | n+1=>ycr 1 (ybf (xOp yfR (xOp yfR (xC (.int 2)) (yN (ybA n) (yb (ydp [5,6,7] "parts" (ye 0)) (yg)))) (yN (ybA n) (yb (ydp [5,6,7] "others" (ye 0)) (yg)))))
noncomputable def ygn:Nat->Fn
 | 0=>fun _ _=>none
 | n+1=>ycr 1 (ybf (xOp yfR (xOp yfR (xC (.int 3)) (yN (ybA n) (yb (ydp [5,6,7] "parts" (ye 0)) (yg)))) (yN (ybA n) (yb (ydp [5,6,7] "others" (ye 0)) (yg)))))
noncomputable def yiB:Nat->Fn
 | 0=>fun _ _=>none
 | n+1=>ycr 1 (ybf (xOp yfR (xOp yfR (xC (.int 3)) (yN (ybA n) (yb (ydp [5,6,7] "parts" (ye 0)) (yg)))) (yN (ybA n) (yb (ydp [5,6,7] "others" (ye 0)) (yg)))))
end
def ygV:Fn:=ycr 1 (yv (ycT (yy (xCB (ygE ycN) (yb (ye 0) (yb (xC (.cls 1)) (yg))))) (ybf (xFz (ydn (yb (ygT (yb (xC (.str "let")) (yb (ydp [1,2,3,4,5,7,8] "slot" (ye 0)) (yb (ydp [1] "number" (ye 0)) (yg))))) (yg))))) (ybi)) (yv (ycT (yy (xCB (ygE ycN) (yb (ye 0) (yb (xC (.cls 2)) (yg))))) (ybf (xFz (ydn (yb (ygT (yb (ydp [2] "word" (ye 0)) (yb (ydp [1,2,3,4,5,7,8] "slot" (ye 0)) (yb (ydp [2] "one" (ye 0)) (yb (ydp [2] "other" (ye 0)) (yg)))))) (yg))))) (ybi)) (yv (ycT (yy (xCB (ygE ycN) (yb (ye 0) (yb (xC (.cls 3)) (yg))))) (ybf (xFz (ydn (yb (ygT (yb (xC (.str "take")) (yb (ydp [1,2,3,4,5,7,8] "slot" (ye 0)) (yb (ydp [3,4] "place" (ye 0)) (yg))))) (yg))))) (ybi)) (yv (ycT (yy (xCB (ygE ycN) (yb (ye 0) (yb (xC (.cls 4)) (yg))))) (ybf (xFz (ydn (yb (ygT (yb (xC (.str "put")) (yb (ydp [3,4] "place" (ye 0)) (yb (ydp [1,2,3,4,5,7,8] "slot" (ye 0)) (yg))))) (yg))))) (ybi)) (yv (ycT (yy (xCB (ygE ycN) (yb (ye 0) (yb (xC (.cls 8)) (yg))))) (ybf (xFz (ydn (yb (ygT (yb (xC (.str "throw")) (yb (ydp [7,8] "name" (ye 0)) (yb (ydp [1,2,3,4,5,7,8] "slot" (ye 0)) (yg))))) (yg))))) (ybi)) (yv (ycT (yy (xCB (ygE ycN) (yb (ye 0) (yb (xC (.cls 9)) (yg))))) (ybf (xFz (ydn (yb (ygT (yb (xC (.str "wait")) (yg))) (yg))))) (ybi)) (ybf (xFz (ydn (yg))))))))))
def yhH:Fn:=ycr 2 (yv (ycT (yy (xCB (ygE ycN) (yb (ye 0) (yb (xC (.cls 5)) (yg))))) (ybf (ygT (yb (xC (.str "unless")) (yb (ydp [1,2,3,4,5,7,8] "slot" (ye 0)) (yb (ye 1) (yg)))))) (ybi)) (yv (ycT (yy (xCB (ygE ycN) (yb (ye 0) (yb (xC (.cls 6)) (yg))))) (ybf (ygT (yb (xC (.str "either")) (yb (ye 1) (yg))))) (ybi)) (ybf (ygT (yb (xC (.str "guard")) (yb (ydp [7,8] "name" (ye 0)) (yb (ydp [1,2,3,4,5,7,8] "slot" (ye 0)) (yb (ye 1) (yg)))))))))
def yfJ:Fn:=ycr 2 (yv (ycT (yy (xCB (ygE ycN) (yb (ye 0) (yb (xC (.cls 5)) (yg))))) (ybf (xFz (ydn (yb (ygT (yb (xC (.str "jump")) (yb (ye 1) (yg)))) (yg))))) (ybi)) (ybf (xFz (ydn (yb (ygT (yb (xC (.str "settle")) (yg))) (yb (ygT (yb (xC (.str "jump")) (yb (ye 1) (yg)))) (yg)))))))
mutual
noncomputable def yeB:Nat->Fn
 | 0=>fun _ _=>none
 | n+1=>ycr 4 (yv (ylU (ydn (yg)) 2) (yv (yoj (xIL (ye 0)) (yz 3) (yrL 2 (yN (yhI n) (yb (ye 3) (yb (xOp yfR (ye 1) (yrN 2)) (yg)))))) (yuf 2 (ybf (ye 2)))))
noncomputable def yhI:Nat->Fn
 | 0=>fun _ _=>none
 | n+1=>ycr 2 (yv (ycT (xOr (yy (xCB (ygE ycN) (yb (ye 0) (yb (xC (.cls 5)) (yg))))) (xOr (yy (xCB (ygE ycN) (yb (ye 0) (yb (xC (.cls 6)) (yg))))) (yy (xCB (ygE ycN) (yb (ye 0) (yb (xC (.cls 7)) (yg))))))) (ybf (yN (ygW n) (yb (ye 0) (yb (ye 1) (yg))))) (ybi)) (ybf (yN ygV (yb (ye 0) (yg)))))
noncomputable def ygW:Nat->Fn
 | 0=>fun _ _=>none
 | n+1=>ycr 6 (yv (ybM (xOp yfR (ye 1) (yrD "long" (ypW 45) (ye 0))) (yz 2)) (yv (ybM (xOp ywA (ye 2) (yN (ybA 45) (yb (ydp [5,6,7] "others" (ye 0)) (yg)))) (yz 3)) (yv (ybM (yN (yeB n) (yb (ydp [5,6,7] "parts" (ye 0)) (yb (xOp yfR (ye 1) (xC (.int 1))) (yg)))) (yz 4)) (yv (ybM (yN (yeB n) (yb (ydp [5,6,7] "others" (ye 0)) (yb (ye 3) (yg)))) (yz 5)) (ybf (xFz (yjL yol (xFz (yjL yol (xFz (yjL yol (xFz (ydn (yb (yN yhH (yb (ye 0) (yb (ye 3) (yg)))) (yg)))) (ye 4))) (yN yfJ (yb (ye 0) (yb (ye 2) (yg)))))) (ye 5))))))))
end
def ydr:Fn:=ycr 1 (ybf (xFz (yjL yol (yN (yeB 45) (yb (ye 0) (yb (xC (.int 0)) (yg)))) (xFz (ydn (yb (ygT (yb (xC (.str "lay")) (yg))) (yg)))))))
def ycE:List PV->AH->Option (Nd×AH):=ylo 2 10 (yv (ycC [10] 0 "words" (xFz (ygZ (ybo) (yb (ye 1) (yg))))) (ycC [10,12] 0 "at" (xC (.int 0))))
def yeq:Fn:=ycr 1 (yv (ycT (yy (xOp (oEq) (ye 0) (xC (.str "")))) (ybf (xFz (ydn (yg)))) (ybi)) (ybf (xBM isStr (ykC) (ye 0) (yb (xC (.str " ")) (yg)))))
def yV:Fn:=ycr 1 (yv (ycT (yy (xOp (oLt) (ydp [10,12] "at" (ye 0)) (xCB (ybD) (yb (ydp [10] "words" (ye 0)) (yg))))) (ybf (xOp (ydw) (ydp [10] "words" (ye 0)) (ydp [10,12] "at" (ye 0)))) (ybi)) (ybf (xC .non)))
def yQ:Fn:=ycr 2 (yv (ybM (yl 10 "ahead" yV (ye 0) (yg)) (yz 1)) (yv (ycT (yy (xOp (yqE) (ye 1) (xC .non))) (yeV) (ybi)) (yv (yeO [10,12] "at" (ye 0) (xOp yfR (ydp [10,12] "at" (ye 0)) (xC (.int 1)))) (ybf (ye 1)))))
def yp:Fn:=ycr 3 (yv (ybM (yl 10 "taken" yQ (ye 0) (yg)) (yz 2)) (ycT (yy (xOp (oNe) (ye 2) (ye 1))) (yeV) (ybi)))
def yi:Fn:=ycr 2 (yv (ybM (yl 10 "taken" yQ (ye 0) (yg)) (yz 1)) (yv (ycT (ygz (yy (yN yfd (yb (ye 1) (yg))))) (yeV) (ybi)) (ybf (ye 1))))
def ybe:Fn:=ycr 2 (yv (ybM (yl 10 "taken" yQ (ye 0) (yg)) (yz 1)) (yv (ycT (ygz (yy (yN yfe (yb (ye 1) (yg))))) (yeV) (ybi)) (ybf (ye 1))))
def ybT:Fn:=ycr 3 (yv (ybM (yl 10 "taken" yQ (ye 0) (yg)) (yz 1)) (yv (ybM (yN ycO (yb (ye 1) (yg))) (yz 2)) (yv (ycT (yy (xOp (yqE) (ye 2) (xC .non))) (yeV) (ybi)) (ybf (ye 2)))))
def ybU:Fn:=ycr 5 (yv (ybM (yl 10 "slot_taken" yi (ye 0) (yg)) (yz 2)) (yv (ybM (yl 10 "slot_taken" yi (ye 0) (yg)) (yz 3)) (yv (ybM (yl 10 "slot_taken" yi (ye 0) (yg)) (yz 4)) (ybf (xFz (yfB ydf (yb (ye 1) (yb (ye 2) (yb (ye 3) (yb (ye 4) (yg)))))))))))
def yca:Fn:=ycr 5 (yv (ycT (yy (xOp (oEq) (ye 1) (xC (.str "let")))) (yv (ybM (yl 10 "slot_taken" yi (ye 0) (yg)) (yz 2)) (ybf (xFz (yfB yeg (yb (ye 2) (yb (yl 10 "number_taken" ybT (ye 0) (yg)) (yg))))))) (ybi)) (yv (ycT (yy (xOp (oEq) (ye 1) (xC (.str "take")))) (yv (ybM (yl 10 "slot_taken" yi (ye 0) (yg)) (yz 2)) (ybf (xFz (yfB ydJ (yb (ye 2) (yb (yl 10 "slot_taken" yi (ye 0) (yg)) (yg))))))) (ybi)) (yv (ycT (yy (xOp (oEq) (ye 1) (xC (.str "put")))) (yv (ybM (yl 10 "slot_taken" yi (ye 0) (yg)) (yz 3)) (ybf (xFz (yfB yeh (yb (ye 3) (yb (yl 10 "slot_taken" yi (ye 0) (yg)) (yg))))))) (ybi)) (yv (ycT (yy (xOp (oEq) (ye 1) (xC (.str "throw")))) (yv (ybM (yl 10 "name_taken" ybe (ye 0) (yg)) (yz 4)) (ybf (xFz (yfB ydA (yb (ye 4) (yb (yl 10 "slot_taken" yi (ye 0) (yg)) (yg))))))) (ybi)) (yv (ycT (yy (xOp (oEq) (ye 1) (xC (.str "wait")))) (ybf (xFz (ymV 9))) (ybi)) (yv (ycT (yy (yN yfc (yb (ye 1) (yg)))) (ybf (yl 10 "reckon_taken" ybU (ye 0) (yb (ye 1) (yg)))) (ybi)) (yeV)))))))
def yeP:XT:=yy (xOp (oEq) (yl 10 "ahead" yV (ye 0) (yg)) (xC (.str ";")))
mutual
noncomputable def yJ:Nat->Fn
 | 0=>fun _ _=>none
 | n+1=>ycr 3 (yv (ycT (xOr (yy (xOp (yqE) (yl 10 "ahead" yV (ye 0) (yg)) (xC .non))) (yy (xOp (oEq) (yl 10 "ahead" yV (ye 0) (yg)) (xC (.str ")"))))) (ybf (xFz (ydn (yg)))) (ybi)) (yv (ylU (ydn (yb (yl 10 "part_taken" (yw n) (ye 0) (yb (ye 1) (yg))) (yg))) 2) (yv (yiq 100 (yeP) (yv (ydN (yl 10 "pass_over" yp (ye 0) (yb (xC (.str ";")) (yg)))) (yiZ 2 (yl 10 "part_taken" (yw n) (ye 0) (yb (ye 1) (yg)))))) (yuf 2 (ybf (ye 2))))))
noncomputable def yo:Nat->Fn
 | 0=>fun _ _=>none
 | n+1=>ycr 3 (yv (ydN (yl 10 "pass_over" yp (ye 0) (yb (xC (.str "(")) (yg)))) (yv (ybM (yl 10 "list_taken" (yJ n) (ye 0) (yb (ye 1) (yg))) (yz 2)) (yv (ydN (yl 10 "pass_over" yp (ye 0) (yb (xC (.str ")")) (yg)))) (ybf (ye 2)))))
noncomputable def yw:Nat->Fn
 | 0=>fun _ _=>none
 | n+1=>ycr 3 (yv (ycT (yy (xOp (oGt) (ye 1) (xC (.int 8)))) (yeV) (ybi)) (yv (ybM (yl 10 "taken" yQ (ye 0) (yg)) (yz 2)) (yv (ycT (yy (xOp (oEq) (ye 2) (xC (.str "if")))) (ybf (yl 10 "if_taken" (ycF n) (ye 0) (yb (xOp yfR (ye 1) (xC (.int 1))) (yg)))) (ybi)) (yv (ycT (yy (xOp (oEq) (ye 2) (xC (.str "either")))) (ybf (yl 10 "either_taken" (ybV n) (ye 0) (yb (xOp yfR (ye 1) (xC (.int 1))) (yg)))) (ybi)) (yv (ycT (yy (xOp (oEq) (ye 2) (xC (.str "try")))) (ybf (yl 10 "try_taken" (ycu n) (ye 0) (yb (xOp yfR (ye 1) (xC (.int 1))) (yg)))) (ybi)) (ybf (yl 10 "plain_taken" yca (ye 0) (yb (ye 2) (yg)))))))))
noncomputable def ycF:Nat->Fn
 | 0=>fun _ _=>none
 | n+1=>ycr 5 (yv (ybM (yl 10 "slot_taken" yi (ye 0) (yg)) (yz 2)) (yv (ybM (yl 10 "side_taken" (yo n) (ye 0) (yb (ye 1) (yg))) (yz 3)) (yv (ydN (yl 10 "pass_over" yp (ye 0) (yb (xC (.str "else")) (yg)))) (yv (ybM (yl 10 "side_taken" (yo n) (ye 0) (yb (ye 1) (yg))) (yz 4)) (ybf (xFz (yfB yeA (yb (ye 2) (yb (ye 3) (yb (ye 4) (yg)))))))))))
noncomputable def ybV:Nat->Fn
 | 0=>fun _ _=>none
 | n+1=>ycr 4 (yv (ybM (yl 10 "side_taken" (yo n) (ye 0) (yb (ye 1) (yg))) (yz 2)) (yv (ydN (yl 10 "pass_over" yp (ye 0) (yb (xC (.str "or")) (yg)))) (yv (ybM (yl 10 "side_taken" (yo n) (ye 0) (yb (ye 1) (yg))) (yz 3)) (ybf (xFz (yfB ydg (yb (ye 2) (yb (ye 3) (yg)))))))))
noncomputable def ycu:Nat->Fn
 | 0=>fun _ _=>none
 | n+1=>ycr 6 (yv (ybM (yl 10 "side_taken" (yo n) (ye 0) (yb (ye 1) (yg))) (yz 2)) (yv (ydN (yl 10 "pass_over" yp (ye 0) (yb (xC (.str "on")) (yg)))) (yv (ybM (yl 10 "name_taken" ybe (ye 0) (yg)) (yz 3)) (yv (ybM (yl 10 "slot_taken" yi (ye 0) (yg)) (yz 4)) (yv (ybM (yl 10 "side_taken" (yo n) (ye 0) (yb (ye 1) (yg))) (yz 5)) (ybf (xFz (yfB yei (yb (ye 2) (yb (ye 3) (yb (ye 4) (yb (ye 5) (yg)))))))))))))
end
def ydU:Fn:=ycr 3 (yv (ybM (yfZ (yfB ycE (yb (yN yeq (yb (ye 0) (yg))) (yg)))) (yz 1)) (yv (ybM (yl 10 "list_taken" (yJ 45) (ye 1) (yb (xC (.int 0)) (yg))) (yz 2)) (yv (ycT (yy (xOp (ypm) (yl 10 "ahead" yV (ye 1) (yg)) (xC .non))) (yeV) (ybi)) (yv (ycT (yy (xOp (oGt) (xOp yfR (yN (ybA 45) (yb (ye 2) (yg))) (xC (.int 1))) (xC (.int 80)))) (yeV) (ybi)) (ybf (ye 2))))))
def ych:Fn:=ycr 1 (yv (ycT (ygz (yy (ydF (oLe) (oLe) (xC (.int 1)) (xCB (ybD) (yb (ye 0) (yg))) (xC (.int 16))))) (yeV) (ybi)) (ycT (ygz (yy (xCB (yqF) (yb (xFz (ycw (ye 0) [] (yN yde (yb (ye 0) (yg))))) (yg))))) (yeV) (ybi)))
def ybk:Fn:=ycr 1 (ybf (xFz (ycw (ye 0) [] (yN ydr (yb (yN ydU (yb (ye 0) (yg))) (yg))))))
def yO:Fn:=ycr 1 (yv (ycT (ygz (yy (ydF (oLe) (oLe) (xC (.int 1)) (xCB (ybD) (yb (ye 0) (yg))) (xC (.int 8))))) (yeV) (ybi)) (yv (ycT (yy (xCB (yvz) (yb (xFz (ycw (ye 0) [] (xOp (oGt) (xCB (ybD) (yb (ye 0) (yg))) (xC (.int 6))))) (yg)))) (yeV) (ybi)) (ybf (xFz (ycw (ye 0) [] (yN ybk (yb (ye 0) (yg))))))))
def ybb:Fn:=ycr 3 (yv (ydN (yN ych (yb (ye 1) (yg)))) (yv (yeO [15] "numbers" (ye 0) (yfZ (ygZ (ybo) (yb (ye 1) (yg))))) (yv (yeO [15] "marks" (ye 0) (yfZ (yjL yry (xFz (ydn (yb (xC (.int 0)) (yg)))) (xCB (ybD) (yb (ye 1) (yg)))))) (yv (yeO [15] "crew" (ye 0) (yfZ (yha (xIL (yN yO (yb (ye 2) (yg)))) [1] (ygi 14 ybw (yb (ye 0) (yb (xCB (ybD) (yb (ye 1) (yg))) (yg))))))) (yeO [15] "entries" (ye 0) (yfZ (ydn (yg))))))))
def ydV:Fn:=ycr 1 (ybf (xFz (ygZ (ybo) (yb (ydp [15] "numbers" (ye 0)) (yg)))))
def ydB:Fn:=ycr 1 (ybf (xFz (ygZ (ybo) (yb (ydp [15] "marks" (ye 0)) (yg)))))
def ydW:Fn:=ycr 1 (ybf (xCB (ybD) (yb (ydp [15] "crew" (ye 0)) (yg))))
def ybX:Fn:=ycr 2 (yv (ycT (xOr (ygz (yy (yN yep (yb (ye 1) (yg))))) (ygz (yy (ydF (oLe) (oLt) (xC (.int 0)) (ye 1) (xCB (ybD) (yb (ydp [15] "crew" (ye 0)) (yg))))))) (yeV) (ybi)) (ybf (xOp (ydw) (ydp [15] "crew" (ye 0)) (ye 1))))
def ydX:Fn:=ycr 2 (ybf (yl 14 "state" ydT (yl 15 "hand_at" ybX (ye 0) (yb (ye 1) (yg))) (yg)))
def ydY:Fn:=ycr 2 (ybf (ydp [14] "nth" (yl 15 "hand_at" ybX (ye 0) (yb (ye 1) (yg)))))
def ydZ:Fn:=ycr 2 (ybf (xFz (ygZ (ybo) (yb (ydp [12] "held" (ydp [14] "run" (yl 15 "hand_at" ybX (ye 0) (yb (ye 1) (yg))))) (yg)))))
def yfu:Fn:=ycr 2 (ybf (yl 11 "saw" ygl (ydp [12] "log" (ydp [14] "run" (yl 15 "hand_at" ybX (ye 0) (yb (ye 1) (yg))))) (yg)))
def ydm:Fn:=ycr 1 (ybf (xFz (ycw (ydp [15] "entries" (ye 0)) [] (ygT (yb (xOp (yth) (ye 0) (xC (.int 0))) (yb (xOp (yth) (ye 0) (xC (.int 1))) (yb (xOp (yth) (ye 0) (xC (.int 2))) (yb (xFz (ygZ (ybo) (yb (xOp (yth) (ye 0) (xC (.int 3))) (yg)))) (yb (xFz (ygZ (ybo) (yb (xOp (yth) (ye 0) (xC (.int 4))) (yg)))) (yb (xFz (ygZ (ybo) (yb (xOp (yth) (ye 0) (xC (.int 5))) (yg)))) (yg)))))))))))
def ybm:FnR:=yiw 2 (ypK (ybM (yl 10 "ahead" yV (ye 0) (yg)) (yz 1)) (rIf (yy (xOp (yqE) (ye 1) (xC .non))) (ydG "NoDeed" (xC (.str "the text ends too soon"))) (rNo)))
def yK:FnR:=yiw 3 (yel (ybM (yl 10 "taken" yQ (ye 0) (yg)) (yz 2)) (yY 10 "taken" ybm (ye 0) (yg)) (rIf (yy (xOp (oNe) (ye 2) (ye 1))) (ydG "NoDeed" (xOp yie (xOp yie (xOp yie (xC (.str "wanted is ")) (ye 1)) (xC (.str ", not "))) (ye 2))) (rNo)))
def yq:FnR:=yiw 2 (yel (ybM (yl 10 "taken" yQ (ye 0) (yg)) (yz 1)) (yY 10 "taken" ybm (ye 0) (yg)) (rIf (ygz (yy (yN yfd (yb (ye 1) (yg))))) (ydG "NoDeed" (xOp yie (xC (.str "no slot: ")) (ye 1))) (rNo)))
def ybx:FnR:=yiw 2 (yel (ybM (yl 10 "taken" yQ (ye 0) (yg)) (yz 1)) (yY 10 "taken" ybm (ye 0) (yg)) (rIf (ygz (yy (yN yfe (yb (ye 1) (yg))))) (ydG "NoDeed" (xOp yie (xC (.str "no fault's name: ")) (ye 1))) (rNo)))
def ybH:FnR:=yiw 3 (yel (ybM (yl 10 "taken" yQ (ye 0) (yg)) (yz 1)) (yY 10 "taken" ybm (ye 0) (yg)) (ypK (ybM (yN ycO (yb (ye 1) (yg))) (yz 2)) (rIf (yy (xOp (yqE) (ye 2) (xC .non))) (ydG "NoDeed" (xOp yie (xC (.str "no number: ")) (ye 1))) (rNo))))
def ybI:FnR:=yiw 5 (yel (ybM (yl 10 "slot_taken" yi (ye 0) (yg)) (yz 2)) (yY 10 "slot_taken" yq (ye 0) (yg)) (yel (ybM (yl 10 "slot_taken" yi (ye 0) (yg)) (yz 3)) (yY 10 "slot_taken" yq (ye 0) (yg)) (yY 10 "slot_taken" yq (ye 0) (yg))))
def ybO:FnR:=yiw 5 (rIf (yy (xOp (oEq) (ye 1) (xC (.str "let")))) (yel (ybM (yl 10 "slot_taken" yi (ye 0) (yg)) (yz 2)) (yY 10 "slot_taken" yq (ye 0) (yg)) (ynS (ye 2) (yY 10 "number_taken" ybH (ye 0) (yg)))) (rIf (yy (xOp (oEq) (ye 1) (xC (.str "take")))) (yel (ybM (yl 10 "slot_taken" yi (ye 0) (yg)) (yz 2)) (yY 10 "slot_taken" yq (ye 0) (yg)) (ynS (ye 2) (yY 10 "slot_taken" yq (ye 0) (yg)))) (rIf (yy (xOp (oEq) (ye 1) (xC (.str "put")))) (yel (ybM (yl 10 "slot_taken" yi (ye 0) (yg)) (yz 3)) (yY 10 "slot_taken" yq (ye 0) (yg)) (ynS (ye 3) (yY 10 "slot_taken" yq (ye 0) (yg)))) (rIf (yy (xOp (oEq) (ye 1) (xC (.str "throw")))) (yel (ybM (yl 10 "name_taken" ybe (ye 0) (yg)) (yz 4)) (yY 10 "name_taken" ybx (ye 0) (yg)) (ynS (ye 4) (yY 10 "slot_taken" yq (ye 0) (yg)))) (rIf (yy (xOp (oEq) (ye 1) (xC (.str "wait")))) (rNo) (rIf (yy (yN yfc (yb (ye 1) (yg)))) (yY 10 "reckon_taken" ybI (ye 0) (yb (ye 1) (yg))) (ydG "NoDeed" (xOp yie (xC (.str "no part begins so: ")) (ye 1)))))))))
mutual
noncomputable def yP:Nat->FnR
 | 0=>fun _ _=>none
 | n+1=>yiw 3 (rIf (xOr (yy (xOp (yqE) (yl 10 "ahead" yV (ye 0) (yg)) (xC .non))) (yy (xOp (oEq) (yl 10 "ahead" yV (ye 0) (yg)) (xC (.str ")"))))) (rNo) (yel (ylU (ydn (yb (yl 10 "part_taken" (yw 45) (ye 0) (yb (ye 1) (yg))) (yg))) 2) (yY 10 "part_taken" (yD n) (ye 0) (yb (ye 1) (yg))) (ynd 100 (yeP) (yv (ydN (yl 10 "pass_over" yp (ye 0) (yb (xC (.str ";")) (yg)))) (yiZ 2 (yl 10 "part_taken" (yw 45) (ye 0) (yb (ye 1) (yg))))) (yel (ydN (yl 10 "pass_over" yp (ye 0) (yb (xC (.str ";")) (yg)))) (yY 10 "pass_over" yK (ye 0) (yb (xC (.str ";")) (yg))) (ynT 2 (yY 10 "part_taken" (yD n) (ye 0) (yb (ye 1) (yg))))))))
noncomputable def yt:Nat->FnR
 | 0=>fun _ _=>none
 | n+1=>yiw 3 (yel (ydN (yl 10 "pass_over" yp (ye 0) (yb (xC (.str "(")) (yg)))) (yY 10 "pass_over" yK (ye 0) (yb (xC (.str "(")) (yg))) (yel (ybM (yl 10 "list_taken" (yJ 45) (ye 0) (yb (ye 1) (yg))) (yz 2)) (yY 10 "list_taken" (yP n) (ye 0) (yb (ye 1) (yg))) (yY 10 "pass_over" yK (ye 0) (yb (xC (.str ")")) (yg)))))
noncomputable def yD:Nat->FnR
 | 0=>fun _ _=>none
 | n+1=>yiw 3 (rIf (yy (xOp (oGt) (ye 1) (xC (.int 8)))) (ydG "NoDeed" (xC (.str "a part lies too deep"))) (yel (ybM (yl 10 "taken" yQ (ye 0) (yg)) (yz 2)) (yY 10 "taken" ybm (ye 0) (yg)) (rIf (yy (xOp (oEq) (ye 2) (xC (.str "if")))) (yY 10 "if_taken" (yci n) (ye 0) (yb (xOp yfR (ye 1) (xC (.int 1))) (yg))) (rIf (yy (xOp (oEq) (ye 2) (xC (.str "either")))) (yY 10 "either_taken" (ybJ n) (ye 0) (yb (xOp yfR (ye 1) (xC (.int 1))) (yg))) (rIf (yy (xOp (oEq) (ye 2) (xC (.str "try")))) (yY 10 "try_taken" (ycb n) (ye 0) (yb (xOp yfR (ye 1) (xC (.int 1))) (yg))) (yY 10 "plain_taken" ybO (ye 0) (yb (ye 2) (yg))))))))
noncomputable def yci:Nat->FnR
 | 0=>fun _ _=>none
 | n+1=>yiw 5 (yel (ybM (yl 10 "slot_taken" yi (ye 0) (yg)) (yz 2)) (yY 10 "slot_taken" yq (ye 0) (yg)) (yel (ybM (yl 10 "side_taken" (yo 45) (ye 0) (yb (ye 1) (yg))) (yz 3)) (yY 10 "side_taken" (yt n) (ye 0) (yb (ye 1) (yg))) (yel (ydN (yl 10 "pass_over" yp (ye 0) (yb (xC (.str "else")) (yg)))) (yY 10 "pass_over" yK (ye 0) (yb (xC (.str "else")) (yg))) (yY 10 "side_taken" (yt n) (ye 0) (yb (ye 1) (yg))))))
noncomputable def ybJ:Nat->FnR
 | 0=>fun _ _=>none
 | n+1=>yiw 4 (yel (ybM (yl 10 "side_taken" (yo 45) (ye 0) (yb (ye 1) (yg))) (yz 2)) (yY 10 "side_taken" (yt n) (ye 0) (yb (ye 1) (yg))) (yel (ydN (yl 10 "pass_over" yp (ye 0) (yb (xC (.str "or")) (yg)))) (yY 10 "pass_over" yK (ye 0) (yb (xC (.str "or")) (yg))) (yY 10 "side_taken" (yt n) (ye 0) (yb (ye 1) (yg)))))
noncomputable def ycb:Nat->FnR
 | 0=>fun _ _=>none
 | n+1=>yiw 6 (yel (ybM (yl 10 "side_taken" (yo 45) (ye 0) (yb (ye 1) (yg))) (yz 2)) (yY 10 "side_taken" (yt n) (ye 0) (yb (ye 1) (yg))) (yel (ydN (yl 10 "pass_over" yp (ye 0) (yb (xC (.str "on")) (yg)))) (yY 10 "pass_over" yK (ye 0) (yb (xC (.str "on")) (yg))) (yel (ybM (yl 10 "name_taken" ybe (ye 0) (yg)) (yz 3)) (yY 10 "name_taken" ybx (ye 0) (yg)) (yel (ybM (yl 10 "slot_taken" yi (ye 0) (yg)) (yz 4)) (yY 10 "slot_taken" yq (ye 0) (yg)) (yY 10 "side_taken" (yt n) (ye 0) (yb (ye 1) (yg)))))))
end
def ydC:FnR:=yiw 3 (ypK (ybM (yfZ (yfB ycE (yb (yN yeq (yb (ye 0) (yg))) (yg)))) (yz 1)) (yel (ybM (yl 10 "list_taken" (yJ 45) (ye 1) (yb (xC (.int 0)) (yg))) (yz 2)) (yY 10 "list_taken" (yP 45) (ye 1) (yb (xC (.int 0)) (yg))) (rIf (yy (xOp (ypm) (yl 10 "ahead" yV (ye 1) (yg)) (xC .non))) (ydG "NoDeed" (xC (.str "words stand behind the deed's end"))) (rIf (yy (xOp (oGt) (xOp yfR (yN (ybA 45) (yb (ye 2) (yg))) (xC (.int 1))) (xC (.int 80)))) (ydG "NoDeed" (xC (.str "the deed has too many rows"))) (rNo)))))
def ycY:FnR:=yiw 1 (rIf (ygz (yy (ydF (oLe) (oLe) (xC (.int 1)) (xCB (ybD) (yb (ye 0) (yg))) (xC (.int 16))))) (ydG "NoBoxes" (xC (.str "a hall has one to sixteen boxes"))) (rIf (ygz (yy (xCB (yqF) (yb (xFz (ycw (ye 0) [] (yN yde (yb (ye 0) (yg))))) (yg))))) (ydG "NoBoxes" (xC (.str "a box has a number from 0 to below WIDE"))) (rNo)))
def yce:FnR:=yiw 1 (ykG (ye 0) [] (yN ydr (yb (yN ydU (yb (ye 0) (yg))) (yg))) (yji ydC (yb (ye 0) (yg))))
def yW:FnR:=yiw 1 (rIf (ygz (yy (ydF (oLe) (oLe) (xC (.int 1)) (xCB (ybD) (yb (ye 0) (yg))) (xC (.int 8))))) (ydG "NoHands" (xC (.str "a hall has one to eight hands"))) (rIf (yy (xCB (yvz) (yb (xFz (ycw (ye 0) [] (xOp (oGt) (xCB (ybD) (yb (ye 0) (yg))) (xC (.int 6))))) (yg)))) (ydG "NoHands" (xC (.str "a hand has at most six deeds"))) (ykG (ye 0) [] (yN ybk (yb (ye 0) (yg))) (yji yce (yb (ye 0) (yg))))))
def ybp:FnR:=yiw 3 (yel (ydN (yN ych (yb (ye 1) (yg)))) (yji ycY (yb (ye 1) (yg))) (ypK (yeO [15] "numbers" (ye 0) (yfZ (ygZ (ybo) (yb (ye 1) (yg))))) (ypK (yeO [15] "marks" (ye 0) (yfZ (yjL yry (xFz (ydn (yb (xC (.int 0)) (yg)))) (xCB (ybD) (yb (ye 1) (yg)))))) (yji yW (yb (ye 2) (yg))))))
def yL:Fn:=ycr 2 (yv (ycT (yy (xOp (oLt) (ye 1) (xCB (ybD) (yb (ye 0) (yg))))) (ybf (xOp (ydw) (ye 0) (ye 1))) (ybi)) (ybf (xC (.int 0))))
def ycn:Fn:=ycr 2 (yv (ybM (xOp oDiv (ye 0) (xC (.int 3))) (yz 1)) (yv (ycT (yy (xOp (oEq) (xOp oMod (ye 0) (xC (.int 3))) (xC (.int 1)))) (ybf (xOp oMod (ye 1) (xC (.int 5)))) (ybi)) (yv (ycT (yy (xOp (oEq) (xOp oMod (ye 0) (xC (.int 3))) (xC (.int 2)))) (ybf (xOp ywA (xOp ywA (xOp yvx (xC (.int 2)) (xC (.int 64))) (xC (.int 1))) (xOp oMod (ye 1) (xC (.int 5))))) (ybi)) (ybf (xOp oMod (ye 1) (xOp yvx (xC (.int 2)) (xC (.int 64))))))))
def ybY:Fn:=ycr 2 (yv (ybM (xFz (ydn (yb (xC (.str "")) (yb (xC (.str "let a 7")) (yb (xC (.str "take a b ; plus a a b ; put b a")) (yb (xC (.str "wait")) (yb (xC (.str "throw low c")) (yg)))))))) (yz 1)) (yv (ybM (xFz (yjL yol (ye 1) (xFz (ydn (yb (xC (.str "either ( wait ) or ( put a b )")) (yb (xC (.str "try ( throw low a ) on low b ( )")) (yg))))))) (yz 1)) (yv (ybM (xFz (yjL yol (ye 1) (xFz (ydn (yb (xC (.str "if h ( let g 18446744073709551615 ) else ( wait )")) (yg)))))) (yz 1)) (ybf (xOp (ydw) (ye 1) (xOp oMod (ye 0) (xC (.int 8))))))))
def ybZ:Fn:=ycr 2 (yv (ybM (xFz (ydn (yb (xC (.str "let")) (yb (xC (.str "let a")) (yb (xC (.str "let i 3")) (yb (xC (.str "take a")) (yb (xC (.str "hold")) (yb (xC (.str "wait wait")) (yb (xC (.str "wait ;")) (yb (xC (.str " wait")) (yb (xC (.str "throw Low a")) (yb (xC (.str "let a 01")) (yg))))))))))))) (yz 1)) (yv (ybM (xFz (yjL yol (ye 1) (xFz (ydn (yb (xC (.str "let a 18446744073709551616")) (yb (xC (.str "if a ( wait )")) (yb (xC (.str "either ( wait ) or wait")) (yb (xC (.str "put a 3")) (yb (xC (.str "; wait")) (yg)))))))))) (yz 1)) (ybf (xOp (ydw) (ye 1) (xOp oMod (ye 0) (xC (.int 15)))))))
def yea:Fn:=ycr 5 (yv (ybM (xOp (ydw) (xFz (ydn (yb (xOp yfR (xC (.int 1)) (xOp oMod (xOp oDiv (yN yL (yb (ye 0) (yb (xC (.int 0)) (yg)))) (xC (.int 4))) (xC (.int 16)))) (yb (xOp oMod (xOp oDiv (yN yL (yb (ye 0) (yb (xC (.int 0)) (yg)))) (xC (.int 4))) (xC (.int 19))) (yg))))) (xOp oDiv (xOp oMod (yN yL (yb (ye 0) (yb (xC (.int 0)) (yg)))) (xC (.int 4))) (xC (.int 3)))) (yz 1)) (yv (ybM (yfZ (yha (yjb (yb (ye 1) (yg))) [0] (yN ycn (yb (yN yL (yb (ye 1) (yb (xOp yfR (xC (.int 4)) (ye 0)) (yg)))) (yg))))) (yz 2)) (yv (ybM (xOp oMod (xOp ynO (yN yL (yb (ye 0) (yb (xC (.int 1)) (yg)))) (xC (.int 48271))) (xC (.int 2147483647))) (yz 3)) (yv (ycT (yvw (yy (xOp (oGt) (ye 1) (xC (.int 0)))) (yy (xOp (oEq) (xOp oMod (ye 3) (xC (.int 5))) (xC (.int 0))))) (yv (ybM (xFz (ydn (yb (xUn yym (xC (.int 1))) (yb (xOp yvx (xC (.int 2)) (xC (.int 64))) (yb (xOp ywA (xUn yym (xC (.int 1))) (ye 3)) (yb (xOp yfR (xOp yvx (xC (.int 2)) (xC (.int 64))) (xOp ynO (ye 3) (ye 3))) (yb (xC (.bl true)) (yb (xC (.bl false)) (yb (xC .non) (yb (xC (.str "7")) (yb (ygT (yb (xC (.int 7)) (yg))) (yg)))))))))))) (yz 4)) (ymb (ye 2) (xOp oMod (xOp oDiv (ye 3) (xC (.int 5))) (ye 1)) (xOp (ydw) (ye 4) (xOp oMod (xOp oDiv (ye 3) (xC (.int 100))) (xC (.int 9)))))) (ybi)) (ybf (ye 2))))))
def hnB:XS:=(yv (ybM (xOp oMod (xOp ynO (yN yL (yb (ye 0) (yb (xOp yfR (xC (.int 5)) (xOp ynO (xC (.int 3)) (ye 4))) (yg)))) (xC (.int 16807))) (xC (.int 2147483587))) (yz 5)) (yv (ybM (xOp (ydw) (xFz (ydn (yb (xOp oMod (xOp oDiv (ye 5) (xC (.int 6))) (xC (.int 7))) (yb (xOp oMod (xOp oDiv (ye 5) (xC (.int 6))) (xC (.int 9))) (yg))))) (xOp oDiv (xOp oMod (ye 5) (xC (.int 6))) (xC (.int 5)))) (yz 6)) (yiZ 3 (yfZ (yha (yjb (yb (ye 6) (yg))) [4,5] (yN ybY (yb (xOp yfR (xOp yfR (xOp oDiv (ye 2) (xC (.int 60))) (xOp ynO (ye 0) (ye 0))) (xOp ynO (ye 0) (ye 1))) (yg))))))))
def yeb:Fn:=ycr 9 (yv (ybM (xOp oMod (xOp ynO (yN yL (yb (ye 0) (yb (xC (.int 2)) (yg)))) (xC (.int 69621))) (xC (.int 2147483629))) (yz 1)) (yv (ybM (xOp (ydw) (xFz (ydn (yb (xOp yfR (xC (.int 1)) (xOp oMod (xOp oDiv (ye 1) (xC (.int 4))) (xC (.int 8)))) (yb (xOp oMod (xOp oDiv (ye 1) (xC (.int 4))) (xC (.int 11))) (yg))))) (xOp oDiv (xOp oMod (ye 1) (xC (.int 4))) (xC (.int 3)))) (yz 2)) (yv (ylU (ydn (yg)) 3) (yv (yoj (yjb (yb (ye 2) (yg))) (yz 4) hnB) (yv (ybM (xOp oMod (xOp ynO (yN yL (yb (ye 0) (yb (xC (.int 3)) (yg)))) (xC (.int 48271))) (xC (.int 2147483647))) (yz 7)) (yv (ycT (yvw (yy (xOp (oGt) (ye 2) (xC (.int 0)))) (yy (xOp (oEq) (xOp oMod (ye 7) (xC (.int 4))) (xC (.int 0))))) (yuf 3 (yv (ybM (xOp (ydw) (ye 3) (xOp oMod (xOp oDiv (ye 7) (xC (.int 4))) (ye 2))) (yz 8)) (ycT (yy (xOp (oGt) (xCB (ybD) (yb (ye 8) (yg))) (xC (.int 0)))) (ymb (ye 8) (xOp oMod (xOp oDiv (ye 7) (xC (.int 40))) (xCB (ybD) (yb (ye 8) (yg)))) (yN ybZ (yb (xOp oDiv (ye 7) (xC (.int 400))) (yg)))) (ybi)))) (ybi)) (yuf 3 (ybf (ye 3)))))))))
def yco:Fn:=ycr 1 (ybf (yiW (xCB (ygE ycN) (yb (ye 0) (yb (xC (.ty "int")) (yg)))) (yiW (ynL (xCB (ygE ycN) (yb (ye 0) (yb (xC (.ty "bool")) (yg))))) (ydF (oLe) (oLt) (xC (.int 0)) (ye 0) (xOp yvx (xC (.int 2)) (xC (.int 64)))))))
def duI:XS:=(ycT (yy (xOp (yxe false) (ye 4) (ye 2))) (ybf (xC (.str "NoDeed"))) (ybi))
def duO:XS:=(yrT false (ye 3) (yz 4) duI)
def yfv:Fn:=ycr 5 (yv (ycT (xOr (ygz (yy (ydF (oLe) (oLe) (xC (.int 1)) (xCB (ybD) (yb (ye 0) (yg))) (xC (.int 16))))) (ygz (yy (xCB (yqF) (yb (xFz (ycw (ye 0) [] (yN yco (yb (ye 0) (yg))))) (yg)))))) (ybf (xC (.str "NoBoxes"))) (ybi)) (yv (ycT (xOr (ygz (yy (ydF (oLe) (oLe) (xC (.int 1)) (xCB (ybD) (yb (ye 1) (yg))) (xC (.int 8))))) (yy (xOp (oGt) (xCB (ybD) (yb (xFz (ykz (xIL (ye 1)) [] (yy (xOp (oGt) (xCB (ybD) (yb (ye 0) (yg))) (xC (.int 6)))) (ye 0))) (yg))) (xC (.int 0))))) (ybf (xC (.str "NoHands"))) (ybi)) (yv (ybM (xFz (yha (yjb (yb (xC (.int 15)) (yg))) [] (yN ybZ (yb (ye 0) (yg))))) (yz 2)) (yv (yoj (xIL (ye 1)) (yz 3) duO) (ybf (xC (.str "")))))))
def yfg:Fn:=ycr 2 (yv (ybM (xFz (ydn (yb (ygT (yb (xC (.str "NoBoxes")) (yb (xCB (ykE ycN yva yvb) (yb (ye 0) (yb (xC (.xcl "NoBoxes")) (yg)))) (yg)))) (yb (ygT (yb (xC (.str "NoHands")) (yb (xCB (ykE ycN yva yvb) (yb (ye 0) (yb (xC (.xcl "NoHands")) (yg)))) (yg)))) (yb (ygT (yb (xC (.str "NoDeed")) (yb (xCB (ykE ycN yva yvb) (yb (ye 0) (yb (xC (.xcl "NoDeed")) (yg)))) (yg)))) (yg)))))) (yz 1)) (yv (ybM (xFz (yjL yol (ye 1) (xFz (ydn (yb (ygT (yb (xC (.str "NoHand")) (yb (xCB (ykE ycN yva yvb) (yb (ye 0) (yb (xC (.xcl "NoHand")) (yg)))) (yg)))) (yb (ygT (yb (xC (.str "NoRow")) (yb (xCB (ykE ycN yva yvb) (yb (ye 0) (yb (xC (.xcl "NoRow")) (yg)))) (yg)))) (yg))))))) (yz 1)) (yv (ybM (xFz (yjL yol (ye 1) (xFz (ydn (yb (ygT (yb (xC (.str "plain")) (yb (ynL (xCB (ykE ycN yva yvb) (yb (ye 0) (yb (xC (.ty "ValueError")) (yg))))) (yg)))) (yg)))))) (yz 1)) (ybf (xFz (ypL (xIL (ye 1)) [] (yy (ye 1)) (ye 0)))))))
def ycy:Fn:=ycr 5 (yv (ybM (xC .non) (yz 2)) (yv (ybM (xC .non) (yz 3)) (yv (yjj ["NoBoxes","NoHands","NoDeed"] 4 (yuD 15 ybp (yb (ye 0) (yb (ye 1) (yg)))) (ybM (ygi 15 ybb (yb (ye 0) (yb (ye 1) (yg)))) (yz 3)) (ybM (ye 4) (yz 2))) (yv (ycT (yy (xOp (yqE) (ye 2) (xC .non))) (ybf (ygT (yb (xFz (ydn (yg))) (yb (ye 3) (yg))))) (ybi)) (ybf (ygT (yb (yN yfg (yb (ye 2) (yg))) (yb (xC .non) (yg)))))))))
def nmB:XS:=(ycT (xOr (ygz (yy (xCB (ygE ycN) (yb (xOp (ydw) (ye 0) (ye 2)) (yb (xC (.ty "int")) (yg)))))) (xOr (yy (xCB (ygE ycN) (yb (xOp (ydw) (ye 0) (ye 2)) (yb (xC (.ty "bool")) (yg))))) (yy (xOp (oNe) (xOp (ydw) (ye 0) (ye 2)) (xOp (ydw) (ye 1) (ye 2)))))) (ybf (xC (.bl false))) (ybi))
def yX:Fn:=ycr 3 (yv (ycT (xOr (ygz (yy (xCB (ygE ycN) (yb (ye 0) (yb (xC (.ty "list")) (yg)))))) (yy (xOp (oNe) (xCB (ybD) (yb (ye 0) (yg))) (xCB (ybD) (yb (ye 1) (yg)))))) (ybf (xC (.bl false))) (ybi)) (yv (yoj (yjb (yb (xCB (ybD) (yb (ye 1) (yg))) (yg))) (yz 2) nmB) (ybf (xC (.bl true)))))
def stB:XS:=(yv (ybM (xC (.str "awake")) (yz 4)) (yv (ycT (yy (xOp (oEq) (xCB (ybD) (yb (xOp (ydw) (ye 2) (ye 3)) (yg))) (xC (.int 0)))) (ybM (xC (.str "ended")) (yz 4)) (ybi)) (yv (ycT (xOr (yy (xOp (oNe) (yl 15 "state" ydX (ye 0) (yb (ye 3) (yg))) (ye 4))) (ygz (yy (yN yX (yb (xFz (ydn (yb (yl 15 "which" ydY (ye 0) (yb (ye 3) (yg))) (yg)))) (yb (xFz (ydn (yb (xC (.int 0)) (yg)))) (yg))))))) (ybf (xC (.bl false))) (ybi)) (ycT (xOr (ygz (yy (yN yX (yb (yl 15 "slots" ydZ (ye 0) (yb (ye 3) (yg))) (yb (xFz (yjL yry (xFz (ydn (yb (xC (.int 0)) (yg)))) (xC (.int 8)))) (yg)))))) (yy (xOp (ymX) (yl 15 "saw" yfu (ye 0) (yb (ye 3) (yg))) (xFz (ydn (yg)))))) (ybf (xC (.bl false))) (ybi)))))
def ycG:Fn:=ycr 5 (yv (ycT (xOr (ygz (yy (yN yX (yb (yl 15 "boxes" ydV (ye 0) (yg)) (yb (ye 1) (yg)))))) (ygz (yy (yN yX (yb (yl 15 "stamps" ydB (ye 0) (yg)) (yb (xFz (yjL yry (xFz (ydn (yb (xC (.int 0)) (yg)))) (xCB (ybD) (yb (ye 1) (yg))))) (yg))))))) (ybf (xC (.bl false))) (ybi)) (yv (ycT (xOr (ygz (yy (yN yX (yb (xFz (ydn (yb (yl 15 "hands" ydW (ye 0) (yg)) (yg)))) (yb (xFz (ydn (yb (xCB (ybD) (yb (ye 2) (yg))) (yg)))) (yg)))))) (yy (xOp (ymX) (yl 15 "journal" ydm (ye 0) (yg)) (xFz (ydn (yg)))))) (ybf (xC (.bl false))) (ybi)) (yv (yoj (yjb (yb (xCB (ybD) (yb (ye 2) (yg))) (yg))) (yz 3) stB) (ybf (xC (.bl true))))))
def lwH:XE:=(xFz (ydn (yb (yfZ (ygZ (ybo) (yb (ye 1) (yg)))) (yb (yfZ (yha (xIL (ye 2)) [] (yfZ (ygZ (ybo) (yb (ye 0) (yg)))))) (yg)))))
def lwT:XS:=(yv (ydN (xBM yks (yma) (xOp (ydw) (ye 3) (xC (.int 0))) (yb (xC (.int 5)) (yg)))) (yv (ymb (xOp (ydw) (ye 3) (xC (.int 0))) (xC (.int 0)) (xC (.int 77))) (yv (ydN (xBM yks (yma) (xOp (ydw) (xOp (ydw) (ye 3) (xC (.int 1))) (xC (.int 0))) (yb (xC (.str "wait")) (yg)))) (yv (ydN (xBM yks (yma) (xOp (ydw) (ye 3) (xC (.int 1))) (yb (xFz (ydn (yg))) (yg)))) (ybf (yN ycG (yb (ye 6) (yb (ye 1) (yb (ye 2) (yg))))))))))
def ysj:Fn:=ycr 7 (yv (ybM (yN yea (yb (ye 0) (yg))) (yz 1)) (yv (ybM (yN yeb (yb (ye 0) (yg))) (yz 2)) (yv (ybM lwH (yz 3)) (yv (ybM (yN yfv (yb (ye 1) (yb (ye 2) (yg)))) (yz 4)) (yv (ybM (yN ycy (yb (xOp (ydw) (ye 3) (xC (.int 0))) (yb (xOp (ydw) (ye 3) (xC (.int 1))) (yg)))) (ywy 2 (ypc (yz 5) (ypc (yz 6) (yyl))))) (yv (ycT (xOr (yy (xOp (ymX) (xOp (ydw) (ye 3) (xC (.int 0))) (ye 1))) (yy (xOp (ymX) (xOp (ydw) (ye 3) (xC (.int 1))) (ye 2)))) (ybf (xC (.bl false))) (ybi)) (yv (ycT (yy (xOp (oNe) (ye 4) (xC (.str "")))) (ybf (xOp (yxh) (ye 5) (xFz (ydn (yb (ye 4) (yg)))))) (ybi)) (yv (ycT (xOr (yy (xOp (ymX) (ye 5) (xFz (ydn (yg))))) (ygz (yy (yN ycG (yb (ye 6) (yb (ye 1) (yb (ye 2) (yg)))))))) (ybf (xC (.bl false))) (ybi)) lwT))))))))
def At (h:AH) (m:List (Nat×Nd)):Prop:=(m.map (·.1)).Nodup/\∀ p∈m,h[p.1]?=some p.2
section
variable {h:AH}{m a b:List (Nat×Nd)}
theorem At.get (A:At h m) (i:Nat) {n:Nat}{d:Nd}(e:m[i]?=some (n,d)):h[n]?=some d:=A.2 _ (mem_of_getElem? e)
theorem At.lt (A:At h m) {p:Nat×Nd}(hp:p∈m):p.1<h.length:=(List.getElem?_eq_some_iff.mp (A.2 p hp)).1
theorem At.upd {n:Nat}{d:Nd}(d':Nd) (A:At h (a++(n,d)::b)):At (h.set n d') (a++(n,d')::b):=by
 have hn:n<h.length:=A.lt (p:=(n,d)) (by simp)
 refine ⟨by have:=A.1;simpa using this,fun p hp=>?_⟩
 by_cases q:p.1=n
 .have:p=(n,d'):=by
   have nd:=A.1
   rw [map_append,map_cons,List.nodup_append] at nd
   rcases List.mem_append.mp hp with z|z
   .exact absurd q (nd.2.2 _ (List.mem_map_of_mem z) _ mem_cons_self)
   .rcases mem_cons.mp z with z|z
    .exact z
    .exact absurd (show n∈b.map (·.1) by rw [<- q];exact List.mem_map_of_mem z) (List.nodup_cons.mp nd.2.1).1
  rw [this,getElem?_set_self hn]
 .rw [getElem?_set_ne (fun z=>q z.symm)]
  refine A.2 p ?_
  rcases List.mem_append.mp hp with z|z
  .exact mem_append_left _ z
  .rcases mem_cons.mp z with z|z
   .exact absurd (by rw [z]) q
   .exact mem_append_right _ (mem_cons_of_mem _ z)
theorem At.new (d:Nd) (A:At h (a++b)):At (h++[d]) (a++(h.length,d)::b):=by
 have lt:∀ p∈a++b,p.1<h.length:=fun p hp=>A.lt hp
 refine ⟨?_,fun p hp=>?_⟩
 .have nd:=A.1
  rw [map_append,List.nodup_append] at nd
  rw [map_append,map_cons,List.nodup_append]
  refine ⟨nd.1,List.nodup_cons.mpr ⟨fun z=>?_,nd.2.1⟩,fun x hx y hy=>?_⟩
  .obtain ⟨p,hp,e⟩:=List.mem_map.mp z
   have:=lt p (mem_append_right _ hp)
   omega
  .rcases mem_cons.mp hy with rfl|hy
   .obtain ⟨p,hp,e⟩:=List.mem_map.mp hx
    have:=lt p (mem_append_left _ hp)
    omega
   .exact nd.2.2 x hx y hy
 .rcases List.mem_append.mp hp with z|z
  .rw [getElem?_append_left (lt p (mem_append_left _ z))];exact A.2 p (mem_append_left _ z)
  .rcases mem_cons.mp z with z|z
   .rw [z];simp
   .rw [getElem?_append_left (lt p (mem_append_right _ z))];exact A.2 p (mem_append_right _ z)
theorem At.sub {m':List (Nat×Nd)}(A:At h m) (s:m'.Sublist m):At h m':=⟨(s.map _).nodup A.1,fun p hp=>A.2 p (s.subset hp)⟩
theorem At.junk (d:Nd) (A:At h m):At (h++[d]) m:=⟨A.1,fun p hp=>by rw [getElem?_append_left (A.lt hp)];exact A.2 p hp⟩
theorem At.perm {m':List (Nat×Nd)}(A:At h m) (s:m'.Perm m):At h m':=⟨(s.map _).nodup_iff.mpr A.1,fun p hp=>A.2 p (s.subset hp)⟩
theorem fl {n k:Nat}{ns:List Str}{xs:List PV}(i:Nat) {cs:List Nat}{f:Str}{y:PV}(e:h[n]?=some (.ins k ns xs)) (hk:k∈cs) (hi:(decide (f∈ns) && ns.idxOf f == i)=true) (hy:xs[i]?=some y):ygF cs f (.loc n) h=some (y,h):=by
 obtain ⟨h1,h2⟩:=Bool.and_eq_true_iff.mp hi
 have h2:=eq_of_beq h2
 unfold ygF ygD
 simp only [e]
 rw [if_pos ⟨hk,of_decide_eq_true h1⟩,h2,hy]
def yxE (nu ma cr en:Nat):Nd:=.ins 15 ["numbers","marks","crew","entries"] [.loc nu,.loc ma,.loc cr,.loc en]
noncomputable def ypX (ds:List PV) (w nth:Int) (sl:Bool) (bf:List Int) (rn:Nat):Nd:=.ins 14 ["deeds","width","nth","sleeps","before","run"] [.lst ds,.int w,.int nth,.bl sl,.lst (bf.map .int),.loc rn]
noncomputable def yxF (hl:Nat) (w:Int) (lg:Nat) (rows:List PV) (t:Int) (sn sd:Nat):Nd:=.ins 12 ["held","width","log","rows","at","seen_stamps","sides"] [.loc hl,.int w,.loc lg,.lst rows,.int t,.loc sn,.loc sd]
theorem ykP {n nu ma cr en:Nat}(e:h[n]?=some (yxE nu ma cr en)):ygF [15] "numbers" (.loc n) h=some (.loc nu,h)/\ygF [15] "marks" (.loc n) h=some (.loc ma,h)/\ygF [15] "crew" (.loc n) h=some (.loc cr,h)/\ygF [15] "entries" (.loc n) h=some (.loc en,h) :=
 ⟨fl 0 e (by decide) (by rfl') rfl,fl 1 e (by decide) (by rfl') rfl,fl 2 e (by decide) (by rfl') rfl,fl 3 e (by decide) (by rfl') rfl⟩
theorem ynm {n:Nat}{ds:List PV}{w nth:Int}{sl:Bool}{bf:List Int}{rn:Nat}(e:h[n]?=some (ypX ds w nth sl bf rn)):ygF [14] "deeds" (.loc n) h=some (.lst ds,h)/\ygF [12,14] "width" (.loc n) h=some (.int w,h)/\ygF [14] "nth" (.loc n) h=some (.int nth,h)/\ygF [14] "sleeps" (.loc n) h=some (.bl sl,h)/\ygF [14] "before" (.loc n) h=some (.lst (bf.map .int),h)/\ygF [14] "run" (.loc n) h=some (.loc rn,h) :=
 ⟨fl 0 e (by decide) (by rfl') rfl,fl 1 e (by decide) (by rfl') rfl,fl 2 e (by decide) (by rfl') rfl,fl 3 e (by decide) (by rfl') rfl,fl 4 e (by decide) (by rfl') rfl,fl 5 e (by decide) (by rfl') rfl⟩
theorem yxG {n hl:Nat}{w:Int}{lg:Nat}{rows:List PV}{t:Int}{sn sd:Nat}(e:h[n]?=some (yxF hl w lg rows t sn sd)):ygF [12] "held" (.loc n) h=some (.loc hl,h)/\ygF [12,14] "width" (.loc n) h=some (.int w,h)/\ygF [12] "log" (.loc n) h=some (.loc lg,h)/\ygF [12] "rows" (.loc n) h=some (.lst rows,h)/\ygF [10,12] "at" (.loc n) h=some (.int t,h)/\ygF [12] "seen_stamps" (.loc n) h=some (.loc sn,h)/\ygF [12] "sides" (.loc n) h=some (.loc sd,h) :=
 ⟨fl 0 e (by decide) (by rfl') rfl,fl 1 e (by decide) (by rfl') rfl,fl 2 e (by decide) (by rfl') rfl,fl 3 e (by decide) (by rfl') rfl,fl 4 e (by decide) (by rfl') rfl,fl 5 e (by decide) (by rfl') rfl,fl 6 e (by decide) (by rfl') rfl⟩
end
def mK (k:Nat) (m:Str) (f:Fn) (as:XA) (ρ:PSt) (x:PV) (h1:AH):Option (PV×AH):=match ygD x h1 with
 | some (k',ns,_)=>if k'=k/\m∉ns then ob (as ρ h1) fun ys h2=>f (x::ys) h2 else none
 | none=>none
def fL (cs:List Nat) (f:Str) (ρ:PSt) (y x:PV) (h2:AH):Option (Out×AH):=match x with
 | .loc n=>(match h2[n]? with|some (.ins k ns xs)=>if k∈cs/\ns.length<1000 then some (.nx ρ,h2.set n (.ins k (putN f y ns xs).1 (putN f y ns xs).2)) else none|_=>none)
 | _=>none
section
variable {h:AH}{ρ:PSt}
theorem ycU {k:Nat}{m:Str}{f:Fn}{e:XE}{as:XA}:yl k m f e as ρ h=ob (e ρ h) fun x h1=>mK k m f as ρ x h1:=id rfl
theorem ytq {cs:List Nat}{f:Str}{eo ev:XE}:yeO cs f eo ev ρ h=ob (ev ρ h) fun y h1=>ob (eo ρ h1) fun x h2=>fL cs f ρ y x h2:=id rfl
theorem ydK {n k:Nat}{ns:List Str}{xs:List PV}{m:Str}{f:Fn}{as:XA}(e:h[n]?=some (.ins k ns xs)) (hm:decide (m∈ns)=false):mK k m f as ρ (.loc n) h=ob (as ρ h) fun ys h2=>f (.loc n::ys) h2:=by
 unfold mK ygD
 simp only [e]
 rw [if_pos ⟨trivial,of_decide_eq_false hm⟩]
theorem yhJ {n k:Nat}{ns ns':List Str}{xs xs':List PV}{cs:List Nat}{f:Str}{y:PV}(e:h[n]?=some (.ins k ns xs)) (hk:(decide (k∈cs) && decide (ns.length<1000))=true) (hp:putN f y ns xs=(ns',xs')):fL cs f ρ y (.loc n) h=some (.nx ρ,h.set n (.ins k ns' xs')):=by
 obtain ⟨h1,h2⟩:=Bool.and_eq_true_iff.mp hk
 unfold fL
 simp only [e]
 rw [if_pos ⟨of_decide_eq_true h1,of_decide_eq_true h2⟩,hp]
end
def rKm (k:Nat) (m:Str) (f:FnR) (as:XA) (ρ:PSt) (x:PV) (h1:AH):Option (Str×AH):=match ygD x h1 with
 | some (k',ns,_)=>if k'=k/\m∉ns then ob (as ρ h1) fun ys h2=>f (x::ys) h2 else none
 | none=>none
def sKr (r:XR) (o:Out) (h1:AH):Option (Str×AH):=match o with|.nx ρ'=>r ρ' h1|_=>none
noncomputable def oK2 (o:Option (Out×AH)) (r q:XR) (ρ:PSt) (h:AH):Option (Str×AH):=match o with|some (.nx ρ',h1)=>q ρ' h1|some _=>none|none=>r ρ h
section
variable {h:AH}{ρ ρ':PSt}
theorem ybn {α β:Type}{f:α->AH->Option β}:ob none f=none:=id rfl
theorem ydO:yeV ρ h=none:=id rfl
theorem yjp {k:Nat}{m:Str}{f:FnR}{e:XE}{as:XA}:yY k m f e as ρ h=ob (e ρ h) fun x h1=>rKm k m f as ρ x h1:=id rfl
theorem ytr {n k:Nat}{ns:List Str}{xs:List PV}{m:Str}{f:FnR}{as:XA}(e:h[n]?=some (.ins k ns xs)) (hm:decide (m∈ns)=false):rKm k m f as ρ (.loc n) h=ob (as ρ h) fun ys h2=>f (.loc n::ys) h2:=by
 unfold rKm ygD
 simp only [e]
 rw [if_pos ⟨trivial,of_decide_eq_false hm⟩]
theorem yia {c:XT}{a b:XR}:rIf c a b ρ h=ob (c ρ h) fun k h1=>if k=true then a ρ h1 else b ρ h1:=id rfl
theorem ypY {s:XS}{r:XR}:ypK s r ρ h=ob (s ρ h) (sKr r):=id rfl
theorem yhK {r:XR}:sKr r (.nx ρ) h=r ρ h:=id rfl
theorem yif {s:XS}{r q:XR}:yel s r q ρ h=oK2 (s ρ h) r q ρ h:=id rfl
theorem yjq {r q:XR}:oK2 none r q ρ h=r ρ h:=id rfl
theorem yjr {r q:XR}{h1:AH}:oK2 (some (.nx ρ',h1)) r q ρ h=q ρ' h1:=id rfl
theorem yiC {c:Str}{e:XE}:ydG c e ρ h=ob (e ρ h) fun _ h1=>some (c,h1):=id rfl
theorem yvB {e:XE}{r:XR}:ynS e r ρ h=ob (e ρ h) fun _ h1=>r ρ h1:=id rfl
theorem ysk {f:FnR}{a:XA}:yji f a ρ h=ob (a ρ h) f:=id rfl
theorem ybN {N:Nat}{r:XR}{xs:List PV}:yiw N r xs h=r (xs.map .val++replicate (N-xs.length) .no) h:=id rfl
end
local macro_rules | `(tactic| walk_at "rr")=>`(tactic| simp_all? only [$(sl_ "ybn ydO ycU yjp yia ypY yhK yif yjq yjr yiC yvB ysk"),*])
local macro_rules | `(tactic| walk_at "rr")=>`(tactic| simp_all? only [$(sl_ "ybn ydO ycU yjp yia ypY yhK yif yjq yjr yiC yvB ysk"),*])
def ymn (x y:Str):Bool:=x.cps.toList.all fun c=>decide (c∈y.cps.toList)
def ynX (w:Str):Bool:=decide (w.length=1) && ymn w "abcdefgh"
def ypZ (w:Str):Bool:=decide (1<=w.length) && decide (w.length<=8) && ymn w "abcdefghijklmnopqrstuvwxyz"
def ysl (w:Str):Bool:=inV (.str w) [.str "plus",.str "minus",.str "times",.str "less",.str "same"]
noncomputable def yxH (w:Str):Option Int:=if decide (1<=w.length) && decide (w.length<=20) && ymn w "0123456789" then (if w.cps.toList.headD 0=48/\w≠"0" then none else if ysZ w.cps.toList<18446744073709551616 then some (ysZ w.cps.toList) else none) else none
section
variable {h:AH}
theorem yzU {z:Str}{i:Nat}{ρ:PSt}(e:ye i ρ h=some (.str z,h)) (hl:z.length<=100000):xIS (ye i) ρ h=some (z.cps.toList.map sgn,h):=by
 unfold xIS
 rw [e,yey]
 exact if_pos hl
theorem ygK {x y:Str}(hl:x.length<=1000):ydq [.str x,.str y] h=some (.bl (ymn x y),h):=by
 unfold ydq ymn
 rw [yH]
 show ob (ybf _ [.val (.str x),.val (.str y)] h) fnK=_
 have hz:x.cps.toList.length=x.length:=by simp [Str.length]
 symm
 rw [yzU rfl (by omega),yey]
 rw [if_pos (by rw [length_map];omega)]
 rw [ymd (f:=sgn) (g:=fun c=>.bl (decide (c∈y.cps.toList))) fun c _=>rfl]
 symm
 show ob (yqF [.lst (x.cps.toList.map fun c=>PV.bl (decide (c∈y.cps.toList)))] h) _=_
 unfold yqF ycd
 rw [show (x.cps.toList.map fun c=>PV.bl (decide (c∈y.cps.toList)))=(x.cps.toList.map fun c=>decide (c∈y.cps.toList)).map PV.bl by rw [map_map];rfl]
 simp only [ykr,List.all_map]
 rfl
theorem yBk {w:Str}(e:w.length=1):∃ c,w=⟨#[c]⟩:=by
 obtain ⟨a⟩:=w
 have e:a.size=1:=e
 obtain ⟨l⟩:=a
 match l,e with
 | [c],_=>exact ⟨c,rfl⟩
theorem ygL {w:Str}(hl:w.length<=1000):yfd [.str w] h=some (.bl (ynX w),h):=by
 unfold yfd
 rw [yH]
 show ob (ybf _ [.val (.str w)] h) fnK=_
 symm
 rw [if_pos (by omega:w.length<=100000)]
 by_cases q:w.length=1
 .obtain ⟨c,rfl⟩:=yBk q
  rw [show (⟨#[c]⟩:Str).length=1 from rfl]
  symm
  unfold ynX ymn
  simp
  exact fun _=>rfl
 .have:((w.length:Int)=1)=False:=eq_false (by omega)
  simp_all? only [this,↓reduceIte]
  unfold ynX
  simp [q]
theorem ygM {w:Str}(hl:w.length<=1000):yfe [.str w] h=some (.bl (ypZ w),h):=by
 unfold yfe
 rw [yH]
 show ob (ybf _ [.val (.str w)] h) fnK=_
 symm
 rw [if_pos (by omega:w.length<=100000)]
 unfold ypZ
 by_cases q:1<=w.length
 .have q1:((1:Int)<=(w.length:Int))=True:=eq_true (by omega)
  by_cases q2:w.length<=8
  .have q3:((w.length:Int)<=8)=True:=eq_true (by omega)
   simp_all? only [q1,q3,ygK hl,↓reduceIte]
   simp [q,q2]
  .have q3:((w.length:Int)<=8)=False:=eq_false (by omega)
   simp_all? only [q1,q3,ygK hl,↓reduceIte]
   simp [q,q2]
 .have q1:((1:Int)<=(w.length:Int))=False:=eq_false (by omega)
  simp_all? only [q1,↓reduceIte]
  simp [q]
theorem yer {w:Str}:yfc [.str w] h=some (.bl (ysl w),h):=by
 unfold yfc ysl
 rw [yH]
 show ob (ybf _ [.val (.str w)] h) fnK=_
 symm
 rfl
theorem yvc {c:Nat}(h:c∈("0123456789":Str).cps.toList):48<=c/\c<=57:=by
 rw [show ("0123456789":Str).cps.toList=[48,49,50,51,52,53,54,55,56,57] by rfl'] at h
 simp at h
 omega
theorem ykQ {w:Str}(hl:w.length<=1000):ycO [.str w] h=some ((match yxH w with|some n=>.int n|none=>.non),h):=by
 unfold ycO yxH
 rw [yH]
 show ob (yv _ _ [.val (.str w),.no] h) fnK=_
 symm
 rw [if_pos (by omega:w.length<=100000)]
 by_cases q:1<=w.length
 .have q1:((1:Int)<=(w.length:Int))=True:=eq_true (by omega)
  by_cases q2:w.length<=20
  .have q3:((w.length:Int)<=20)=True:=eq_true (by omega)
   simp_all? only [q1,q3,ygK hl,↓reduceIte]
   rw [if_neg (by simp)]
   by_cases q4:ymn w "0123456789" = true
   .rw [if_neg (by rw [q4];decide)]
    have hz:w.cps.toList.length=w.length:=by simp [Str.length]
    obtain ⟨c,cs,e⟩:∃ c cs,w.cps.toList=c::cs:=by
     cases e:w.cps.toList with
     | nil=>rw [e] at hz;simp at hz;omega
     | cons c cs=>exact ⟨c,cs,rfl⟩
    have dg:∀ c∈w.cps.toList,48<=c/\c<=57:=fun c hc=>yvc (of_decide_eq_true (List.all_eq_true.mp q4 c hc))
    have hb:∀ h:AH,ypq [.str w] h=some (.int (ysZ w.cps.toList),h):=fun h=>by
     unfold ypq
     show (if _ then _ else _)=_
     rw [if_pos ⟨by rw [e];simp,dg,by omega⟩]
    have hat:atI w.cps.toList 0=some c:=by rw [e];exact yAH
    have hh:w.cps.toList.headD 0=c:=by rw [e];rfl
    rw [hat,if_pos (by simp [q,q2,q4]),hh]
    simp only [bind_some]
    rw [if_pos (by omega:w.length<=100000),yey]
    have eqc:oEq (sgn c) (.str "0") h=some (.bl (decide (c=48)),h):=by
     unfold sgn
     symm
     simp only [show ((⟨#[c]⟩:Str) = "0")=(c=48) from propext ⟨fun z=>by
      have z2:=congrArg (fun s:Str=>s.cps.toList) z
      rw [show ("0":Str).cps.toList=[48] by rfl'] at z2
      simpa using z2,fun z=>by subst z;rfl⟩]
    rw [eqc]
    simp_all? only [hb]
    by_cases c1:c=48
    .by_cases c2:w = "0"
     .simp only [c1,c2,not_true_eq_false,and_false,↓reduceIte]
      rw [show ysZ ("0":Str).cps.toList=0 by rfl']
      rfl
     .simp [c1,c2]
    .by_cases c3:ysZ w.cps.toList<18446744073709551616
     .simp [c1,c3]
     .simp [c1,c3]
   .rw [if_pos (by simpa using q4),if_neg (by simp [q4])]
  .have q3:((w.length:Int)<=20)=False:=eq_false (by omega)
   simp_all? only [q1,q3,↓reduceIte]
   simp [q,q2]
 .have q1:((1:Int)<=(w.length:Int))=False:=eq_false (by omega)
  simp_all? only [q1,↓reduceIte]
  simp [q]
end
local macro_rules | `(tactic| walk_at "rr")=>`(tactic| simp_all? only [$(sl_ "ybn ydO ycU yjp yia ypY yhK yif yjq yjr yiC yvB ysk"),*])
theorem ymo (a b:Str):(a++b).length=a.length+b.length:=by
 show (a.cps++b.cps).size=_
 simp [Str.length]
section
def rdr (ws:List Str) (k:Nat):Nd:=.ins 10 ["words","at"] [.lst (ws.map .str),.int k]
def hR (h:AH) (o:Nat) (ws:List Str) (k:Nat):AH:=h.set o (rdr ws k)
variable {h:AH}{o:Nat}{ws:List Str}{k:Nat}
theorem yqa (ho:o<h.length):(hR h o ws k)[o]?=some (.ins 10 ["words","at"] [.lst (ws.map .str),.int k]):=getElem?_set_self ho
theorem yxI {j:Nat}:(hR h o ws k).set o (.ins 10 ["words","at"] [.lst (ws.map .str),.int j])=hR h o ws j:=by unfold hR rdr;rw [List.set_set]
theorem ynn (ho:o<h.length):ygF [10] "words" (.loc o) (hR h o ws k)=some (.lst (ws.map .str),hR h o ws k):=fl 0 (yqa ho) (by decide) (by rfl') rfl
theorem yvd (ho:o<h.length):ygF [10,12] "at" (.loc o) (hR h o ws k)=some (.int k,hR h o ws k):=fl 1 (yqa ho) (by decide) (by rfl') rfl
noncomputable def Rd {α:Type}(h:AH) (o:Nat) (ws:List Str) (p:Option (PV×AH)) (r:Option (Str×AH)) (m:Option (α×Nat)) (v:α->PV):Prop:=match m with
 | some (x,k')=>p=some (v x,hR h o ws k')
 | none=>p=none/\∃ k',r=some (("NoDeed":Str),hR h o ws k')
theorem Rd.yes {α:Type}{p:Option (PV×AH)}{r:Option (Str×AH)}{m:Option (α×Nat)}{v:α->PV}{x:α}{k':Nat}(R:Rd h o ws p r m v) (e:m=some (x,k')):p=some (v x,hR h o ws k'):=by rw [e] at R;exact R
theorem Rd.no {α:Type}{p:Option (PV×AH)}{r:Option (Str×AH)}{m:Option (α×Nat)}{v:α->PV}(R:Rd h o ws p r m v) (e:m=none):p=none/\∃ k',r=some (("NoDeed":Str),hR h o ws k'):=by rw [e] at R;exact R
structure Wo (h:AH) (o:Nat) (ws:List Str):Prop where
 ho:o<h.length
 hl:ws.length<=99
 hw:∀ w∈ws,w.length<=1000
theorem Wo.len (O:Wo h o ws) {w:Str}(e:ws[k]?=some w):w.length<=1000:=O.hw w (mem_of_getElem? e)
variable (O:Wo h o ws)
include O
theorem yej {w:Str}(e:ws[k]?=some w):yV [.loc o] (hR h o ws k)=some (.str w,hR h o ws k):=by
 have hl:=O.hl
 have e2:k<ws.length:=(List.getElem?_eq_some_iff.mp e).1
 have e3:atI (ws.map PV.str) (k:Int)=some (.str w):=yee (by rw [getElem?_map,e];rfl)
 unfold yV
 rw [yH]
 show ob (yv _ _ [.val (.loc o)] (hR h o ws k)) fnK=_
 simp_all? only [ynn O.ho,yvd O.ho,length_map,Int.ofNat_lt,e2,e3,↓reduceIte]
theorem yhL (e:ws[k]?=none):yV [.loc o] (hR h o ws k)=some (.non,hR h o ws k):=by
 have hl:=O.hl
 have e2:ws.length<=k:=List.getElem?_eq_none_iff.mp e
 unfold yV
 rw [yH]
 show ob (yv _ _ [.val (.loc o)] (hR h o ws k)) fnK=_
 simp_all? only [ynn O.ho,yvd O.ho,length_map,Int.ofNat_lt,show ¬ k<ws.length by omega,↓reduceIte]
theorem mR {m:Str}{f:Fn}{as:XA}{ρ:PSt}(hm:decide (m∈(["words","at"]:List Str))=false):mK 10 m f as ρ (.loc o) (hR h o ws k)=ob (as ρ (hR h o ws k)) fun ys h2=>f (.loc o::ys) h2:=ydK (yqa O.ho) hm
theorem rR {m:Str}{f:FnR}{as:XA}{ρ:PSt}(hm:decide (m∈(["words","at"]:List Str))=false):rKm 10 m f as ρ (.loc o) (hR h o ws k)=ob (as ρ (hR h o ws k)) fun ys h2=>f (.loc o::ys) h2:=ytr (yqa O.ho) hm
def mTk (ws:List Str) (k:Nat):Option (Str×Nat):=match ws[k]? with|some w=>some (w,k+1)|none=>none
omit O in
theorem ynY {w:Str}(e:ws[k]?=some w):mTk ws k=some (w,k+1):=by unfold mTk;rw [e]
omit O in
theorem ynZ (e:ws[k]?=none):mTk ws k=none:=by unfold mTk;rw [e]
theorem ygo:Rd h o ws (yQ [.loc o] (hR h o ws k)) (ybm [.loc o] (hR h o ws k)) (mTk ws k) .str:=by
 cases e:ws[k]? with
 | some w =>
  rw [ynY e]
  show yQ [.loc o] (hR h o ws k)=some (.str w,hR h o ws (k+1))
  unfold yQ
  rw [yH]
  show ob (yv _ _ [.val (.loc o),.no] (hR h o ws k)) fnK=_
  simp_all? only [ybn,ydO,ycU,ytq,mR O (m:="ahead") (by rfl'),yej O e,yvd O.ho]
  rw [if_neg (by intro z;cases z),yhJ (ns':=["words","at"]) (xs':=[.lst (ws.map .str),.int ((k+1:Nat):Int)]) (yqa O.ho) (by decide) (by rfl),yxI]
  symm
 | none =>
  rw [ynZ e]
  refine ⟨?_,k,?_⟩
  .unfold yQ
   rw [yH]
   show ob (yv _ _ [.val (.loc o),.no] (hR h o ws k)) fnK=_
   simp_all? only [ybn,ydO,ycU,mR O (m:="ahead") (by rfl'),yhL O e]
   rfl
  .unfold ybm
   rw [ybN]
   show ypK _ _ [.val (.loc o),.no] (hR h o ws k)=_
   simp_all? only [ybn,ydO,ycU,yia,ypY,yhK,yiC,mR O (m:="ahead") (by rfl'),yhL O e]
   rfl
noncomputable def mPa (ws:List Str) (w0:Str) (k:Nat):Option (Unit×Nat):=match ws[k]? with|some w=>if w=w0 then some ((),k+1) else none|none=>none
noncomputable def mSl (ws:List Str) (k:Nat):Option (Str×Nat):=match ws[k]? with|some w=>if ynX w=true then some (w,k+1) else none|none=>none
noncomputable def mNm (ws:List Str) (k:Nat):Option (Str×Nat):=match ws[k]? with|some w=>if ypZ w=true then some (w,k+1) else none|none=>none
def mNo (ws:List Str) (k:Nat):Option (Int×Nat):=match ws[k]? with|some w=>(match yxH w with|some n=>some (n,k+1)|none=>none)|none=>none
theorem ydh {w0:Str}(hw:w0.length<=1000):Rd h o ws (yp [.loc o,.str w0] (hR h o ws k)) (yK [.loc o,.str w0] (hR h o ws k)) (mPa ws w0 k) fun _=>.non:=by
 have T:=ygo (k:=k) O
 unfold yp yK
 rw [yH,ybN]
 show Rd h o ws (ob (yv _ _ [.val (.loc o),.val (.str w0),.no] (hR h o ws k)) fnK) (yel _ _ _ [.val (.loc o),.val (.str w0),.no] (hR h o ws k)) _ _
 unfold mPa
 cases e:ws[k]? with
 | none =>
  obtain ⟨c1,k',c2⟩:=T.no (ynZ e)
  refine ⟨?_,k',?_⟩
  .simp_all? only [ybn,ydO,ycU,mR O (m:="taken") (by rfl'),c1]
  .simp_all? only [ybn,ydO,ycU,yjp,yif,yjq,yjr,mR O (m:="taken") (by rfl'),rR O (m:="taken") (by rfl'),c1,c2]
 | some w =>
  have c1:=T.yes (ynY e)
  have l1:=O.len e
  by_cases q:w=w0
  .subst q
   show Rd h o ws _ _ (if w=w then _ else _) _
   rw [if_pos rfl]
   show _=some (PV.non,hR h o ws (k+1))
   simp_all? only [ybn,ydO,ycU,mR O (m:="taken") (by rfl'),c1]
  .have z:(w=w0)=False:=eq_false q
   show Rd h o ws _ _ (if w=w0 then _ else _) _
   rw [if_neg q]
   refine ⟨?_,k+1,?_⟩
   .simp_all? only [ybn,ydO,ycU,mR O (m:="taken") (by rfl'),c1,z]
   .simp_all? only [ybn,ydO,ycU,yjp,yif,yjq,yjr,yia,yiC,mR O (m:="taken") (by rfl'),c1,z,↓reduceIte]
    rw [if_pos (by omega),if_pos (by rw [ymo,show ("wanted is ":Str).length=10 by rfl'];omega),if_pos (by rw [ymo,ymo,show ("wanted is ":Str).length=10 by rfl',show (", not ":Str).length=6 by rfl'];omega)]
theorem yA:Rd h o ws (yi [.loc o] (hR h o ws k)) (yq [.loc o] (hR h o ws k)) (mSl ws k) .str:=by
 have T:=ygo (k:=k) O
 unfold yi yq
 rw [yH,ybN]
 show Rd h o ws (ob (yv _ _ [.val (.loc o),.no] (hR h o ws k)) fnK) (yel _ _ _ [.val (.loc o),.no] (hR h o ws k)) _ _
 unfold mSl
 cases e:ws[k]? with
 | none =>
  obtain ⟨c1,k',c2⟩:=T.no (ynZ e)
  refine ⟨?_,k',?_⟩
  .simp_all? only [ybn,ydO,ycU,mR O (m:="taken") (by rfl'),c1]
  .simp_all? only [ybn,ydO,ycU,yjp,yif,yjq,yjr,mR O (m:="taken") (by rfl'),rR O (m:="taken") (by rfl'),c1,c2]
 | some w =>
  have c1:=T.yes (ynY e)
  have l1:=O.len e
  show Rd h o ws _ _ (if ynX w=true then _ else _) _
  cases q:ynX w with
  | true =>
   rw [if_pos rfl]
   show _=some (PV.str w,hR h o ws (k+1))
   simp_all? only [ybn,ydO,ycU,mR O (m:="taken") (by rfl'),c1,ygL l1,q,↓reduceIte]
  | false =>
   rw [if_neg (by decide)]
   refine ⟨?_,k+1,?_⟩
   .simp_all? only [ybn,ydO,ycU,mR O (m:="taken") (by rfl'),c1,ygL l1,q,↓reduceIte]
   .simp_all? only [ybn,ydO,ycU,yjp,yif,yjq,yjr,yia,yiC,mR O (m:="taken") (by rfl'),c1,ygL l1,q,↓reduceIte]
    rw [if_pos (by omega)]
theorem ydD:Rd h o ws (ybe [.loc o] (hR h o ws k)) (ybx [.loc o] (hR h o ws k)) (mNm ws k) .str:=by
 have T:=ygo (k:=k) O
 unfold ybe ybx
 rw [yH,ybN]
 show Rd h o ws (ob (yv _ _ [.val (.loc o),.no] (hR h o ws k)) fnK) (yel _ _ _ [.val (.loc o),.no] (hR h o ws k)) _ _
 unfold mNm
 cases e:ws[k]? with
 | none =>
  obtain ⟨c1,k',c2⟩:=T.no (ynZ e)
  refine ⟨?_,k',?_⟩
  .simp_all? only [ybn,ydO,ycU,mR O (m:="taken") (by rfl'),c1]
  .simp_all? only [ybn,ydO,ycU,yjp,yif,yjq,yjr,mR O (m:="taken") (by rfl'),rR O (m:="taken") (by rfl'),c1,c2]
 | some w =>
  have c1:=T.yes (ynY e)
  have l1:=O.len e
  show Rd h o ws _ _ (if ypZ w=true then _ else _) _
  cases q:ypZ w with
  | true =>
   rw [if_pos rfl]
   show _=some (PV.str w,hR h o ws (k+1))
   simp_all? only [ybn,ydO,ycU,mR O (m:="taken") (by rfl'),c1,ygM l1,q,↓reduceIte]
  | false =>
   rw [if_neg (by decide)]
   refine ⟨?_,k+1,?_⟩
   .simp_all? only [ybn,ydO,ycU,mR O (m:="taken") (by rfl'),c1,ygM l1,q,↓reduceIte]
   .simp_all? only [ybn,ydO,ycU,yjp,yif,yjq,yjr,yia,yiC,mR O (m:="taken") (by rfl'),c1,ygM l1,q,↓reduceIte]
    rw [if_pos (by omega)]
theorem yfh:Rd h o ws (ybT [.loc o] (hR h o ws k)) (ybH [.loc o] (hR h o ws k)) (mNo ws k) .int:=by
 have T:=ygo (k:=k) O
 unfold ybT ybH
 rw [yH,ybN]
 show Rd h o ws (ob (yv _ _ [.val (.loc o),.no,.no] (hR h o ws k)) fnK) (yel _ _ _ [.val (.loc o),.no,.no] (hR h o ws k)) _ _
 unfold mNo
 cases e:ws[k]? with
 | none =>
  obtain ⟨c1,k',c2⟩:=T.no (ynZ e)
  refine ⟨?_,k',?_⟩
  .simp_all? only [ybn,ydO,ycU,mR O (m:="taken") (by rfl'),c1]
  .simp_all? only [ybn,ydO,ycU,yjp,yif,yjq,yjr,mR O (m:="taken") (by rfl'),rR O (m:="taken") (by rfl'),c1,c2]
 | some w =>
  have c1:=T.yes (ynY e)
  have l1:=O.len e
  have c2:=ykQ (h:=hR h o ws (k+1)) l1
  show Rd h o ws _ _ (match yxH w with|some n=>some (n,k+1)|none=>none) _
  cases q:yxH w with
  | some n =>
   rw [q] at c2
   have c2:ycO [.str w] (hR h o ws (k+1))=some (.int n,hR h o ws (k+1)):=c2
   show _=some (PV.int n,hR h o ws (k+1))
   simp_all? only [ybn,ydO,ycU,mR O (m:="taken") (by rfl'),c1,c2,↓reduceIte]
   rw [if_neg (by intro z;cases z)]
  | none =>
   rw [q] at c2
   have c2:ycO [.str w] (hR h o ws (k+1))=some (.non,hR h o ws (k+1)):=c2
   refine ⟨?_,k+1,?_⟩
   .simp_all? only [ybn,ydO,ycU,mR O (m:="taken") (by rfl'),c1,c2,↓reduceIte]
    rfl
   .simp_all? only [ybn,ydO,ycU,yjp,yif,yjq,yjr,yia,ypY,yhK,yiC,mR O (m:="taken") (by rfl'),c1,c2,↓reduceIte]
    rw [if_pos (by rfl),if_pos (by omega)]
end
local macro_rules | `(tactic| dsimp! only [$ls,*])=>`(tactic| simp_all? only [ybn,ydO,ycU,mR $(Lean.mkIdent `O) (m:="slot_taken") (by rfl'),mR $(Lean.mkIdent `O) (m:="name_taken") (by rfl'),mR $(Lean.mkIdent `O) (m:="number_taken") (by rfl'),mR $(Lean.mkIdent `O) (m:="reckon_taken") (by rfl'),↓reduceIte,$ls,*])
local macro_rules | `(tactic| dsimp? only [$ls,*])=>`(tactic| dsimp! only [yjp,yif,yjq,yjr,yia,ypY,yhK,yiC,yvB,ysk,rR $(Lean.mkIdent `O) (m:="slot_taken") (by rfl'),rR $(Lean.mkIdent `O) (m:="name_taken") (by rfl'),rR $(Lean.mkIdent `O) (m:="number_taken") (by rfl'),rR $(Lean.mkIdent `O) (m:="reckon_taken") (by rfl'),$ls,*])
section
variable {h:AH}{o:Nat}{ws:List Str}{k:Nat}
theorem yzV {a:Str}{b:Int}{h:AH}:yeg [.str a,.int b] h=some (.ins 1 ["slot","number"] [.str a,.int b],h):=rfl
theorem yxJ {a:Str}{b:Str}{h:AH}:ydJ [.str a,.str b] h=some (.ins 3 ["slot","place"] [.str a,.str b],h):=rfl
theorem yzW {a:Str}{b:Str}{h:AH}:yeh [.str a,.str b] h=some (.ins 4 ["place","slot"] [.str a,.str b],h):=rfl
theorem yve {a:Str}{b:Str}{h:AH}:ydA [.str a,.str b] h=some (.ins 8 ["name","slot"] [.str a,.str b],h):=rfl
theorem ysm {a b c d:Str}{h:AH}:ydf [.str a,.str b,.str c,.str d] h=some (.ins 2 ["word","slot","one","other"] [.str a,.str b,.str c,.str d],h):=rfl
def ysn (ws:List Str) (k:Nat):Option (PV×Nat):=match mSl ws k with|none=>none|some (s1,k1)=>match mNo ws k1 with|none=>none|some (s2,k2)=>some (PV.ins 1 ["slot","number"] [.str s1,.int s2],k2)
def yno (ws:List Str) (k:Nat):Option (PV×Nat):=match mSl ws k with|none=>none|some (s1,k1)=>match mSl ws k1 with|none=>none|some (s2,k2)=>some (PV.ins 3 ["slot","place"] [.str s1,.str s2],k2)
def yso (ws:List Str) (k:Nat):Option (PV×Nat):=match mSl ws k with|none=>none|some (s1,k1)=>match mSl ws k1 with|none=>none|some (s2,k2)=>some (PV.ins 4 ["place","slot"] [.str s1,.str s2],k2)
def yjs (ws:List Str) (k:Nat):Option (PV×Nat):=match mNm ws k with|none=>none|some (s1,k1)=>match mSl ws k1 with|none=>none|some (s2,k2)=>some (PV.ins 8 ["name","slot"] [.str s1,.str s2],k2)
def yfw (ws:List Str) (w:Str) (k:Nat):Option (PV×Nat):=match mSl ws k with|none=>none|some (s1,k1)=>match mSl ws k1 with|none=>none|some (s2,k2)=>match mSl ws k2 with|none=>none|some (s3,k3)=>some (PV.ins 2 ["word","slot","one","other"] [.str w,.str s1,.str s2,.str s3],k3)
def mPl (ws:List Str) (w:Str) (k:Nat):Option (PV×Nat):=if w = "let" then ysn ws k else if w = "take" then yno ws k else if w = "put" then yso ws k else if w = "throw" then yjs ws k else if w = "wait" then some (.ins 9 [] [],k) else if ysl w=true then yfw ws w k else none
variable (O:Wo h o ws)
include O
theorem ykR {w:Str}:Rd h o ws (ybU [.loc o,.str w] (hR h o ws k)) (ybI [.loc o,.str w] (hR h o ws k)) (yfw ws w k) id:=by
 unfold ybU ybI yfw
 rw [yH,ybN]
 show Rd h o ws (ob (yv _ _ [.val (.loc o),.val (.str w),.no,.no,.no] (hR h o ws k)) fnK) (yel _ _ _ [.val (.loc o),.val (.str w),.no,.no,.no] (hR h o ws k)) _ _
 cases e1:mSl ws k with
 | none =>
  obtain ⟨d1,k',d2⟩:=(yA (k:=k) O).no e1
  refine ⟨?_,k',?_⟩
  .dsimp! only [d1]
  .dsimp? only [d1,d2]
 | some q1 =>
  obtain ⟨s1,k1⟩:=q1
  dsimp only
  have c1:=(yA (k:=k) O).yes e1
  cases e2:mSl ws k1 with
  | none =>
   obtain ⟨d1,k',d2⟩:=(yA (k:=k1) O).no e2
   refine ⟨?_,k',?_⟩
   .dsimp! only [c1,d1]
   .dsimp? only [c1,d1,d2]
  | some q2 =>
   obtain ⟨s2,k2⟩:=q2
   dsimp only
   have c2:=(yA (k:=k1) O).yes e2
   cases e3:mSl ws k2 with
   | none =>
    obtain ⟨d1,k',d2⟩:=(yA (k:=k2) O).no e3
    refine ⟨?_,k',?_⟩
    .dsimp! only [c1,c2,d1]
    .dsimp? only [c1,c2,d1,d2]
   | some q3 =>
    obtain ⟨s3,k3⟩:=q3
    dsimp only
    have c3:=(yA (k:=k2) O).yes e3
    show _=some (_,hR h o ws k3)
    dsimp! only [c1,c2,c3,ysm]
    rfl
theorem ynp {w:Str}(hw:w.length<=1000):Rd h o ws (yca [.loc o,.str w] (hR h o ws k)) (ybO [.loc o,.str w] (hR h o ws k)) (mPl ws w k) id:=by
 unfold yca ybO mPl
 rw [yH,ybN]
 show Rd h o ws (ob (yv _ _ [.val (.loc o),.val (.str w),.no,.no,.no] (hR h o ws k)) fnK) (rIf _ _ _ [.val (.loc o),.val (.str w),.no,.no,.no] (hR h o ws k)) _ _
 by_cases z1:w = "let"
 .rw [if_pos z1]
  have t1:(w = "let")=True:=eq_true z1
  unfold ysn
  cases e1:mSl ws k with
  | none =>
   obtain ⟨d1,k',d2⟩:=(yA (k:=k) O).no e1
   refine ⟨?_,k',?_⟩
   .dsimp! only [t1,d1]
   .dsimp? only [t1,d1,d2]
  | some q1 =>
   obtain ⟨s1,k1⟩:=q1
   dsimp only
   have c1:=(yA (k:=k) O).yes e1
   cases e2:mNo ws k1 with
   | none =>
    obtain ⟨d1,k',d2⟩:=(yfh (k:=k1) O).no e2
    refine ⟨?_,k',?_⟩
    .dsimp! only [t1,c1,d1]
    .dsimp? only [t1,c1,d1,d2]
   | some q2 =>
    obtain ⟨s2,k2⟩:=q2
    dsimp only
    have c2:=(yfh (k:=k1) O).yes e2
    show _=some (_,hR h o ws k2)
    dsimp! only [t1,c1,c2,yzV]
    rfl
 .rw [if_neg z1]
  have f1:(w = "let")=False:=eq_false z1
  by_cases z2:w = "take"
  .rw [if_pos z2]
   have t2:(w = "take")=True:=eq_true z2
   unfold yno
   cases e1:mSl ws k with
   | none =>
    obtain ⟨d1,k',d2⟩:=(yA (k:=k) O).no e1
    refine ⟨?_,k',?_⟩
    .dsimp! only [f1,t2,d1]
    .dsimp? only [f1,t2,d1,d2]
   | some q1 =>
    obtain ⟨s1,k1⟩:=q1
    dsimp only
    have c1:=(yA (k:=k) O).yes e1
    cases e2:mSl ws k1 with
    | none =>
     obtain ⟨d1,k',d2⟩:=(yA (k:=k1) O).no e2
     refine ⟨?_,k',?_⟩
     .dsimp! only [f1,t2,c1,d1]
     .dsimp? only [f1,t2,c1,d1,d2]
    | some q2 =>
     obtain ⟨s2,k2⟩:=q2
     dsimp only
     have c2:=(yA (k:=k1) O).yes e2
     show _=some (_,hR h o ws k2)
     dsimp! only [f1,t2,c1,c2,yxJ]
     rfl
  .rw [if_neg z2]
   have f2:(w = "take")=False:=eq_false z2
   by_cases z3:w = "put"
   .rw [if_pos z3]
    have t3:(w = "put")=True:=eq_true z3
    unfold yso
    cases e1:mSl ws k with
    | none =>
     obtain ⟨d1,k',d2⟩:=(yA (k:=k) O).no e1
     refine ⟨?_,k',?_⟩
     .dsimp! only [f1,f2,t3,d1]
     .dsimp? only [f1,f2,t3,d1,d2]
    | some q1 =>
     obtain ⟨s1,k1⟩:=q1
     dsimp only
     have c1:=(yA (k:=k) O).yes e1
     cases e2:mSl ws k1 with
     | none =>
      obtain ⟨d1,k',d2⟩:=(yA (k:=k1) O).no e2
      refine ⟨?_,k',?_⟩
      .dsimp! only [f1,f2,t3,c1,d1]
      .dsimp? only [f1,f2,t3,c1,d1,d2]
     | some q2 =>
      obtain ⟨s2,k2⟩:=q2
      dsimp only
      have c2:=(yA (k:=k1) O).yes e2
      show _=some (_,hR h o ws k2)
      dsimp! only [f1,f2,t3,c1,c2,yzW]
      rfl
   .rw [if_neg z3]
    have f3:(w = "put")=False:=eq_false z3
    by_cases z4:w = "throw"
    .rw [if_pos z4]
     have t4:(w = "throw")=True:=eq_true z4
     unfold yjs
     cases e1:mNm ws k with
     | none =>
      obtain ⟨d1,k',d2⟩:=(ydD (k:=k) O).no e1
      refine ⟨?_,k',?_⟩
      .dsimp! only [f1,f2,f3,t4,d1]
      .dsimp? only [f1,f2,f3,t4,d1,d2]
     | some q1 =>
      obtain ⟨s1,k1⟩:=q1
      dsimp only
      have c1:=(ydD (k:=k) O).yes e1
      cases e2:mSl ws k1 with
      | none =>
       obtain ⟨d1,k',d2⟩:=(yA (k:=k1) O).no e2
       refine ⟨?_,k',?_⟩
       .dsimp! only [f1,f2,f3,t4,c1,d1]
       .dsimp? only [f1,f2,f3,t4,c1,d1,d2]
      | some q2 =>
       obtain ⟨s2,k2⟩:=q2
       dsimp only
       have c2:=(yA (k:=k1) O).yes e2
       show _=some (_,hR h o ws k2)
       dsimp! only [f1,f2,f3,t4,c1,c2,yve]
       rfl
    .rw [if_neg z4]
     have f4:(w = "throw")=False:=eq_false z4
     by_cases z5:w = "wait"
     .rw [if_pos z5]
      have t5:(w = "wait")=True:=eq_true z5
      show _=some (_,hR h o ws k)
      dsimp! only [f1,f2,f3,f4,t5]
      rfl
     .rw [if_neg z5]
      have f5:(w = "wait")=False:=eq_false z5
      cases q:ysl w with
      | true =>
       rw [if_pos rfl]
       cases e1:yfw ws w k with
       | none =>
        obtain ⟨d1,k',d2⟩:=(ykR (k:=k) (w:=w) O).no e1
        refine ⟨?_,k',?_⟩
        .dsimp! only [f1,f2,f3,f4,f5,yer,q,d1]
        .dsimp? only [f1,f2,f3,f4,f5,yer,q,d2]
       | some q1 =>
        obtain ⟨s1,k1⟩:=q1
        have c1:=(ykR (k:=k) (w:=w) O).yes e1
        show _=some (_,hR h o ws k1)
        dsimp! only [f1,f2,f3,f4,f5,yer,q,c1]
      | false =>
       rw [if_neg (by decide)]
       refine ⟨?_,k,?_⟩
       .dsimp! only [f1,f2,f3,f4,f5,yer,q]
       .dsimp? only [f1,f2,f3,f4,f5,yer,q]
        rw [if_pos (by omega)]
end
local macro_rules | `(tactic| dsimp! only [$ls,*])=>`(tactic| simp_all? only [ybn,ydO,ycU,mR $(Lean.mkIdent `O) (m:="slot_taken") (by rfl'),mR $(Lean.mkIdent `O) (m:="name_taken") (by rfl'),mR $(Lean.mkIdent `O) (m:="side_taken") (by rfl'),mR $(Lean.mkIdent `O) (m:="pass_over") (by rfl'),mR $(Lean.mkIdent `O) (m:="list_taken") (by rfl'),mR $(Lean.mkIdent `O) (m:="part_taken") (by rfl'),mR $(Lean.mkIdent `O) (m:="ahead") (by rfl'),mR $(Lean.mkIdent `O) (m:="taken") (by rfl'),mR $(Lean.mkIdent `O) (m:="if_taken") (by rfl'),mR $(Lean.mkIdent `O) (m:="either_taken") (by rfl'),mR $(Lean.mkIdent `O) (m:="try_taken") (by rfl'),mR $(Lean.mkIdent `O) (m:="plain_taken") (by rfl'),↓reduceIte,$ls,*])
local macro_rules | `(tactic| dsimp? only [$ls,*])=>`(tactic| dsimp! only [yjp,yif,yjq,yjr,yia,ypY,yhK,yiC,yvB,ysk,rR $(Lean.mkIdent `O) (m:="slot_taken") (by rfl'),rR $(Lean.mkIdent `O) (m:="name_taken") (by rfl'),rR $(Lean.mkIdent `O) (m:="side_taken") (by rfl'),rR $(Lean.mkIdent `O) (m:="pass_over") (by rfl'),rR $(Lean.mkIdent `O) (m:="list_taken") (by rfl'),rR $(Lean.mkIdent `O) (m:="part_taken") (by rfl'),rR $(Lean.mkIdent `O) (m:="ahead") (by rfl'),rR $(Lean.mkIdent `O) (m:="taken") (by rfl'),rR $(Lean.mkIdent `O) (m:="if_taken") (by rfl'),rR $(Lean.mkIdent `O) (m:="either_taken") (by rfl'),rR $(Lean.mkIdent `O) (m:="try_taken") (by rfl'),rR $(Lean.mkIdent `O) (m:="plain_taken") (by rfl'),$ls,*])
section
variable {h:AH}{o:Nat}{ws:List Str}{k:Nat}
noncomputable def mLp (mp:Nat->Option (PV×Nat)) (ws:List Str):Nat->List PV->Nat->Option (List PV×Nat)
 | 0,_,_=>none
 | f+1,acc,k=>if ws[k]?=some (";":Str) then (match mp (k+1) with|none=>none|some (v,k1)=>mLp mp ws f (acc++[v]) k1) else some (acc,k)
def mLs (mp:Nat->Option (PV×Nat)) (ws:List Str) (k:Nat):Option (List PV×Nat):=match ws[k]? with
 | none=>some ([],k)
 | some w=>if w = ")" then some ([],k) else match mp k with|none=>none|some (v,k1)=>mLp mp ws 100 [v] k1
theorem yBl {a:Str}{b c:List PV}{h:AH}:yeA [.str a,.lst b,.lst c] h=some (.ins 5 ["slot","parts","others"] [.str a,.lst b,.lst c],h):=rfl
theorem ysp {b c:List PV}{h:AH}:ydg [.lst b,.lst c] h=some (.ins 6 ["parts","others"] [.lst b,.lst c],h):=rfl
theorem yzX {a d:Str}{b c:List PV}{h:AH}:yei [.lst b,.str a,.str d,.lst c] h=some (.ins 7 ["parts","name","slot","others"] [.lst b,.str a,.str d,.lst c],h):=rfl
def mSd (mp:Nat->Option (PV×Nat)) (ws:List Str) (k:Nat):Option (List PV×Nat):=match mPa ws "(" k with|none=>none|some (s1,k1)=>match mLs mp ws k1 with|none=>none|some (s2,k2)=>match mPa ws ")" k2 with|none=>none|some (s3,k3)=>some (s2,k3)
def yvC (mp:Nat->Option (PV×Nat)) (ws:List Str) (k:Nat):Option (PV×Nat):=match mSl ws k with|none=>none|some (s1,k1)=>match mSd mp ws k1 with|none=>none|some (s2,k2)=>match mPa ws "else" k2 with|none=>none|some (s3,k3)=>match mSd mp ws k3 with|none=>none|some (s4,k4)=>some (PV.ins 5 ["slot","parts","others"] [.str s1,.lst s2,.lst s4],k4)
def yfx (mp:Nat->Option (PV×Nat)) (ws:List Str) (k:Nat):Option (PV×Nat):=match mSd mp ws k with|none=>none|some (s1,k1)=>match mPa ws "or" k1 with|none=>none|some (s2,k2)=>match mSd mp ws k2 with|none=>none|some (s3,k3)=>some (PV.ins 6 ["parts","others"] [.lst s1,.lst s3],k3)
def yoa (mp:Nat->Option (PV×Nat)) (ws:List Str) (k:Nat):Option (PV×Nat):=match mSd mp ws k with|none=>none|some (s1,k1)=>match mPa ws "on" k1 with|none=>none|some (s2,k2)=>match mNm ws k2 with|none=>none|some (s3,k3)=>match mSl ws k3 with|none=>none|some (s4,k4)=>match mSd mp ws k4 with|none=>none|some (s5,k5)=>some (PV.ins 7 ["parts","name","slot","others"] [.lst s1,.str s3,.str s4,.lst s5],k5)
def mP (ws:List Str):Nat->Nat->Option (PV×Nat)
 | 0,_=>none
 | d+1,k=>match ws[k]? with
  | none=>none
  | some w=>if w = "if" then yvC (mP ws d) ws (k+1) else if w = "either" then yfx (mP ws d) ws (k+1) else if w = "try" then yoa (mP ws d) ws (k+1) else mPl ws w (k+1)
variable (O:Wo h o ws)
include O
section
variable {mp:Nat->Option (PV×Nat)}{N:Nat}{a:Int}
theorem yxK (SR:∀ n m k,N<=n->N<=m->Rd h o ws (yo n [.loc o,.int a] (hR h o ws k)) (yt m [.loc o,.int a] (hR h o ws k)) (mSd mp ws k) .lst) (h45:N<=45):∀ n m k,N<=n->N<=m->Rd h o ws (ycF (n+1) [.loc o,.int a] (hR h o ws k)) (yci (m+1) [.loc o,.int a] (hR h o ws k)) (yvC mp ws k) id:=by
 intro n m k hn hm
 unfold ycF yci
 rw [yH,ybN]
 show Rd h o ws (ob (yv _ _ [.val (.loc o),.val (.int a),.no,.no,.no] (hR h o ws k)) fnK) (yel _ _ _ [.val (.loc o),.val (.int a),.no,.no,.no] (hR h o ws k)) _ _
 unfold yvC
 cases e1:mSl ws k with
 | none =>
  obtain ⟨d1,k',d2⟩:=(yA (k:=k) O).no e1
  refine ⟨?_,k',?_⟩
  .dsimp! only [d1]
  .dsimp? only [d1,d2]
 | some q1 =>
  obtain ⟨s1,k1⟩:=q1
  dsimp only
  have c1:=(yA (k:=k) O).yes e1
  cases e2:mSd mp ws k1 with
  | none =>
   obtain ⟨d1,k',d2⟩:=(SR n m k1 hn hm).no e2
   have d3:=((SR 45 m k1 h45 hm).no e2).1
   refine ⟨?_,k',?_⟩
   .dsimp! only [c1,d1]
   .dsimp? only [c1,d3,d2]
  | some q2 =>
   obtain ⟨s2,k2⟩:=q2
   dsimp only
   have c2:=(SR n m k1 hn hm).yes e2
   have b2:=(SR 45 m k1 h45 hm).yes e2
   cases e3:mPa ws "else" k2 with
   | none =>
    obtain ⟨d1,k',d2⟩:=(ydh (k:=k2) (w0:="else") O (by rfl')).no e3
    refine ⟨?_,k',?_⟩
    .dsimp! only [c1,c2,d1]
    .dsimp? only [c1,b2,d1,d2]
   | some q3 =>
    obtain ⟨s3,k3⟩:=q3
    dsimp only
    have c3:=(ydh (k:=k2) (w0:="else") O (by rfl')).yes e3
    cases e4:mSd mp ws k3 with
    | none =>
     obtain ⟨d1,k',d2⟩:=(SR n m k3 hn hm).no e4
     have d3:=((SR 45 m k3 h45 hm).no e4).1
     refine ⟨?_,k',?_⟩
     .dsimp! only [c1,c2,c3,d1]
     .dsimp? only [c1,b2,c3,d3,d2]
    | some q4 =>
     obtain ⟨s4,k4⟩:=q4
     dsimp only
     have c4:=(SR n m k3 hn hm).yes e4
     have b4:=(SR 45 m k3 h45 hm).yes e4
     show _=some (_,hR h o ws k4)
     dsimp! only [c1,c2,c3,c4,yBl]
     rfl
theorem ykS (SR:∀ n m k,N<=n->N<=m->Rd h o ws (yo n [.loc o,.int a] (hR h o ws k)) (yt m [.loc o,.int a] (hR h o ws k)) (mSd mp ws k) .lst) (h45:N<=45):∀ n m k,N<=n->N<=m->Rd h o ws (ybV (n+1) [.loc o,.int a] (hR h o ws k)) (ybJ (m+1) [.loc o,.int a] (hR h o ws k)) (yfx mp ws k) id:=by
 intro n m k hn hm
 unfold ybV ybJ
 rw [yH,ybN]
 show Rd h o ws (ob (yv _ _ [.val (.loc o),.val (.int a),.no,.no] (hR h o ws k)) fnK) (yel _ _ _ [.val (.loc o),.val (.int a),.no,.no] (hR h o ws k)) _ _
 unfold yfx
 cases e1:mSd mp ws k with
 | none =>
  obtain ⟨d1,k',d2⟩:=(SR n m k hn hm).no e1
  have d3:=((SR 45 m k h45 hm).no e1).1
  refine ⟨?_,k',?_⟩
  .dsimp! only [d1]
  .dsimp? only [d3,d2]
 | some q1 =>
  obtain ⟨s1,k1⟩:=q1
  dsimp only
  have c1:=(SR n m k hn hm).yes e1
  have b1:=(SR 45 m k h45 hm).yes e1
  cases e2:mPa ws "or" k1 with
  | none =>
   obtain ⟨d1,k',d2⟩:=(ydh (k:=k1) (w0:="or") O (by rfl')).no e2
   refine ⟨?_,k',?_⟩
   .dsimp! only [c1,d1]
   .dsimp? only [b1,d1,d2]
  | some q2 =>
   obtain ⟨s2,k2⟩:=q2
   dsimp only
   have c2:=(ydh (k:=k1) (w0:="or") O (by rfl')).yes e2
   cases e3:mSd mp ws k2 with
   | none =>
    obtain ⟨d1,k',d2⟩:=(SR n m k2 hn hm).no e3
    have d3:=((SR 45 m k2 h45 hm).no e3).1
    refine ⟨?_,k',?_⟩
    .dsimp! only [c1,c2,d1]
    .dsimp? only [b1,c2,d3,d2]
   | some q3 =>
    obtain ⟨s3,k3⟩:=q3
    dsimp only
    have c3:=(SR n m k2 hn hm).yes e3
    have b3:=(SR 45 m k2 h45 hm).yes e3
    show _=some (_,hR h o ws k3)
    dsimp! only [c1,c2,c3,ysp]
    rfl
theorem yts (SR:∀ n m k,N<=n->N<=m->Rd h o ws (yo n [.loc o,.int a] (hR h o ws k)) (yt m [.loc o,.int a] (hR h o ws k)) (mSd mp ws k) .lst) (h45:N<=45):∀ n m k,N<=n->N<=m->Rd h o ws (ycu (n+1) [.loc o,.int a] (hR h o ws k)) (ycb (m+1) [.loc o,.int a] (hR h o ws k)) (yoa mp ws k) id:=by
 intro n m k hn hm
 unfold ycu ycb
 rw [yH,ybN]
 show Rd h o ws (ob (yv _ _ [.val (.loc o),.val (.int a),.no,.no,.no,.no] (hR h o ws k)) fnK) (yel _ _ _ [.val (.loc o),.val (.int a),.no,.no,.no,.no] (hR h o ws k)) _ _
 unfold yoa
 cases e1:mSd mp ws k with
 | none =>
  obtain ⟨d1,k',d2⟩:=(SR n m k hn hm).no e1
  have d3:=((SR 45 m k h45 hm).no e1).1
  refine ⟨?_,k',?_⟩
  .dsimp! only [d1]
  .dsimp? only [d3,d2]
 | some q1 =>
  obtain ⟨s1,k1⟩:=q1
  dsimp only
  have c1:=(SR n m k hn hm).yes e1
  have b1:=(SR 45 m k h45 hm).yes e1
  cases e2:mPa ws "on" k1 with
  | none =>
   obtain ⟨d1,k',d2⟩:=(ydh (k:=k1) (w0:="on") O (by rfl')).no e2
   refine ⟨?_,k',?_⟩
   .dsimp! only [c1,d1]
   .dsimp? only [b1,d1,d2]
  | some q2 =>
   obtain ⟨s2,k2⟩:=q2
   dsimp only
   have c2:=(ydh (k:=k1) (w0:="on") O (by rfl')).yes e2
   cases e3:mNm ws k2 with
   | none =>
    obtain ⟨d1,k',d2⟩:=(ydD (k:=k2) O).no e3
    refine ⟨?_,k',?_⟩
    .dsimp! only [c1,c2,d1]
    .dsimp? only [b1,c2,d1,d2]
   | some q3 =>
    obtain ⟨s3,k3⟩:=q3
    dsimp only
    have c3:=(ydD (k:=k2) O).yes e3
    cases e4:mSl ws k3 with
    | none =>
     obtain ⟨d1,k',d2⟩:=(yA (k:=k3) O).no e4
     refine ⟨?_,k',?_⟩
     .dsimp! only [c1,c2,c3,d1]
     .dsimp? only [b1,c2,c3,d1,d2]
    | some q4 =>
     obtain ⟨s4,k4⟩:=q4
     dsimp only
     have c4:=(yA (k:=k3) O).yes e4
     cases e5:mSd mp ws k4 with
     | none =>
      obtain ⟨d1,k',d2⟩:=(SR n m k4 hn hm).no e5
      have d3:=((SR 45 m k4 h45 hm).no e5).1
      refine ⟨?_,k',?_⟩
      .dsimp! only [c1,c2,c3,c4,d1]
      .dsimp? only [b1,c2,c3,c4,d3,d2]
     | some q5 =>
      obtain ⟨s5,k5⟩:=q5
      dsimp only
      have c5:=(SR n m k4 hn hm).yes e5
      have b5:=(SR 45 m k4 h45 hm).yes e5
      show _=some (_,hR h o ws k5)
      dsimp! only [c1,c2,c3,c4,c5,yzX]
      rfl
theorem yvf (LR:∀ n m k,N<=n->N<=m->Rd h o ws (yJ n [.loc o,.int a] (hR h o ws k)) (yP m [.loc o,.int a] (hR h o ws k)) (mLs mp ws k) .lst) (h45:N<=45):∀ n m k,N<=n->N<=m->Rd h o ws (yo (n+1) [.loc o,.int a] (hR h o ws k)) (yt (m+1) [.loc o,.int a] (hR h o ws k)) (mSd mp ws k) .lst:=by
 intro n m k hn hm
 unfold yo yt
 rw [yH,ybN]
 show Rd h o ws (ob (yv _ _ [.val (.loc o),.val (.int a),.no] (hR h o ws k)) fnK) (yel _ _ _ [.val (.loc o),.val (.int a),.no] (hR h o ws k)) _ _
 unfold mSd
 cases e1:mPa ws "(" k with
 | none =>
  obtain ⟨d1,k',d2⟩:=(ydh (k:=k) (w0:="(") O (by rfl')).no e1
  refine ⟨?_,k',?_⟩
  .dsimp! only [d1]
  .dsimp? only [d1,d2]
 | some q1 =>
  obtain ⟨s1,k1⟩:=q1
  dsimp only
  have c1:=(ydh (k:=k) (w0:="(") O (by rfl')).yes e1
  cases e2:mLs mp ws k1 with
  | none =>
   obtain ⟨d1,k',d2⟩:=(LR n m k1 hn hm).no e2
   have d3:=((LR 45 m k1 h45 hm).no e2).1
   refine ⟨?_,k',?_⟩
   .dsimp! only [c1,d1]
   .dsimp? only [c1,d3,d2]
  | some q2 =>
   obtain ⟨s2,k2⟩:=q2
   dsimp only
   have c2:=(LR n m k1 hn hm).yes e2
   have b2:=(LR 45 m k1 h45 hm).yes e2
   cases e3:mPa ws ")" k2 with
   | none =>
    obtain ⟨d1,k',d2⟩:=(ydh (k:=k2) (w0:=")") O (by rfl')).no e3
    refine ⟨?_,k',?_⟩
    .dsimp! only [c1,c2,d1]
    .dsimp? only [c1,b2,d1,d2]
   | some q3 =>
    obtain ⟨s3,k3⟩:=q3
    dsimp only
    have c3:=(ydh (k:=k2) (w0:=")") O (by rfl')).yes e3
    show _=some (_,hR h o ws k3)
    dsimp! only [c1,c2,c3]
end
end
def yfC (n:Nat):XS:=yv (ydN (yl 10 "pass_over" yp (ye 0) (yb (xC (.str ";")) (yg)))) (yiZ 2 (yl 10 "part_taken" (yw n) (ye 0) (yb (ye 1) (yg))))
def ymp (n:Nat):XR:=yel (ydN (yl 10 "pass_over" yp (ye 0) (yb (xC (.str ";")) (yg)))) (yY 10 "pass_over" yK (ye 0) (yb (xC (.str ";")) (yg))) (ynT 2 (yY 10 "part_taken" (yD n) (ye 0) (yb (ye 1) (yg))))
noncomputable def wK (o:Option (Out×AH)) (f:PSt->AH->Option (Str×AH)) (r:Option (Str×AH)):Option (Str×AH):=match o with|some (.nx ρ',h2)=>f ρ' h2|some _=>none|none=>r
theorem ykT {c:XT}{b:XS}{r:XR}{n:Nat}{ρ:PSt}{h:AH}:yrW c b r (n+1) ρ h=ob (c ρ h) fun k h1=>if k=true then wK (b ρ h1) (yrW c b r n) (r ρ h1) else none:=rfl
theorem yBm {i:Nat}{r:XR}{ρ:PSt}{h:AH}{xs:List PV}(hx:ρ[i]?=some (.own (.lst xs))):ynT i r ρ h=r ρ h:=by
 unfold ynT
 rw [hx]
section
variable {h:AH}{o:Nat}{ws:List Str}{k:Nat}
theorem ymq (e:ws[k]?=some (";":Str)):mPa ws ";" k=some ((),k+1):=by
 unfold mPa
 rw [e]
 exact if_pos rfl
variable (O:Wo h o ws)
include O
section
variable {mp:Nat->Option (PV×Nat)}{N:Nat}{a:Int}
theorem yys {acc:List PV}(e:ws[k]?=some (";":Str)):yeP [.val (.loc o),.val (.int a),.own (.lst acc)] (hR h o ws k)=some (true,hR h o ws k):=by
 unfold yeP
 simp_all? only [ycU,mR O (m:="ahead") (by rfl'),yej O e]
theorem yAN {acc:List PV}(e:ws[k]?≠some (";":Str)):yeP [.val (.loc o),.val (.int a),.own (.lst acc)] (hR h o ws k)=some (false,hR h o ws k):=by
 unfold yeP
 cases q:ws[k]? with
 | none =>
  simp_all? only [ycU,mR O (m:="ahead") (by rfl'),yhL O q]
  rfl
 | some w =>
  have z:(w = ";")=False:=eq_false fun z=>e (by rw [q,z])
  simp_all? only [ycU,mR O (m:="ahead") (by rfl'),yej O q,z]
theorem yAO {acc:List PV}{n k1:Nat}{v:PV}(ha:acc.length<1000) (e:ws[k]?=some (";":Str)) (c:yw n [.loc o,.int a] (hR h o ws (k+1))=some (v,hR h o ws k1)):yfC n [.val (.loc o),.val (.int a),.own (.lst acc)] (hR h o ws k)=some (.nx [.val (.loc o),.val (.int a),.own (.lst (acc++[v]))],hR h o ws k1):=by
 have c0:=(ydh (k:=k) (w0:=";") O (by rfl')).yes (ymq e)
 unfold yfC
 simp_all? only [ycU,mR O (m:="pass_over") (by rfl'),c0]
 rw [ypz rfl]
 simp_all? only [ycU,mR O (m:="part_taken") (by rfl'),c]
 rw [if_pos (by omega)]
theorem yAP {acc:List PV}{n:Nat}(e:ws[k]?=some (";":Str)) (c:yw n [.loc o,.int a] (hR h o ws (k+1))=none):yfC n [.val (.loc o),.val (.int a),.own (.lst acc)] (hR h o ws k)=none:=by
 have c0:=(ydh (k:=k) (w0:=";") O (by rfl')).yes (ymq e)
 unfold yfC
 simp_all? only [ycU,mR O (m:="pass_over") (by rfl'),c0]
 rw [ypz rfl]
 simp_all? only [ybn,ycU,mR O (m:="part_taken") (by rfl'),c]
theorem yBn {acc:List PV}{n k1:Nat}(e:ws[k]?=some (";":Str)) (c:yD n [.loc o,.int a] (hR h o ws (k+1))=some (("NoDeed":Str),hR h o ws k1)):ymp n [.val (.loc o),.val (.int a),.own (.lst acc)] (hR h o ws k)=some (("NoDeed":Str),hR h o ws k1):=by
 have c0:=(ydh (k:=k) (w0:=";") O (by rfl')).yes (ymq e)
 unfold ymp
 simp_all? only [ycU,yif,yjr,mR O (m:="pass_over") (by rfl'),c0]
 rw [yBm rfl]
 simp_all? only [yjp,rR O (m:="part_taken") (by rfl'),c]
theorem yvg (PR:∀ n m k,N<=n->N<=m->Rd h o ws (yw n [.loc o,.int a] (hR h o ws k)) (yD m [.loc o,.int a] (hR h o ws k)) (mp k) id) (mo:∀ k v k1,mp k=some (v,k1)->k<=k1) {n m:Nat}(hn:N<=n) (hm:N<=m) (h45:N<=45):∀ (f:Nat) (acc:List PV) (k:Nat),ws.length<=f+k->acc.length+f<=900 ->
  match mLp mp ws (f+1) acc k with
  | some (vs,k')=>whl yeP (yfC n) (f+1) [.val (.loc o),.val (.int a),.own (.lst acc)] (hR h o ws k)=some (.nx [.val (.loc o),.val (.int a),.own (.lst vs)],hR h o ws k')
  | none=>whl yeP (yfC n) (f+1) [.val (.loc o),.val (.int a),.own (.lst acc)] (hR h o ws k)=none/\∃ k',yrW yeP (yfC 45) (ymp m) (f+1) [.val (.loc o),.val (.int a),.own (.lst acc)] (hR h o ws k)=some (("NoDeed":Str),hR h o ws k'):=by
 intro f
 induction f with
 | zero =>
  intro acc k h1 h2
  have e:ws[k]?=none:=List.getElem?_eq_none_iff.mpr (by omega)
  unfold mLp
  rw [if_neg (by rw [e];intro z;cases z)]
  show whl _ _ _ _ _=_
  rw [yhi,yAN O (by rw [e];intro z;cases z),yey,if_neg (by decide)]
 | succ f ih =>
  intro acc k h1 h2
  unfold mLp
  by_cases e:ws[k]?=some (";":Str)
  .rw [if_pos e]
   cases q:mp (k+1) with
   | none =>
    obtain ⟨d1,k',d2⟩:=(PR n m (k+1) hn hm).no q
    have d3:=((PR 45 m (k+1) h45 hm).no q).1
    refine ⟨?_,k',?_⟩
    .rw [yhi,yys O e,yey,if_pos rfl,yAP O e d1]
     rfl
    .rw [ykT,yys O e,yey,if_pos rfl,yAP O e d3]
     exact yBn O e d2
   | some q1 =>
    obtain ⟨v,k1⟩:=q1
    have c1:=(PR n m (k+1) hn hm).yes q
    have c2:=(PR 45 m (k+1) h45 hm).yes q
    have m1:=mo _ _ _ q
    have I:=ih (acc++[v]) k1 (by omega) (by rw [length_append,List.length_singleton];omega)
    have w1:whl yeP (yfC n) (f+1+1) [.val (.loc o),.val (.int a),.own (.lst acc)] (hR h o ws k)=whl yeP (yfC n) (f+1) [.val (.loc o),.val (.int a),.own (.lst (acc++[v]))] (hR h o ws k1):=by
     rw [yhi,yys O e,yey,if_pos rfl,yAO O (by omega) e c1]
     rfl
    have w2:yrW yeP (yfC 45) (ymp m) (f+1+1) [.val (.loc o),.val (.int a),.own (.lst acc)] (hR h o ws k)=yrW yeP (yfC 45) (ymp m) (f+1) [.val (.loc o),.val (.int a),.own (.lst (acc++[v]))] (hR h o ws k1):=by
     rw [ykT,yys O e,yey,if_pos rfl,yAO O (by omega) e c2]
     rfl
    rw [w1,w2]
    exact I
  .rw [if_neg e]
   show whl _ _ _ _ _=_
   rw [yhi,yAN O e,yey,if_neg (by decide)]
end
end
def Mo {α:Type}(f:Nat->Option (α×Nat)):Prop:=∀ k v k1,f k=some (v,k1)->k<=k1
section
variable {ws:List Str}{mp:Nat->Option (PV×Nat)}
theorem yqb {w:Str}:Mo (mPa ws w):=by
 intro k v k1 e
 unfold mPa at e
 split at e
 .split at e
  .cases e;omega
  .cases e
 .cases e
theorem yhM:Mo (mSl ws):=by
 intro k v k1 e
 unfold mSl at e
 split at e
 .split at e
  .cases e;omega
  .cases e
 .cases e
theorem yxL:Mo (mNm ws):=by
 intro k v k1 e
 unfold mNm at e
 split at e
 .split at e
  .cases e;omega
  .cases e
 .cases e
theorem yzY:Mo (mNo ws):=by
 intro k v k1 e
 unfold mNo at e
 split at e
 .split at e
  .cases e;omega
  .cases e
 .cases e
theorem yxM (M:Mo mp):∀ (f:Nat) (acc:List PV),Mo (mLp mp ws f acc)
 | 0,_=>fun _ _ _ e=>by cases e
 | f+1,acc=>fun k v k1 e=>by
  unfold mLp at e
  split at e
  .split at e
   .cases e
   .rename_i s1 k2 e1
    have l1:=M _ _ _ e1
    have l2:=yxM M f _ _ _ _ e
    omega
  .cases e;omega
theorem yzZ (M:Mo mp):Mo (mLs mp ws):=by
 intro k v k1 e
 unfold mLs at e
 split at e
 .cases e;omega
 .split at e
  .cases e;omega
  .split at e
   .cases e
   .rename_i s1 k2 e1
    have l1:=M _ _ _ e1
    have l2:=yxM M _ _ _ _ _ e
    omega
theorem yob (M:Mo mp):Mo (mSd mp ws):=by
 intro k v k9 e
 unfold mSd at e
 cases e1:mPa ws "(" k with
 | none=>rw [e1] at e;cases e
 | some q1 =>
 obtain ⟨s1,k1⟩:=q1
 rw [e1] at e
 dsimp only at e
 have l1:=(yqb) _ _ _ e1
 cases e2:mLs mp ws k1 with
 | none=>rw [e2] at e;cases e
 | some q2 =>
 obtain ⟨s2,k2⟩:=q2
 rw [e2] at e
 dsimp only at e
 have l2:=(yzZ M) _ _ _ e2
 cases e3:mPa ws ")" k2 with
 | none=>rw [e3] at e;cases e
 | some q3 =>
 obtain ⟨s3,k3⟩:=q3
 rw [e3] at e
 dsimp only at e
 have l3:=(yqb) _ _ _ e3
 cases e
 omega
theorem yAa (M:Mo mp):Mo (yvC mp ws):=by
 intro k v k9 e
 unfold yvC at e
 cases e1:mSl ws k with
 | none=>rw [e1] at e;cases e
 | some q1 =>
 obtain ⟨s1,k1⟩:=q1
 rw [e1] at e
 dsimp only at e
 have l1:=(yhM) _ _ _ e1
 cases e2:mSd mp ws k1 with
 | none=>rw [e2] at e;cases e
 | some q2 =>
 obtain ⟨s2,k2⟩:=q2
 rw [e2] at e
 dsimp only at e
 have l2:=(yob M) _ _ _ e2
 cases e3:mPa ws "else" k2 with
 | none=>rw [e3] at e;cases e
 | some q3 =>
 obtain ⟨s3,k3⟩:=q3
 rw [e3] at e
 dsimp only at e
 have l3:=(yqb) _ _ _ e3
 cases e4:mSd mp ws k3 with
 | none=>rw [e4] at e;cases e
 | some q4 =>
 obtain ⟨s4,k4⟩:=q4
 rw [e4] at e
 dsimp only at e
 have l4:=(yob M) _ _ _ e4
 cases e
 omega
theorem yqc (M:Mo mp):Mo (yfx mp ws):=by
 intro k v k9 e
 unfold yfx at e
 cases e1:mSd mp ws k with
 | none=>rw [e1] at e;cases e
 | some q1 =>
 obtain ⟨s1,k1⟩:=q1
 rw [e1] at e
 dsimp only at e
 have l1:=(yob M) _ _ _ e1
 cases e2:mPa ws "or" k1 with
 | none=>rw [e2] at e;cases e
 | some q2 =>
 obtain ⟨s2,k2⟩:=q2
 rw [e2] at e
 dsimp only at e
 have l2:=(yqb) _ _ _ e2
 cases e3:mSd mp ws k2 with
 | none=>rw [e3] at e;cases e
 | some q3 =>
 obtain ⟨s3,k3⟩:=q3
 rw [e3] at e
 dsimp only at e
 have l3:=(yob M) _ _ _ e3
 cases e
 omega
theorem yxN (M:Mo mp):Mo (yoa mp ws):=by
 intro k v k9 e
 unfold yoa at e
 cases e1:mSd mp ws k with
 | none=>rw [e1] at e;cases e
 | some q1 =>
 obtain ⟨s1,k1⟩:=q1
 rw [e1] at e
 dsimp only at e
 have l1:=(yob M) _ _ _ e1
 cases e2:mPa ws "on" k1 with
 | none=>rw [e2] at e;cases e
 | some q2 =>
 obtain ⟨s2,k2⟩:=q2
 rw [e2] at e
 dsimp only at e
 have l2:=(yqb) _ _ _ e2
 cases e3:mNm ws k2 with
 | none=>rw [e3] at e;cases e
 | some q3 =>
 obtain ⟨s3,k3⟩:=q3
 rw [e3] at e
 dsimp only at e
 have l3:=(yxL) _ _ _ e3
 cases e4:mSl ws k3 with
 | none=>rw [e4] at e;cases e
 | some q4 =>
 obtain ⟨s4,k4⟩:=q4
 rw [e4] at e
 dsimp only at e
 have l4:=(yhM) _ _ _ e4
 cases e5:mSd mp ws k4 with
 | none=>rw [e5] at e;cases e
 | some q5 =>
 obtain ⟨s5,k5⟩:=q5
 rw [e5] at e
 dsimp only at e
 have l5:=(yob M) _ _ _ e5
 cases e
 omega
theorem yxO:Mo (ysn ws):=by
 intro k v k9 e
 unfold ysn at e
 cases e1:mSl ws k with
 | none=>rw [e1] at e;cases e
 | some q1 =>
 obtain ⟨s1,k1⟩:=q1
 rw [e1] at e
 dsimp only at e
 have l1:=(yhM) _ _ _ e1
 cases e2:mNo ws k1 with
 | none=>rw [e2] at e;cases e
 | some q2 =>
 obtain ⟨s2,k2⟩:=q2
 rw [e2] at e
 dsimp only at e
 have l2:=(yzY) _ _ _ e2
 cases e
 omega
theorem yvh:Mo (yno ws):=by
 intro k v k9 e
 unfold yno at e
 cases e1:mSl ws k with
 | none=>rw [e1] at e;cases e
 | some q1 =>
 obtain ⟨s1,k1⟩:=q1
 rw [e1] at e
 dsimp only at e
 have l1:=(yhM) _ _ _ e1
 cases e2:mSl ws k1 with
 | none=>rw [e2] at e;cases e
 | some q2 =>
 obtain ⟨s2,k2⟩:=q2
 rw [e2] at e
 dsimp only at e
 have l2:=(yhM) _ _ _ e2
 cases e
 omega
theorem yxP:Mo (yso ws):=by
 intro k v k9 e
 unfold yso at e
 cases e1:mSl ws k with
 | none=>rw [e1] at e;cases e
 | some q1 =>
 obtain ⟨s1,k1⟩:=q1
 rw [e1] at e
 dsimp only at e
 have l1:=(yhM) _ _ _ e1
 cases e2:mSl ws k1 with
 | none=>rw [e2] at e;cases e
 | some q2 =>
 obtain ⟨s2,k2⟩:=q2
 rw [e2] at e
 dsimp only at e
 have l2:=(yhM) _ _ _ e2
 cases e
 omega
theorem ysq:Mo (yjs ws):=by
 intro k v k9 e
 unfold yjs at e
 cases e1:mNm ws k with
 | none=>rw [e1] at e;cases e
 | some q1 =>
 obtain ⟨s1,k1⟩:=q1
 rw [e1] at e
 dsimp only at e
 have l1:=(yxL) _ _ _ e1
 cases e2:mSl ws k1 with
 | none=>rw [e2] at e;cases e
 | some q2 =>
 obtain ⟨s2,k2⟩:=q2
 rw [e2] at e
 dsimp only at e
 have l2:=(yhM) _ _ _ e2
 cases e
 omega
theorem yqd {w:Str}:Mo (yfw ws w):=by
 intro k v k9 e
 unfold yfw at e
 cases e1:mSl ws k with
 | none=>rw [e1] at e;cases e
 | some q1 =>
 obtain ⟨s1,k1⟩:=q1
 rw [e1] at e
 dsimp only at e
 have l1:=(yhM) _ _ _ e1
 cases e2:mSl ws k1 with
 | none=>rw [e2] at e;cases e
 | some q2 =>
 obtain ⟨s2,k2⟩:=q2
 rw [e2] at e
 dsimp only at e
 have l2:=(yhM) _ _ _ e2
 cases e3:mSl ws k2 with
 | none=>rw [e3] at e;cases e
 | some q3 =>
 obtain ⟨s3,k3⟩:=q3
 rw [e3] at e
 dsimp only at e
 have l3:=(yhM) _ _ _ e3
 cases e
 omega
theorem yAb {w:Str}:Mo (mPl ws w):=by
 intro k v k1 e
 unfold mPl at e
 split at e
 .exact yxO _ _ _ e
 split at e
 .exact yvh _ _ _ e
 split at e
 .exact yxP _ _ _ e
 split at e
 .exact ysq _ _ _ e
 split at e
 .cases e;omega
 split at e
 .exact yqd _ _ _ e
 .cases e
theorem yAQ:∀ d:Nat,Mo (mP ws d)
 | 0=>fun _ _ _ e=>by cases e
 | d+1=>fun k v k1 e=>by
  have M:=yAQ d
  unfold mP at e
  split at e
  .cases e
  split at e
  .have:=yAa M _ _ _ e;omega
  split at e
  .have:=yqc M _ _ _ e;omega
  split at e
  .have:=yxN M _ _ _ e;omega
  .have:=yAb _ _ _ e;omega
end
section
variable {h:AH}{o:Nat}{ws:List Str}{k:Nat}(O:Wo h o ws) {mp:Nat->Option (PV×Nat)}{N:Nat}{a:Int}
include O
theorem yvi (PR:∀ n m k,N<=n->N<=m->Rd h o ws (yw n [.loc o,.int a] (hR h o ws k)) (yD m [.loc o,.int a] (hR h o ws k)) (mp k) id) (mo:Mo mp) (h45:N<=45):∀ n m k,N<=n->N<=m->Rd h o ws (yJ (n+1) [.loc o,.int a] (hR h o ws k)) (yP (m+1) [.loc o,.int a] (hR h o ws k)) (mLs mp ws k) .lst:=by
 intro n m k hn hm
 unfold yJ yP
 rw [yH,ybN]
 show Rd h o ws (ob (yv _ (yv _ (yv (yiq 100 yeP (yfC n)) _)) [.val (.loc o),.val (.int a),.no] (hR h o ws k)) fnK) (rIf _ _ (yel _ _ (ynd 100 yeP (yfC 45) (ymp m))) [.val (.loc o),.val (.int a),.no] (hR h o ws k)) _ _
 unfold mLs
 cases e:ws[k]? with
 | none =>
  show _=some (PV.lst [],hR h o ws k)
  simp_all? only [id_eq,ybn,ydO,ycU,mR O (m:="ahead") (by rfl'),mR O (m:="part_taken") (by rfl'),yhL O e]
  rw [if_pos (show isN PV.non=true from rfl)]
 | some w =>
  dsimp only
  by_cases z:w = ")"
  .rw [if_pos z]
   have t:(w = ")")=True:=eq_true z
   show _=some (PV.lst [],hR h o ws k)
   simp_all? only [id_eq,ybn,ydO,ycU,mR O (m:="ahead") (by rfl'),mR O (m:="part_taken") (by rfl'),yej O e,t]
   rw [if_neg (by intro z;cases z)]
  .rw [if_neg z]
   have t:(w = ")")=False:=eq_false z
   cases q:mp k with
   | none =>
    obtain ⟨d1,k',d2⟩:=(PR n m k hn hm).no q
    have d3:=((PR 45 m k h45 hm).no q).1
    refine ⟨?_,k',?_⟩
    .simp_all? only [id_eq,ybn,ydO,ycU,mR O (m:="ahead") (by rfl'),mR O (m:="part_taken") (by rfl'),yej O e,t,d1,↓reduceIte]
     rw [if_neg (by intro z;cases z)]
    .simp_all? only [id_eq,ybn,ydO,ycU,mR O (m:="ahead") (by rfl'),mR O (m:="part_taken") (by rfl'),yjp,yif,yjq,yjr,yia,rR O (m:="part_taken") (by rfl'),yej O e,t,d2,d3,↓reduceIte]
     rw [if_neg (by intro z;cases z)]
   | some q1 =>
    obtain ⟨v,k1⟩:=q1
    dsimp only
    have c1:=(PR n m k hn hm).yes q
    have c2:=(PR 45 m k h45 hm).yes q
    have L:=yvg O PR mo hn hm h45 99 [v] k1 (by have:=O.hl;omega) (by simp)
    cases r:mLp mp ws 100 [v] k1 with
    | none =>
     rw [r] at L
     obtain ⟨d1,k',d2⟩:=L
     have d1:yiq 100 yeP (yfC n) [.val (.loc o),.val (.int a),.own (.lst [v])] (hR h o ws k1)=none:=d1
     have d2:ynd 100 yeP (yfC 45) (ymp m) [.val (.loc o),.val (.int a),.own (.lst [v])] (hR h o ws k1)=some (("NoDeed":Str),hR h o ws k'):=d2
     refine ⟨?_,k',?_⟩
     .simp_all? only [id_eq,ybn,ydO,ycU,mR O (m:="ahead") (by rfl'),mR O (m:="part_taken") (by rfl'),yej O e,t,c1,d1,↓reduceIte]
      rw [if_neg (by intro z;cases z)]
     .simp_all? only [id_eq,ybn,ydO,ycU,mR O (m:="ahead") (by rfl'),mR O (m:="part_taken") (by rfl'),yjp,yif,yjq,yjr,yia,rR O (m:="part_taken") (by rfl'),yej O e,t,c2,d2,↓reduceIte]
      rw [if_neg (by intro z;cases z)]
    | some q2 =>
     obtain ⟨vs,k2⟩:=q2
     rw [r] at L
     have d1:yiq 100 yeP (yfC n) [.val (.loc o),.val (.int a),.own (.lst [v])] (hR h o ws k1)=some (.nx [.val (.loc o),.val (.int a),.own (.lst vs)],hR h o ws k2):=L
     show _=some (PV.lst vs,hR h o ws k2)
     simp_all? only [id_eq,ybn,ydO,ycU,mR O (m:="ahead") (by rfl'),mR O (m:="part_taken") (by rfl'),yej O e,t,c1,d1,↓reduceIte]
     rw [if_neg (by intro z;cases z)]
end
local macro_rules | `(tactic| dsimp! only [$ls,*])=>`(tactic| simp_all? only [$(sl_ "id_eq ybn ydO ycU"),*,mR $(Lean.mkIdent `O) (m:="taken") (by rfl'),mR $(Lean.mkIdent `O) (m:="if_taken") (by rfl'),mR $(Lean.mkIdent `O) (m:="either_taken") (by rfl'),mR $(Lean.mkIdent `O) (m:="try_taken") (by rfl'),mR $(Lean.mkIdent `O) (m:="plain_taken") (by rfl'),mR $(Lean.mkIdent `O) (m:="list_taken") (by rfl'),mR $(Lean.mkIdent `O) (m:="ahead") (by rfl'),↓reduceIte,$ls,*])
local macro_rules | `(tactic| dsimp? only [$ls,*])=>`(tactic| dsimp! only [yjp,yif,yjq,yjr,yia,ypY,yhK,yiC,yvB,ysk,rR $(Lean.mkIdent `O) (m:="taken") (by rfl'),rR $(Lean.mkIdent `O) (m:="if_taken") (by rfl'),rR $(Lean.mkIdent `O) (m:="either_taken") (by rfl'),rR $(Lean.mkIdent `O) (m:="try_taken") (by rfl'),rR $(Lean.mkIdent `O) (m:="plain_taken") (by rfl'),rR $(Lean.mkIdent `O) (m:="list_taken") (by rfl'),rR $(Lean.mkIdent `O) (m:="ahead") (by rfl'),$ls,*])
section
variable {h:AH}{o:Nat}{ws:List Str}{k:Nat}(O:Wo h o ws)
include O
theorem ynq {d:Nat}{a:Int}(hd:d<=9) (PR:∀ n m k,4*d+1<=n->4*d+1<=m->Rd h o ws (yw n [.loc o,.int a] (hR h o ws k)) (yD m [.loc o,.int a] (hR h o ws k)) (mP ws d k) id):(∀ n m k,4*d+2<=n->4*d+2<=m->Rd h o ws (yJ n [.loc o,.int a] (hR h o ws k)) (yP m [.loc o,.int a] (hR h o ws k)) (mLs (mP ws d) ws k) .lst)/\(∀ n m k,4*d+3<=n->4*d+3<=m->Rd h o ws (yo n [.loc o,.int a] (hR h o ws k)) (yt m [.loc o,.int a] (hR h o ws k)) (mSd (mP ws d) ws k) .lst):=by
 have LR:∀ n m k,4*d+2<=n->4*d+2<=m->Rd h o ws (yJ n [.loc o,.int a] (hR h o ws k)) (yP m [.loc o,.int a] (hR h o ws k)) (mLs (mP ws d) ws k) .lst:=fun n m k hn hm=>by
  obtain ⟨n,rfl⟩:∃ j,n=j+1:=⟨n-1,by omega⟩
  obtain ⟨m,rfl⟩:∃ j,m=j+1:=⟨m-1,by omega⟩
  exact yvi O PR (yAQ d) (by omega) n m k (by omega) (by omega)
 refine ⟨LR,fun n m k hn hm=>?_⟩
 obtain ⟨n,rfl⟩:∃ j,n=j+1:=⟨n-1,by omega⟩
 obtain ⟨m,rfl⟩:∃ j,m=j+1:=⟨m-1,by omega⟩
 exact yvf O LR (by omega) n m k (by omega) (by omega)
theorem yqe:∀ (d:Nat) (a:Int),a=9-(d:Int)->d<=9->∀ n m k,4*d+1<=n->4*d+1<=m->Rd h o ws (yw n [.loc o,.int a] (hR h o ws k)) (yD m [.loc o,.int a] (hR h o ws k)) (mP ws d k) id
 | 0,a,ea,_,n,m,k,hn,hm=>by
  obtain ⟨n,rfl⟩:∃ j,n=j+1:=⟨n-1,by omega⟩
  obtain ⟨m,rfl⟩:∃ j,m=j+1:=⟨m-1,by omega⟩
  unfold yw yD
  rw [yH,ybN]
  show Rd h o ws (ob (yv _ _ [.val (.loc o),.val (.int a),.no] (hR h o ws k)) fnK) (rIf _ _ _ [.val (.loc o),.val (.int a),.no] (hR h o ws k)) _ _
  have z:((8:Int)<a)=True:=eq_true (by omega)
  refine ⟨?_,k,?_⟩
  .simp_all? only [ybn,ydO,z]
  .simp_all? only [yia,yiC,z]
 | d+1,a,ea,hd,n,m,k,hn,hm=>by
  have h45:4*d+3<=45:=by omega
  obtain ⟨LR,SR⟩:=ynq O (d:=d) (a:=a+1) (by omega) (yqe d (a+1) (by omega) (by omega))
  obtain ⟨n,rfl⟩:∃ j,n=j+1+1:=⟨n-2,by omega⟩
  obtain ⟨m,rfl⟩:∃ j,m=j+1+1:=⟨m-2,by omega⟩
  unfold yw yD
  rw [yH,ybN]
  show Rd h o ws (ob (yv _ _ [.val (.loc o),.val (.int a),.no] (hR h o ws k)) fnK) (rIf _ _ _ [.val (.loc o),.val (.int a),.no] (hR h o ws k)) _ _
  have z:((8:Int)<a)=False:=eq_false (by omega)
  have T:=ygo (k:=k) O
  unfold mP
  cases e:ws[k]? with
  | none =>
   obtain ⟨c1,k',c2⟩:=T.no (ynZ e)
   refine ⟨?_,k',?_⟩
   .dsimp! only [z,c1]
   .dsimp? only [z,c1,c2]
  | some w =>
   have c1:=T.yes (ynY e)
   have l1:=O.len e
   dsimp only
   by_cases z1:w = "if"
   .rw [if_pos z1]
    have t1:(w = "if")=True:=eq_true z1
    cases e2:yvC (mP ws d) ws (k+1) with
    | none =>
     obtain ⟨d1,k',d2⟩:=(yxK O SR h45 n m (k+1) (by omega) (by omega)).no e2
     refine ⟨?_,k',?_⟩
     .dsimp! only [z,t1,c1,d1]
     .dsimp? only [z,t1,c1,d2]
    | some q2 =>
     obtain ⟨v,k2⟩:=q2
     have c2:=(yxK O SR h45 n m (k+1) (by omega) (by omega)).yes e2
     show _=some (_,hR h o ws k2)
     dsimp! only [z,t1,c1,c2]
   .rw [if_neg z1]
    have f1:(w = "if")=False:=eq_false z1
    by_cases z2:w = "either"
    .rw [if_pos z2]
     have t2:(w = "either")=True:=eq_true z2
     cases e2:yfx (mP ws d) ws (k+1) with
     | none =>
      obtain ⟨d1,k',d2⟩:=(ykS O SR h45 n m (k+1) (by omega) (by omega)).no e2
      refine ⟨?_,k',?_⟩
      .dsimp! only [z,f1,t2,c1,d1]
      .dsimp? only [z,f1,t2,c1,d2]
     | some q2 =>
      obtain ⟨v,k2⟩:=q2
      have c2:=(ykS O SR h45 n m (k+1) (by omega) (by omega)).yes e2
      show _=some (_,hR h o ws k2)
      dsimp! only [z,f1,t2,c1,c2]
    .rw [if_neg z2]
     have f2:(w = "either")=False:=eq_false z2
     by_cases z3:w = "try"
     .rw [if_pos z3]
      have t3:(w = "try")=True:=eq_true z3
      cases e2:yoa (mP ws d) ws (k+1) with
      | none =>
       obtain ⟨d1,k',d2⟩:=(yts O SR h45 n m (k+1) (by omega) (by omega)).no e2
       refine ⟨?_,k',?_⟩
       .dsimp! only [z,f1,f2,t3,c1,d1]
       .dsimp? only [z,f1,f2,t3,c1,d2]
      | some q2 =>
       obtain ⟨v,k2⟩:=q2
       have c2:=(yts O SR h45 n m (k+1) (by omega) (by omega)).yes e2
       show _=some (_,hR h o ws k2)
       dsimp! only [z,f1,f2,t3,c1,c2]
     .rw [if_neg z3]
      have f3:(w = "try")=False:=eq_false z3
      cases e2:mPl ws w (k+1) with
      | none =>
       obtain ⟨d1,k',d2⟩:=(ynp (k:=k+1) O l1).no e2
       refine ⟨?_,k',?_⟩
       .dsimp! only [z,f1,f2,f3,c1,d1]
       .dsimp? only [z,f1,f2,f3,c1,d2]
      | some q2 =>
       obtain ⟨v,k2⟩:=q2
       have c2:=(ynp (k:=k+1) O l1).yes e2
       show _=some (_,hR h o ws k2)
       dsimp! only [z,f1,f2,f3,c1,c2]
theorem yjt:∀ n m k,38<=n->38<=m->Rd h o ws (yJ n [.loc o,.int 0] (hR h o ws k)) (yP m [.loc o,.int 0] (hR h o ws k)) (mLs (mP ws 9) ws k) .lst:=(ynq O (d:=9) (a:=0) (by omega) (yqe O 9 0 (by decide) (by omega))).1
end
def ycP (t:Str):List Str:=if t = "" then [] else yom t
def txB (t:Str):Bool:=decide (t.length<=1000) && decide ((ycP t).length<=99) && (ycP t).all fun w=>decide (w.length<=1000)
section
variable {h:AH}{t:Str}{k:Nat}
theorem yhN (hl:t.length<=1000):yeq [.str t] h=some (.lst ((ycP t).map .str),h):=by
 unfold yeq ycP
 rw [yH]
 show ob (yv _ _ [.val (.str t)] h) fnK=_
 by_cases z:t = ""
 .have z1:(t = "")=True:=eq_true z
  simp_all? only [z1,↓reduceIte]
  rfl
 .have z1:(t = "")=False:=eq_false z
  simp_all? only [z1,yuC (show t.length<=100000 by omega),↓reduceIte]
theorem yqf {ws:List Str}{j:Nat}:hR (h++[rdr ws j]) h.length ws k=h++[rdr ws k]:=by
 unfold hR
 simp
theorem ykU {ws:List Str}:ycE [PV.lst (ws.map PV.str)] h=some (rdr ws 0,h):=rfl
theorem yvj (T:txB t=true):t.length<=1000/\Wo (h++[rdr (ycP t) 0]) h.length (ycP t):=by
 unfold txB at T
 simp only [and_eq_true,decide_eq_true_eq,List.all_eq_true] at T
 exact ⟨T.1.1,by simp,T.1.2,T.2⟩
theorem ytt {d:Nd}:(h++[d])[h.length]?=some d:=by simp
theorem mN {ws:List Str}{m:Str}{f:Fn}{as:XA}{ρ:PSt}(hm:decide (m∈(["words","at"]:List Str))=false):mK 10 m f as ρ (.loc h.length) (h++[rdr ws k])=ob (as ρ (h++[rdr ws k])) fun ys h2=>f (.loc h.length::ys) h2:=ydK ytt hm
theorem rN {ws:List Str}{m:Str}{f:FnR}{as:XA}{ρ:PSt}(hm:decide (m∈(["words","at"]:List Str))=false):rKm 10 m f as ρ (.loc h.length) (h++[rdr ws k])=ob (as ρ (h++[rdr ws k])) fun ys h2=>f (.loc h.length::ys) h2:=ytr ytt hm
theorem ysr {ps:List PV}{n:Int}(T:txB t=true) (e:mLs (mP (ycP t) 9) (ycP t) 0=some (ps,(ycP t).length)) (hlong:∀ h,ybA 45 [.lst ps] h=some (.int n,h)) (hn:n+1<=80):ydU [.str t] h=some (.lst ps,h++[rdr (ycP t) (ycP t).length]):=by
 obtain ⟨hl,O⟩:=yvj (h:=h) T
 have c1:=(yjt O 45 45 0 (by omega) (by omega)).yes e
 have c2:=yhL (k:=(ycP t).length) O (List.getElem?_eq_none_iff.mpr (Nat.le_refl _))
 simp only [yqf] at c1 c2
 have z:((80:Int)<n+1)=False:=eq_false (by omega)
 unfold ydU
 rw [yH]
 show ob (yv _ _ [.val (.str t),.no,.no] h) fnK=_
 simp_all? only [yhN hl,ykU,ycU,mN (m:="list_taken") (by rfl'),c1,mN (m:="ahead") (by rfl'),c2,hlong,z,↓reduceIte]
 rw [if_neg (by intro z;cases z)]
theorem yvk (T:txB t=true) (e:mLs (mP (ycP t) 9) (ycP t) 0=none):ydU [.str t] h=none/\∃ k,ydC [.str t] h=some (("NoDeed":Str),h++[rdr (ycP t) k]):=by
 obtain ⟨hl,O⟩:=yvj (h:=h) T
 obtain ⟨c1,k',c2⟩:=(yjt O 45 45 0 (by omega) (by omega)).no e
 simp only [yqf] at c1 c2
 unfold ydU ydC
 rw [yH,ybN]
 show ob (yv _ _ [.val (.str t),.no,.no] h) fnK=none/\∃ k,ypK _ _ [.val (.str t),.no,.no] h=_
 refine ⟨?_,k',?_⟩
 .simp_all? only [ybn,yhN hl,ykU,ycU,mN (m:="list_taken") (by rfl'),c1]
 .simp_all? only [ybn,yhN hl,ykU,ycU,yjp,ypY,yhK,yif,yjq,mN (m:="list_taken") (by rfl'),rN (m:="list_taken") (by rfl'),c1,c2]
theorem yqg {ps:List PV}{k:Nat}(T:txB t=true) (e:mLs (mP (ycP t) 9) (ycP t) 0=some (ps,k)) (hk:decide (k<(ycP t).length)=true):ydU [.str t] h=none/\∃ k,ydC [.str t] h=some (("NoDeed":Str),h++[rdr (ycP t) k]):=by
 obtain ⟨hl,O⟩:=yvj (h:=h) T
 have c1:=(yjt O 45 45 0 (by omega) (by omega)).yes e
 have c2:=yej (k:=k) O (List.getElem?_eq_getElem (of_decide_eq_true hk))
 simp only [yqf] at c1 c2
 unfold ydU ydC
 rw [yH,ybN]
 show ob (yv _ _ [.val (.str t),.no,.no] h) fnK=none/\∃ k,ypK _ _ [.val (.str t),.no,.no] h=_
 refine ⟨?_,k,?_⟩
 .simp_all? only [ybn,ydO,yhN hl,ykU,ycU,mN (m:="list_taken") (by rfl'),c1,mN (m:="ahead") (by rfl'),c2]
  rw [if_pos (by rfl)]
 .simp_all? only [ybn,yhN hl,ykU,ycU,yjp,ypY,yhK,yif,yjq,yjr,yia,yiC,mN (m:="list_taken") (by rfl'),mN (m:="ahead") (by rfl'),c1,c2]
  rw [if_pos (by rfl)]
end
noncomputable def goodT:List Str:=["","let a 7","take a b ; plus a a b ; put b a","wait","throw low c","either ( wait ) or ( put a b )","try ( throw low a ) on low b ( )","if h ( let g 18446744073709551615 ) else ( wait )"]
noncomputable def badT:List Str:=["let","let a","let i 3","take a","hold","wait wait","wait ;"," wait","throw Low a","let a 01","let a 18446744073709551616","if a ( wait )","either ( wait ) or wait","put a 3","; wait"]
def Gd (t:Str) (rows:List PV):Prop:=∃ (ps:List PV) (n:Int),txB t=true/\mLs (mP (ycP t) 9) (ycP t) 0=some (ps,(ycP t).length)/\(∀ h,ybA 45 [.lst ps] h=some (.int n,h))/\n+1<=80/\∀ h,ydr [.lst ps] h=some (.lst rows,h)
def Bd (t:Str):Prop:=txB t=true/\(mLs (mP (ycP t) 9) (ycP t) 0=none\/∃ ps k,mLs (mP (ycP t) 9) (ycP t) 0=some (ps,k)/\decide (k<(ycP t).length)=true)
noncomputable def rowsT:List (List PV):=[
 [.tup [.str "lay"]],
 [.tup [.str "let",.str "a",.int 7],.tup [.str "lay"]],
 [.tup [.str "take",.str "a",.str "b"],.tup [.str "plus",.str "a",.str "a",.str "b"],.tup [.str "put",.str "b",.str "a"],.tup [.str "lay"]],
 [.tup [.str "wait"],.tup [.str "lay"]],
 [.tup [.str "throw",.str "low",.str "c"],.tup [.str "lay"]],
 [.tup [.str "either",.int 4],.tup [.str "wait"],.tup [.str "settle"],.tup [.str "jump",.int 5],.tup [.str "put",.str "a",.str "b"],.tup [.str "lay"]],
 [.tup [.str "guard",.str "low",.str "b",.int 4],.tup [.str "throw",.str "low",.str "a"],.tup [.str "settle"],.tup [.str "jump",.int 4],.tup [.str "lay"]],
 [.tup [.str "unless",.str "h",.int 3],.tup [.str "let",.str "g",.int 18446744073709551615],.tup [.str "jump",.int 4],.tup [.str "wait"],.tup [.str "lay"]]]
theorem yBo:Gd "" (rowsT.getD 0 []):=⟨[],0,by rfl',by kernel_rfl!,fun h=>by kernel_rfl!,by decide,fun h=>by kernel_rfl!⟩
theorem yBp:Gd "let a 7" (rowsT.getD 1 []):=⟨[.ins 1 ["slot","number"] [.str "a",.int 7]],1,by rfl',by kernel_rfl!,fun h=>by kernel_rfl!,by decide,fun h=>by kernel_rfl!⟩
theorem yBq:Gd "take a b ; plus a a b ; put b a" (rowsT.getD 2 []):=⟨[.ins 3 ["slot","place"] [.str "a",.str "b"],.ins 2 ["word","slot","one","other"] [.str "plus",.str "a",.str "a",.str "b"],.ins 4 ["place","slot"] [.str "b",.str "a"]],3,by rfl',by kernel_rfl!,fun h=>by kernel_rfl!,by decide,fun h=>by kernel_rfl!⟩
theorem yBr:Gd "wait" (rowsT.getD 3 []):=⟨[.ins 9 [] []],1,by rfl',by kernel_rfl!,fun h=>by kernel_rfl!,by decide,fun h=>by kernel_rfl!⟩
theorem yBs:Gd "throw low c" (rowsT.getD 4 []):=⟨[.ins 8 ["name","slot"] [.str "low",.str "c"]],1,by rfl',by kernel_rfl!,fun h=>by kernel_rfl!,by decide,fun h=>by kernel_rfl!⟩
theorem yBt:Gd "either ( wait ) or ( put a b )" (rowsT.getD 5 []):=⟨[.ins 6 ["parts","others"] [.lst [.ins 9 [] []],.lst [.ins 4 ["place","slot"] [.str "a",.str "b"]]]],5,by rfl',by kernel_rfl!,fun h=>by kernel_rfl!,by decide,fun h=>by kernel_rfl!⟩
theorem yBu:Gd "try ( throw low a ) on low b ( )" (rowsT.getD 6 []):=⟨[.ins 7 ["parts","name","slot","others"] [.lst [.ins 8 ["name","slot"] [.str "low",.str "a"]],.str "low",.str "b",.lst []]],4,by rfl',by kernel_rfl!,fun h=>by kernel_rfl!,by decide,fun h=>by kernel_rfl!⟩
theorem yBv:Gd "if h ( let g 18446744073709551615 ) else ( wait )" (rowsT.getD 7 []):=⟨[.ins 5 ["slot","parts","others"] [.str "h",.lst [.ins 1 ["slot","number"] [.str "g",.int 18446744073709551615]],.lst [.ins 9 [] []]]],4,by rfl',by kernel_rfl!,fun h=>by kernel_rfl!,by decide,fun h=>by kernel_rfl!⟩
theorem yBw:Bd "let":=⟨by rfl',.inl (by kernel_rfl!)⟩
theorem yBx:Bd "let a":=⟨by rfl',.inl (by kernel_rfl!)⟩
theorem yBy:Bd "let i 3":=⟨by rfl',.inl (by kernel_rfl!)⟩
theorem yBz:Bd "take a":=⟨by rfl',.inl (by kernel_rfl!)⟩
theorem yBA:Bd "hold":=⟨by rfl',.inl (by kernel_rfl!)⟩
theorem yBB:Bd "wait wait":=⟨by rfl',.inr ⟨[.ins 9 [] []],1,by kernel_rfl!,by rfl'⟩⟩
theorem yBC:Bd "wait ;":=⟨by rfl',.inl (by kernel_rfl!)⟩
theorem yBD:Bd " wait":=⟨by rfl',.inl (by kernel_rfl!)⟩
theorem yBE:Bd "throw Low a":=⟨by rfl',.inl (by kernel_rfl!)⟩
theorem yBF:Bd "let a 01":=⟨by rfl',.inl (by kernel_rfl!)⟩
theorem yAc:Bd "let a 18446744073709551616":=⟨by rfl',.inl (by kernel_rfl!)⟩
theorem yAd:Bd "if a ( wait )":=⟨by rfl',.inl (by kernel_rfl!)⟩
theorem yAe:Bd "either ( wait ) or wait":=⟨by rfl',.inl (by kernel_rfl!)⟩
theorem yAf:Bd "put a 3":=⟨by rfl',.inl (by kernel_rfl!)⟩
theorem yAg:Bd "; wait":=⟨by rfl',.inl (by kernel_rfl!)⟩
theorem yvl {t:Str}(ht:t∈badT):Bd t:=by
 unfold badT at ht
 simp only [mem_cons,not_mem_nil,or_false] at ht
 rcases ht with rfl|rfl|rfl|rfl|rfl|rfl|rfl|rfl|rfl|rfl|rfl|rfl|rfl|rfl|rfl
 .exact yBw
 .exact yBx
 .exact yBy
 .exact yBz
 .exact yBA
 .exact yBB
 .exact yBC
 .exact yBD
 .exact yBE
 .exact yBF
 .exact yAc
 .exact yAd
 .exact yAe
 .exact yAf
 .exact yAg
section
variable {h:AH}{t:Str}
theorem yss {rows:List PV}(g:Gd t rows):∃ d,yN ydr (yb (yN ydU (yb (ye 0) yg)) yg) [.val (.str t)] h=some (.lst rows,h++[d]):=by
 obtain ⟨ps,n,g1,g2,g3,g4,g5⟩:=g
 have e:=ysr (h:=h) g1 g2 g3 g4
 refine ⟨rdr (ycP t) (ycP t).length,?_⟩
 simp_all? only [e,g5]
theorem yvm (b:Bd t):yN ydr (yb (yN ydU (yb (ye 0) yg)) yg) [.val (.str t)] h=none/\∃ d,yji ydC (yb (ye 0) yg) [.val (.str t)] h=some (("NoDeed":Str),h++[d]):=by
 have e:ydU [.str t] h=none/\∃ k,ydC [.str t] h=some (("NoDeed":Str),h++[rdr (ycP t) k]):=by
  rcases b.2 with e|⟨ps,k,e,hk⟩
  .exact yvk b.1 e
  .exact yqg b.1 e hk
 obtain ⟨e1,k,e2⟩:=e
 refine ⟨?_,rdr (ycP t) k,?_⟩
 .simp_all? only [ybn,e1]
 .simp_all? only [ysk,e2]
end
def Z8:List Int:=[0,0,0,0,0,0,0,0]
abbrev Fr (h h':AH):Prop:=∀ m,At h m->At h' m
def yjN (t:Str):List PV:=rowsT.getD (goodT.idxOf t) []
theorem yvn {t:Str}(ht:t∈goodT):Gd t (yjN t):=by
 unfold goodT at ht
 simp only [mem_cons,not_mem_nil,or_false] at ht
 unfold yjN
 rcases ht with rfl|rfl|rfl|rfl|rfl|rfl|rfl|rfl
 .rw [show goodT.idxOf ("":Str)=0 by rfl'];exact yBo
 .rw [show goodT.idxOf ("let a 7":Str)=1 by rfl'];exact yBp
 .rw [show goodT.idxOf ("take a b ; plus a a b ; put b a":Str)=2 by rfl'];exact yBq
 .rw [show goodT.idxOf ("wait":Str)=3 by rfl'];exact yBr
 .rw [show goodT.idxOf ("throw low c":Str)=4 by rfl'];exact yBs
 .rw [show goodT.idxOf ("either ( wait ) or ( put a b )":Str)=5 by rfl'];exact yBt
 .rw [show goodT.idxOf ("try ( throw low a ) on low b ( )":Str)=6 by rfl'];exact yBu
 .rw [show goodT.idxOf ("if h ( let g 18446744073709551615 ) else ( wait )":Str)=7 by rfl'];exact yBv
section
variable {h:AH}
theorem Fr.junk {d:Nd}:Fr h (h++[d]):=fun _ A=>A.junk d
theorem At.one {n:Nat}{d:Nd}(e:h[n]?=some d):At h [(n,d)]:=⟨by simp,fun p hp=>by rw [List.mem_singleton.mp hp];exact e⟩
theorem Fr.get {h h':AH}(F:Fr h h') {n:Nat}{d:Nd}(e:h[n]?=some d):h'[n]?=some d:=(F _ (At.one e)).get 0 rfl
theorem ycq {n:Nat}{xs:List PV}(e:h[n]?=some (.lst xs)):ybD [.loc n] h=some (.int xs.length,h):=by
 unfold ybD ymR
 simp only [e]
theorem yqh {α:Type}{n:Nat}{E:XE}{inn:PV->PSt}{f g:α->PV}{l:List α}{P:AH->Prop}(hP:∀ h h',Fr h h'->P h->P h') (hE:∀ h a,a∈l->P h->∃ h',E (inn (f a)) h=some (g a,h')/\Fr h h'):∀ (k i:Nat) (h:AH),h[n]?=some (.lst (l.map f))->P h->i+k=l.length->∃ h',ykD n E inn k i h=some ((l.drop i).map g,h')/\Fr h h'
 | 0,i,h,e,_,hi=>by
  refine ⟨h,?_,fun _ A=>A⟩
  unfold ykD
  simp only [e]
  rw [if_pos (by rw [length_map];omega),List.drop_of_length_le (by omega)]
  rfl
 | k+1,i,h,e,p,hi=>by
  have hlt:i<l.length:=by omega
  obtain ⟨h1,q1,q2⟩:=hE h l[i] (getElem_mem hlt) p
  obtain ⟨h2,q3,q4⟩:=yqh hP hE k (i+1) h1 (Fr.get q2 e) (hP _ _ q2 p) (by omega)
  refine ⟨h2,?_,fun m A=>q4 m (q2 m A)⟩
  unfold ykD
  simp only [e]
  rw [show (l.map f)[i]?=some (f l[i]) by rw [getElem?_map,List.getElem?_eq_getElem hlt];rfl]
  simp only [q1,yey,q3]
  rw [List.drop_eq_getElem_cons hlt]
  rfl
theorem yhl {α:Type}{n:Nat}{E:XE}{f g:α->PV}{l:List α}{P:AH->Prop}(hP:∀ h h',Fr h h'->P h->P h') (hE:∀ h a,a∈l->P h->∃ h',E [.val (f a)] h=some (g a,h')/\Fr h h') (e:h[n]?=some (.lst (l.map f))) (p:P h) (hl:l.length<=10000):∃ h',ycw (ye 0) [] E [.val (.loc n)] h=some (.lst (l.map g),h')/\Fr h h':=by
 obtain ⟨h',q1,q2⟩:=yqh (inn:=yga [] [.val (.loc n)]) hP hE l.length 0 h e p (by omega)
 refine ⟨h',?_,q2⟩
 unfold ycw
 rw [show ye 0 [.val (.loc n)] h=some (.loc n,h) from rfl,yey]
 simp only [e]
 rw [if_pos (by rw [length_map];omega),length_map,q1]
 rfl
theorem yqi {α:Type}{n:Nat}{E:XE}{R:XR}{c:Str}{inn:PV->PSt}{f g:α->PV}{l:List α}{P:AH->Prop}{G:α->Prop}(hP:∀ h h',Fr h h'->P h->P h') (hE:∀ h a,a∈l->G a->P h->∃ h',E (inn (f a)) h=some (g a,h')/\Fr h h')
  (hN:∀ h a,a∈l->¬ G a->P h->E (inn (f a)) h=none/\∃ h',R (inn (f a)) h=some (c,h')/\Fr h h'):∀ (k i:Nat) (h:AH),h[n]?=some (.lst (l.map f))->P h->i+k=l.length->(∃ j a,i<=j/\l[j]?=some a/\¬ G a)->ykD n E inn k i h=none/\∃ h',ykF n E R inn k i h=some (c,h')/\Fr h h'
 | 0,i,h,e,_,hi,hx=>by
  obtain ⟨j,a,h1,h2,_⟩:=hx
  have:=(List.getElem?_eq_some_iff.mp h2).1
  omega
 | k+1,i,h,e,p,hi,hx=>by
  have hlt:i<l.length:=by omega
  have ei:(l.map f)[i]?=some (f l[i]):=by rw [getElem?_map,List.getElem?_eq_getElem hlt];rfl
  by_cases gi:G l[i]
  .obtain ⟨h1,q1,q2⟩:=hE h l[i] (getElem_mem hlt) gi p
   obtain ⟨q3,h2,q4,q5⟩:=yqi hP hE hN k (i+1) h1 (Fr.get q2 e) (hP _ _ q2 p) (by omega) (by
    obtain ⟨j,a,j1,j2,j3⟩:=hx
    refine ⟨j,a,?_,j2,j3⟩
    have:j≠i:=by
     rintro rfl
     rw [List.getElem?_eq_getElem hlt] at j2
     cases j2
     exact j3 gi
    omega)
   refine ⟨?_,h2,?_,fun m A=>q5 m (q2 m A)⟩
   .unfold ykD
    simp only [e,ei,q1,yey,q3,ybn]
   .unfold ykF
    simp only [e,ei,q1,q4]
  .obtain ⟨q1,h1,q2,q3⟩:=hN h l[i] (getElem_mem hlt) gi p
   refine ⟨?_,h1,?_,q3⟩
   .unfold ykD
    simp only [e,ei,q1,ybn]
   .unfold ykF
    simp only [e,ei,q1,q2]
theorem ynr {α:Type}{n:Nat}{E:XE}{R:XR}{c:Str}{f g:α->PV}{l:List α}{P:AH->Prop}{G:α->Prop}(hP:∀ h h',Fr h h'->P h->P h') (hE:∀ h a,a∈l->G a->P h->∃ h',E [.val (f a)] h=some (g a,h')/\Fr h h') (hN:∀ h a,a∈l->¬ G a->P h->E [.val (f a)] h=none/\∃ h',R [.val (f a)] h=some (c,h')/\Fr h h') (e:h[n]?=some (.lst (l.map f))) (p:P h) (hl:l.length<=10000) (hx:∃ a∈l,¬ G a):ycw (ye 0) [] E [.val (.loc n)] h=none/\∃ h',ykG (ye 0) [] E R [.val (.loc n)] h=some (c,h')/\Fr h h':=by
 obtain ⟨a,ha,ga⟩:=hx
 obtain ⟨j,hj,ej⟩:=getElem_of_mem ha
 obtain ⟨q1,h',q2,q3⟩:=yqi (inn:=yga [] [.val (.loc n)]) hP hE hN l.length 0 h e p (by omega) ⟨j,a,by omega,by rw [List.getElem?_eq_getElem hj,ej],ga⟩
 refine ⟨?_,h',?_,q3⟩
 .unfold ycw
  rw [show ye 0 [.val (.loc n)] h=some (.loc n,h) from rfl,yey]
  simp only [e]
  rw [if_pos (by rw [length_map];omega),length_map,q1]
  rfl
 .unfold ykG
  rw [show ye 0 [.val (.loc n)] h=some (.loc n,h) from rfl,yey]
  simp only [e]
  rw [if_pos (by rw [length_map];omega),length_map,q2]
def txs (ds:List Str):Nd:=.lst (ds.map .str)
theorem yxQ (h:AH) {t:Str}(ht:t∈goodT):∃ h',yN ydr (yb (yN ydU (yb (ye 0) yg)) yg) [.val (.str t)] h=some (.lst (yjN t),h')/\Fr h h':=by
 obtain ⟨d,e⟩:=yss (h:=h) (yvn ht)
 exact ⟨_,e,Fr.junk⟩
theorem yBG (h:AH) {t:Str}(ht:t∈badT):yN ydr (yb (yN ydU (yb (ye 0) yg)) yg) [.val (.str t)] h=none/\∃ h',yji ydC (yb (ye 0) yg) [.val (.str t)] h=some (("NoDeed":Str),h')/\Fr h h':=by
 obtain ⟨e1,d,e2⟩:=yvm (h:=h) (yvl ht)
 exact ⟨e1,_,e2,Fr.junk⟩
variable {n:Nat}
theorem ykV {ds:List Str}(hd:∀ t∈ds,t∈goodT) (hl:ds.length<=100) (e:h[n]?=some (txs ds)):∃ h',ybk [.loc n] h=some (.lst (ds.map fun t=>.lst (yjN t)),h')/\Fr h h':=by
 obtain ⟨h',q1,q2⟩:=yhl (f:=PV.str) (g:=fun t=>.lst (yjN t)) (P:=fun _=>True) (fun _ _ _ _=>trivial) (fun h a ha _=>yxQ h (hd a ha)) e trivial (by omega)
 refine ⟨h',?_,q2⟩
 unfold ybk
 rw [yH]
 show ob (ybf (xFz (ycw _ _ _)) [.val (.loc n)] h) fnK=_
 rw [yps,ywO,q1]
 rfl
theorem yst {ds:List Str}(hd:∀ t∈ds,t∈goodT\/t∈badT) (hx:∃ t∈ds,t∉goodT) (hl:ds.length<=100) (e:h[n]?=some (txs ds)):ybk [.loc n] h=none/\∃ h',yce [.loc n] h=some (("NoDeed":Str),h')/\Fr h h':=by
 obtain ⟨q0,h',q1,q2⟩:=ynr (f:=PV.str) (g:=fun t=>.lst (yjN t)) (P:=fun _=>True) (G:=fun t=>t∈goodT) (fun _ _ _ _=>trivial) (fun h a _ ga _=>yxQ h ga) (fun h a ha ga _=>yBG h ((hd a ha).resolve_left ga)) e trivial (by omega) hx
 refine ⟨?_,h',?_,q2⟩
 .unfold ybk
  rw [yH]
  show ob (ybf (xFz (ycw _ _ _)) [.val (.loc n)] h) fnK=_
  rw [yps,ywO,q0]
  rfl
 .unfold yce
  rw [ybN]
  exact q1
end
theorem ymr {α:Type}(f:α->Bool):∀ l:List α,yjf (l.map fun a=>PV.bl (f a))=some (l.map f)
 | []=>rfl
 | a::l=>by
  show yjf (PV.bl (f a)::l.map fun a=>PV.bl (f a))=some (f a::l.map f)
  unfold yjf
  simp only [ymr f l]
  try rfl
theorem ykW {α:Type}(f:α->Bool) (l:List α) (h:AH):yvz [.lst (l.map fun a=>PV.bl (f a))] h=some (.bl (l.any f),h):=by
 unfold yvz ycd
 simp only [ymr]
 rw [List.any_map]
 rfl
theorem ygp {α:Type}(f:α->Bool) (l:List α) (h:AH):yqF [.lst (l.map fun a=>PV.bl (f a))] h=some (.bl (l.all f),h):=by
 unfold yqF ycd
 simp only [ymr]
 rw [List.all_map]
 rfl
section
variable {h:AH}{n:Nat}{hs:List (Nat×List Str)}
noncomputable def HIn (h:AH) (n:Nat) (hs:List (Nat×List Str)):Prop:=h[n]?=some (.lst (hs.map fun p=>.loc p.1))/\∀ p∈hs,h[p.1]?=some (txs p.2)
theorem HIn.fr {h h':AH}(F:Fr h h') (I:HIn h n hs):HIn h' n hs:=⟨F.get I.1,fun p hp=>F.get (I.2 p hp)⟩
theorem yms (I:HIn h n hs) (hl:hs.length<=100):∃ h',ycw (ye 0) [] (xOp (oGt) (xCB (ybD) (yb (ye 0) (yg))) (xC (.int 6))) [.val (.loc n)] h=some (.lst (hs.map fun p=>.bl (decide (6<p.2.length))),h')/\Fr h h' :=
 yhl (P:=fun h=>HIn h n hs) (f:=fun p:Nat×List Str=>.loc p.1) (g:=fun p=>.bl (decide (6<p.2.length))) (fun _ _ F I=>I.fr F) (fun h a ha I=>⟨h,by
  have l1:=ycq (I.2 a ha)
  rw [length_map] at l1
  simp_all? only [l1,Int.ofNat_lt]
  simp only [show ((6:Int)<(a.2.length:Nat))=(6<a.2.length) from propext ⟨fun z=>by omega,fun z=>by omega⟩],fun _ A=>A⟩) I.1 I (by omega)
theorem yqj (I:HIn h n hs) (hl:hs.length<=100) (hn:¬ (1<=hs.length/\hs.length<=8)):yO [.loc n] h=none/\yW [.loc n] h=some (("NoHands":Str),h):=by
 have l0:=ycq I.1
 rw [length_map] at l0
 unfold yO yW
 rw [yH,ybN]
 show ob (yv _ _ [.val (.loc n)] h) fnK=none/\rIf _ _ _ [.val (.loc n)] h=_
 by_cases z:1<=hs.length
 .have z1:((1:Int)<=(hs.length:Nat))=True:=eq_true (by omega)
  have z2:(((hs.length:Nat):Int)<=8)=False:=eq_false (by omega)
  refine ⟨?_,?_⟩
  .simp_all? only [ybn,ydO,l0,z1,z2]
  .simp_all? only [yia,yiC,l0,z1,z2]
 .have z1:((1:Int)<=(hs.length:Nat))=False:=eq_false (by omega)
  refine ⟨?_,?_⟩
  .simp_all? only [ybn,ydO,l0,z1]
  .simp_all? only [yia,yiC,l0,z1]
theorem yoc (I:HIn h n hs) (h1:1<=hs.length) (h8:hs.length<=8) (hx:∃ p∈hs,6<p.2.length):yO [.loc n] h=none/\∃ h',yW [.loc n] h=some (("NoHands":Str),h')/\Fr h h':=by
 have l0:=ycq I.1
 rw [length_map] at l0
 obtain ⟨h',q1,q2⟩:=yms I (by omega)
 have an:hs.any (fun p=>decide (6<p.2.length))=true:=by
  obtain ⟨p,hp,hq⟩:=hx
  exact List.any_eq_true.mpr ⟨p,hp,decide_eq_true hq⟩
 have z1:((1:Int)<=(hs.length:Nat))=True:=eq_true (by omega)
 have z2:(((hs.length:Nat):Int)<=8)=True:=eq_true (by omega)
 unfold yO yW
 rw [yH,ybN]
 show ob (yv _ _ [.val (.loc n)] h) fnK=none/\∃ h',rIf _ _ _ [.val (.loc n)] h=_/\_
 refine ⟨?_,h',?_,q2⟩
 .simp_all? only [ybn,ydO,l0,z1,z2,q1,ykW,an]
 .simp_all? only [yia,yiC,l0,z1,z2,q1,ykW,an]
theorem yqk (I:HIn h n hs) (h1:1<=hs.length) (h8:hs.length<=8) (h6:∀ p∈hs,p.2.length<=6) (hd:∀ p∈hs,∀ t∈p.2,t∈goodT):∃ h',yO [.loc n] h=some (.lst (hs.map fun p=>.lst (p.2.map fun t=>.lst (yjN t))),h')/\Fr h h':=by
 have l0:=ycq I.1
 rw [length_map] at l0
 obtain ⟨k1,q1,q2⟩:=yms I (by omega)
 have an:hs.any (fun p=>decide (6<p.2.length))=false:=List.any_eq_false.mpr fun p hp=>by have:=h6 p hp;simp;omega
 obtain ⟨h',q3,q4⟩:=yhl (E:=yN ybk (yb (ye 0) (yg))) (P:=fun h=>HIn h n hs) (f:=fun p:Nat×List Str=>.loc p.1) (g:=fun p=>.lst (p.2.map fun t=>.lst (yjN t))) (fun _ _ F I=>I.fr F) (fun h a ha I=>ykV (hd a ha) (by have:=h6 a ha;omega) (I.2 a ha)) (I.fr q2).1 (I.fr q2) (by omega)
 have z1:((1:Int)<=(hs.length:Nat))=True:=eq_true (by omega)
 have z2:(((hs.length:Nat):Int)<=8)=True:=eq_true (by omega)
 refine ⟨h',?_,fun m A=>q4 m (q2 m A)⟩
 unfold yO
 rw [yH]
 show ob (yv _ _ [.val (.loc n)] h) fnK=_
 simp_all? only [l0,z1,z2,q1,ykW,an,q3]
theorem yql (I:HIn h n hs) (h1:1<=hs.length) (h8:hs.length<=8) (h6:∀ p∈hs,p.2.length<=6) (hd:∀ p∈hs,∀ t∈p.2,t∈goodT\/t∈badT) (hx:∃ p∈hs,¬ ∀ t∈p.2,t∈goodT):yO [.loc n] h=none/\∃ h',yW [.loc n] h=some (("NoDeed":Str),h')/\Fr h h':=by
 have l0:=ycq I.1
 rw [length_map] at l0
 obtain ⟨k1,q1,q2⟩:=yms I (by omega)
 have an:hs.any (fun p=>decide (6<p.2.length))=false:=List.any_eq_false.mpr fun p hp=>by have:=h6 p hp;simp;omega
 obtain ⟨q0,h',q3,q4⟩:=ynr (E:=yN ybk (yb (ye 0) (yg))) (R:=yji yce (yb (ye 0) (yg))) (P:=fun h=>HIn h n hs) (f:=fun p:Nat×List Str=>.loc p.1) (g:=fun p=>.lst (p.2.map fun t=>.lst (yjN t))) (G:=fun p=>∀ t∈p.2,t∈goodT) (fun _ _ F I=>I.fr F) (fun h a ha ga I=>ykV ga (by have:=h6 a ha;omega) (I.2 a ha)) (fun h a ha ga I=>yst (hd a ha) (by
  refine Classical.byContradiction fun z=>ga fun t ht=>Classical.byContradiction fun y=>z ⟨t,ht,y⟩) (by have:=h6 a ha;omega) (I.2 a ha)) (I.fr q2).1 (I.fr q2) (by omega) hx
 have z1:((1:Int)<=(hs.length:Nat))=True:=eq_true (by omega)
 have z2:(((hs.length:Nat):Int)<=8)=True:=eq_true (by omega)
 unfold yO yW
 rw [yH,ybN]
 show ob (yv _ _ [.val (.loc n)] h) fnK=none/\∃ h',rIf _ _ _ [.val (.loc n)] h=_/\_
 refine ⟨?_,h',?_,fun m A=>q4 m (q2 m A)⟩
 .simp_all? only [ybn,ydO,l0,z1,z2,q1,ykW,an,q0]
 .simp_all? only [yia,yiC,l0,z1,z2,q1,ykW,an,q3]
end
def yju:PV->Bool
 | .int i=>decide (0<=i) && decide (i<18446744073709551616)
 | _=>false
def okK (x:PV):Prop:=(∃ i,x=.int i)\/(∃ b,x=.bl b)\/x=.non\/x=.str "7"\/x=.tup [.int 7]
section
variable {h:AH}{n:Nat}{bx:List PV}
theorem yxR {x:PV}(k:okK x):yde [x] h=some (.bl (yju x),h):=by
 rcases k with ⟨i,rfl⟩|⟨b,rfl⟩|rfl|rfl|rfl
 .have e1:yep [.int i] h=some (.bl true,h):=by kernel_rfl!
  unfold yde yju
  rw [yH]
  show ob (ybf _ [.val (.int i)] h) fnK=_
  by_cases z:0<=i
  .have z1:(0<=i)=True:=eq_true z
   simp_all? only [e1,z1]
   simp [z]
  .have z1:(0<=i)=False:=eq_false z
   simp_all? only [e1,z1]
   simp [z]
 .kernel_rfl!
 .kernel_rfl!
 .kernel_rfl!
 .kernel_rfl!
theorem yvo {x:PV}(k:okK x):yco [x] h=some (.bl (yju x),h):=by
 rcases k with ⟨i,rfl⟩|⟨b,rfl⟩|rfl|rfl|rfl
 .have w1:ygE ycN [.int i,.ty "int"] h=some (.bl true,h):=rfl
  have w2:ygE ycN [.int i,.ty "bool"] h=some (.bl false,h):=rfl
  unfold yco yju
  rw [yH]
  show ob (ybf _ [.val (.int i)] h) fnK=_
  by_cases z:0<=i
  .have z1:(0<=i)=True:=eq_true z
   simp_all? only [w1,w2,z1]
   simp [z]
  .have z1:(0<=i)=False:=eq_false z
   simp_all? only [w1,w2,z1]
   simp [z]
 .kernel_rfl!
 .kernel_rfl!
 .kernel_rfl!
 .kernel_rfl!
theorem yqm (e:h[n]?=some (.lst bx)) (hk:∀ x∈bx,okK x) (hl:bx.length<=100):∃ h',ycw (ye 0) [] (yN yde (yb (ye 0) (yg))) [.val (.loc n)] h=some (.lst (bx.map fun x=>.bl (yju x)),h')/\Fr h h' :=
 yhl (P:=fun _=>True) (f:=fun x:PV=>x) (g:=fun x=>.bl (yju x)) (fun _ _ _ _=>trivial) (fun h a ha _=>⟨h,by
  have e:=yxR (h:=h) (hk a ha)
  simp_all? only [e],fun _ A=>A⟩) (by rw [List.map_id'];exact e) trivial (by omega)
theorem ykX (e:h[n]?=some (.lst bx)) (hk:∀ x∈bx,okK x) (h1:1<=bx.length) (h16:bx.length<=16) (ha:bx.all yju=true):∃ h',ych [.loc n] h=some (.non,h')/\Fr h h':=by
 have l0:=ycq e
 obtain ⟨h',q1,q2⟩:=yqm e hk (by omega)
 have z1:((1:Int)<=(bx.length:Nat))=True:=eq_true (by omega)
 have z2:(((bx.length:Nat):Int)<=16)=True:=eq_true (by omega)
 refine ⟨h',?_,q2⟩
 unfold ych
 rw [yH]
 show ob (yv _ _ [.val (.loc n)] h) fnK=_
 simp_all? only [l0,z1,z2,q1,ygp,ha]
theorem ysu (e:h[n]?=some (.lst bx)) (hk:∀ x∈bx,okK x) (hl:bx.length<=100) (hx:¬ (1<=bx.length/\bx.length<=16/\bx.all yju=true)):ych [.loc n] h=none/\∃ h',ycY [.loc n] h=some (("NoBoxes":Str),h')/\Fr h h':=by
 have l0:=ycq e
 obtain ⟨h',q1,q2⟩:=yqm e hk (by omega)
 unfold ych ycY
 rw [yH,ybN]
 show ob (yv _ _ [.val (.loc n)] h) fnK=none/\∃ h',rIf _ _ _ [.val (.loc n)] h=_/\_
 by_cases z:1<=bx.length
 .have z1:((1:Int)<=(bx.length:Nat))=True:=eq_true (by omega)
  by_cases y:bx.length<=16
  .have z2:(((bx.length:Nat):Int)<=16)=True:=eq_true (by omega)
   have ha:bx.all yju=false:=Bool.eq_false_iff.mpr fun w=>hx ⟨z,y,w⟩
   refine ⟨?_,h',?_,q2⟩
   .simp_all? only [ybn,ydO,l0,z1,z2,q1,ygp,ha]
   .simp_all? only [yia,yiC,l0,z1,z2,q1,ygp,ha]
  .have z2:(((bx.length:Nat):Int)<=16)=False:=eq_false (by omega)
   refine ⟨?_,h,?_,fun _ A=>A⟩
   .simp_all? only [ybn,ydO,l0,z1,z2]
   .simp_all? only [yia,yiC,l0,z1,z2]
 .have z1:((1:Int)<=(bx.length:Nat))=False:=eq_false (by omega)
  refine ⟨?_,h,?_,fun _ A=>A⟩
  .simp_all? only [ybn,ydO,l0,z1]
  .simp_all? only [yia,yiC,l0,z1]
end
structure Pc where
 hd:Nat
 rn:Nat
 hl:Nat
 lg:Nat
 st:Nat
 ls:Nat
 sn:Nat
 sd:Nat
def RCl (w:Int) (rows:List PV) (c:Pc):List (Nat×Nd):=[(c.rn,yxF c.hl w c.lg rows 0 c.sn c.sd),(c.hl,.lst (Z8.map .int)),(c.lg,.ins 11 ["stack","last_seen"] [.loc c.st,.loc c.ls]),(c.ls,.dct [] [])]
def HCl (w:Int) (x:List PV×List PV) (c:Pc) (m:List (Nat×Nd)):List (Nat×Nd):=RCl w x.2 c++(c.hd,ypX x.1 w 0 false Z8 c.rn)::m
section
variable {h:AH}{w:Int}{rows:List PV}
theorem ysv:∃ h' c,ob (yef [.lst rows,.lst (Z8.map .int),.int w] h) (fun d h1=>some (PV.loc h1.length,h1++[d]))=some (.loc (Pc.rn c),h')/\∀ m,At h m->At h' (RCl w rows c++m):=by
 let p1:AH:=h++[Nd.lst (Z8.map .int)]
 let p2:AH:=p1++[Nd.dct [] []]
 let p3:AH:=p2++[Nd.lst [.loc p1.length]]
 let p4:AH:=p3++[Nd.dct [] []]
 let p5:AH:=p4++[Nd.ins 11 ["stack","last_seen"] [.loc p2.length,.loc p3.length]]
 let p6:AH:=p5++[Nd.dct [] []]
 let p7:AH:=p6++[Nd.lst []]
 refine ⟨p7++[yxF h.length w p4.length rows 0 p5.length p6.length],⟨0,p7.length,h.length,p4.length,p2.length,p3.length,p5.length,p6.length⟩,rfl,fun m A=>?_⟩
 have A3:At p3 ((h.length,Nd.lst (Z8.map .int))::m):=((At.new (.lst (Z8.map .int)) (a:=[]) A).junk _).junk _
 have A5:=At.new (.ins 11 ["stack","last_seen"] [.loc p2.length,.loc p3.length]) (a:=[_]) (At.new (.dct [] []) (a:=[_]) A3)
 exact At.new (yxF h.length w p4.length rows 0 p5.length p6.length) (a:=[]) ((At.junk (.dct [] []) A5).junk (.lst []))
def Due (ds:List PV) (rows:List PV):Prop:=0<ds.length/\ds[0]?=some (.lst rows)\/0=ds.length/\rows=[]
theorem yod {n:Nat}{ds:List PV}(f1:ygF [14] "deeds" (.loc n) h=some (.lst ds,h)) (f2:ygF [12,14] "width" (.loc n) h=some (.int w,h)) (f3:ygF [14] "nth" (.loc n) h=some (.int 0,h)) (f5:ygF [14] "before" (.loc n) h=some (.lst (Z8.map .int),h)) (hr:Due ds rows):∃ h' c,ydl [.loc n] h=some (.loc (Pc.rn c),h')/\∀ m,At h m->At h' (RCl w rows c++m):=by
 obtain ⟨h',c',q1,q2⟩:=ysv (h:=h) (w:=w) (rows:=rows)
 refine ⟨h',c',?_,q2⟩
 unfold ydl
 rw [yH]
 show ob (yv _ _ [.val (.loc n),.no] h) fnK=_
 rcases hr with ⟨h1,h2⟩|⟨h1,h2⟩
 .have e1:((0:Int)<(ds.length:Nat))=True:=eq_true (by omega)
  have e3:atI ds 0=some (.lst rows):=yee (j:=0) h2
  have e2:ydw (.lst ds) (.int 0) h=some (.lst rows,h):=by unfold ydw;simp only [e3]
  simp_all? only [f3,f1,f5,f2,e1,e2,e3,q1]
 .have e1:((0:Int)<(ds.length:Nat))=False:=eq_false (by omega)
  subst h2
  simp_all? only [f3,f1,f5,f2,e1,q1]
noncomputable def hv (k:Nat) (ds:List PV) (w:Int):Nd:=.ins 14 ((["deeds","width","nth","sleeps","before"]:List Str).take k) (([.lst ds,.int w,.int 0,.bl false,.lst (Z8.map .int)]:List PV).take k)
theorem yqn {ds rows:List PV}(hr:Due ds rows):∃ h' c,ybw [.loc h.length,.lst ds,.int w] (h++[Nd.ins 14 [] []])=some (.non,h')/\Pc.hd c=h.length/\∀ m,At h m->At h' (HCl w (ds,rows) c m):=by
 have N:∀ {k:AH}{d d':Nd},k[h.length]?=some d->(k.set h.length d')[h.length]?=some d':=fun e=>getElem?_set_self (List.getElem?_eq_some_iff.mp e).1
 have n0:(h++[Nd.ins 14 [] []])[h.length]?=some (hv 0 ds w):=by simp [hv]
 generalize hk0:h++[Nd.ins 14 [] []]=k0 at *
 have s1:∀ ρ,fL [14] "deeds" ρ (.lst ds) (.loc h.length) k0=some (.nx ρ,k0.set h.length (hv 1 ds w)):=fun ρ=>yhJ n0 (by decide) (by kernel_rfl!)
 have n1:=N (d':=hv 1 ds w) n0
 have s2:∀ ρ,fL [12,14] "width" ρ (.int w) (.loc h.length) (k0.set h.length (hv 1 ds w))=some (.nx ρ,(k0.set h.length (hv 1 ds w)).set h.length (hv 2 ds w)):=fun ρ=>yhJ n1 (by decide) (by kernel_rfl!)
 have n2:=N (d':=hv 2 ds w) n1
 rw [List.set_set] at s2 n2
 have s3:∀ ρ,fL [14] "nth" ρ (.int 0) (.loc h.length) (k0.set h.length (hv 2 ds w))=some (.nx ρ,(k0.set h.length (hv 2 ds w)).set h.length (hv 3 ds w)):=fun ρ=>yhJ n2 (by decide) (by kernel_rfl!)
 have n3:=N (d':=hv 3 ds w) n2
 rw [List.set_set] at s3 n3
 have s4:∀ ρ,fL [14] "sleeps" ρ (.bl false) (.loc h.length) (k0.set h.length (hv 3 ds w))=some (.nx ρ,(k0.set h.length (hv 3 ds w)).set h.length (hv 4 ds w)):=fun ρ=>yhJ n3 (by decide) (by kernel_rfl!)
 have n4:=N (d':=hv 4 ds w) n3
 rw [List.set_set] at s4 n4
 have s5:∀ ρ,fL [14] "before" ρ (.lst (Z8.map .int)) (.loc h.length) (k0.set h.length (hv 4 ds w))=some (.nx ρ,(k0.set h.length (hv 4 ds w)).set h.length (hv 5 ds w)):=fun ρ=>yhJ n4 (by decide) (by kernel_rfl!)
 have n5:=N (d':=hv 5 ds w) n4
 rw [List.set_set] at s5 n5
 obtain ⟨h',c',q1,q2⟩:=yod (rows:=rows) (w:=w) (ds:=ds) (fl 0 n5 (by decide) (by rfl') rfl) (fl 1 n5 (by decide) (by rfl') rfl) (fl 2 n5 (by decide) (by rfl') rfl) (fl 4 n5 (by decide) (by rfl') rfl) hr
 have R:∀ m,At h m->At h' (RCl w rows c'++(h.length,hv 5 ds w)::m):=fun m A=>q2 _ (by
  have A1:=At.new (Nd.ins 14 [] []) (a:=[]) A
  rw [hk0] at A1
  exact At.upd (a:=[]) (hv 5 ds w) A1)
 have e0:At h []:=⟨List.nodup_nil,fun p hp=>by simp at hp⟩
 have n6:h'[h.length]?=some (hv 5 ds w):=(R [] e0).get 4 rfl
 have s6:∀ ρ,fL [14] "run" ρ (.loc c'.rn) (.loc h.length) h'=some (.nx ρ,h'.set h.length (ypX ds w 0 false Z8 c'.rn)):=fun ρ=>yhJ n6 (by decide) (by kernel_rfl!)
 refine ⟨_,{ c' with hd:=h.length },?_,rfl,fun m A=>At.upd (a:=RCl w rows c') (ypX ds w 0 false Z8 c'.rn) (R m A)⟩
 have l0:∀ k,ybo [.lst ds] k=some (.lst ds,k):=fun _=>rfl
 unfold ybw
 rw [yH]
 show ob (yv _ _ [.val (.loc h.length),.val (.lst ds),.val (.int w)] k0) fnK=_
 simp_all? only [ytq,l0,s1,s2,s3,s4]
 rw [if_pos (by decide),show PV.lst (repL ((8:Nat):Int).toNat [PV.int 0])=.lst (Z8.map .int) from rfl]
 simp_all? only [ytq,s5,ycU,ydK (m:="new_run") n5 (by rfl'),q1,s6]
def CR (w:Int):List Pc->List (List PV×List PV)->List (Nat×Nd)->List (Nat×Nd)
 | c::cs,x::xs,m=>CR w cs xs (HCl w x c m)
 | _,_,m=>m
theorem yfK:∀ {cs:List Pc}{xs:List (List PV×List PV)}{m:List (Nat×Nd)},CR w cs xs m=CR w cs xs []++m
 | [],_,_=>rfl
 | _::_,[],_=>rfl
 | c::cs,x::xs,m=>by
  show CR w cs xs (HCl w x c m)=CR w cs xs (HCl w x c [])++m
  rw [yfK (m:=HCl w x c m),yfK (m:=HCl w x c [])]
  unfold HCl
  simp
theorem ytu:∀ {cs:List Pc}{xs:List (List PV×List PV)}{m:List (Nat×Nd)}{i:Nat}{c:Pc}{x:List PV×List PV}{p:Nat×Nd},cs[i]?=some c->xs[i]?=some x->p∈HCl w x c []->p∈CR w cs xs m
 | [],_,_,i,_,_,_,e,_,_=>by simp at e
 | _::_,[],_,i,_,_,_,_,e,_=>by simp at e
 | c::cs,x::xs,m,0,c',x',p,e1,e2,hp=>by
  simp at e1 e2
  subst e1 e2
  show p∈CR w cs xs (HCl w x c m)
  rw [yfK]
  refine mem_append_right _ ?_
  unfold HCl at hp ⊢
  rcases List.mem_append.mp hp with z|z
  .exact mem_append_left _ z
  .refine mem_append_right _ ?_
   rcases mem_cons.mp z with z|z
   .rw [z];exact mem_cons_self
   .simp at z
 | c::cs,x::xs,m,i+1,c',x',p,e1,e2,hp=>ytu (cs:=cs) (xs:=xs) (by simpa using e1) (by simpa using e2) hp
def xOf (ds:List Str):List PV×List PV:=(ds.map fun t=>.lst (yjN t),match ds with|[]=>[]|t::_=>yjN t)
theorem yBH:∀ ds:List Str,Due (xOf ds).1 (xOf ds).2
 | []=>.inr ⟨rfl,rfl⟩
 | t::r=>.inl ⟨by simp [xOf],rfl⟩
theorem yqo {n:Nat}{bx:List PV}{ρ:PSt}(hρ:∀ x,yga [1] ρ x=[.val x,.val (.loc n)]):∀ (hs:List (List Str)) (h:AH),h[n]?=some (.lst bx)->∃ h' cs,ylW (ygi 14 ybw (yb (ye 0) (yb (xCB (ybD) (yb (ye 1) (yg))) (yg)))) (yga [1] ρ) (hs.map fun ds=>.lst (ds.map fun t=>.lst (yjN t))) h=some (cs.map fun c=>.loc (Pc.hd c),h')/\cs.length=hs.length/\∀ m,At h m->At h' (CR bx.length cs (hs.map xOf) m)
 | [],h,_=>⟨h,[],rfl,rfl,fun _ A=>A⟩
 | ds::hs,h,e=>by
  obtain ⟨h1,c1,q1,q0,q2⟩:=yqn (h:=h) (w:=bx.length) (yBH ds)
  have e1:h1[n]?=some (.lst bx):=(q2 _ (At.one e)).get 5 rfl
  obtain ⟨h',cs,q3,q4,q5⟩:=yqo hρ hs h1 e1
  refine ⟨h',c1::cs,?_,by rw [length_cons,length_cons,q4],fun m A=>q5 _ (q2 m A)⟩
  have l0:=ycq e
  have mk:ygi 14 ybw (yb (ye 0) (yb (xCB (ybD) (yb (ye 1) (yg))) (yg))) [.val (.lst (ds.map fun t=>.lst (yjN t))),.val (.loc n)] h=some (.loc c1.hd,h1):=by
   have q1:ybw [.loc h.length,.lst (ds.map fun t=>.lst (yjN t)),.int bx.length] (h++[Nd.ins 14 [] []])=some (.non,h1):=q1
   rw [ymg,q0]
   simp_all? only [l0,q1]
  show ob (ygi _ _ _ (yga [1] ρ (.lst (ds.map fun t=>.lst (yjN t)))) h) _=_
  rw [hρ,mk,yey]
  show ob (ylW _ _ (hs.map fun ds=>.lst (ds.map fun t=>.lst (yjN t))) h1) _=_
  rw [q3,yey]
  rfl
end
structure HC where
 H:Nat
 nu:Nat
 ma:Nat
 cr:Nat
 en:Nat
noncomputable def av (k nu ma cr en:Nat):Nd:=.ins 15 ((["numbers","marks","crew","entries"]:List Str).take k) (([.loc nu,.loc ma,.loc cr,.loc en]:List PV).take k)
def zer (n:Nat):List PV:=(replicate n (0:Int)).map .int
theorem yAR (n:Nat):repL ((n:Nat):Int).toNat [PV.int 0]=zer n:=by
 show (replicate n [PV.int 0]).flatten=_
 unfold zer
 rw [List.map_replicate]
 induction n with
 | zero=>rfl
 | succ n ih=>rw [List.replicate_succ,List.replicate_succ,List.flatten_cons,ih];rfl
noncomputable def H5 (g:HC) (bx:List PV) (cs:List Pc):List (Nat×Nd):=[(g.H,yxE g.nu g.ma g.cr g.en),(g.nu,.lst bx),(g.ma,.lst (zer bx.length)),(g.cr,.lst (cs.map fun c=>.loc c.hd)),(g.en,.lst [])]
section
variable {h:AH}{nb nh:Nat}{bx:List PV}{hs:List (Nat×List Str)}
theorem ydi {k:AH}{n:Nat}{xs:List PV}(e:k[n]?=some (.lst xs)):ybo [.loc n] k=some (.lst xs,k):=by
 unfold ybo
 simp only [PX.listOf,e]
theorem yns {k0:AH}(eb:h[nb]?=some (.lst bx)) (hl:bx.length<=100) (A0:∀ m,At h m->At k0 ((h.length,.ins 15 [] [])::m)):∃ k1 k2 nu ma,yeO [15] "numbers" (ye 0) (yfZ (ygZ (ybo) (yb (ye 1) (yg)))) [.val (.loc h.length),.val (.loc nb),.val (.loc nh)] k0=some (.nx [.val (.loc h.length),.val (.loc nb),.val (.loc nh)],k1) /\
  yeO [15] "marks" (ye 0) (yfZ (yjL yry (xFz (ydn (yb (xC (.int 0)) (yg)))) (xCB (ybD) (yb (ye 1) (yg))))) [.val (.loc h.length),.val (.loc nb),.val (.loc nh)] k1=some (.nx [.val (.loc h.length),.val (.loc nb),.val (.loc nh)],k2) /\
  ∀ m,At h m->At k2 ((h.length,av 2 nu ma 0 0)::(nu,.lst bx)::(ma,.lst (zer bx.length))::m):=by
 have e0:At h []:=⟨List.nodup_nil,fun p hp=>by simp at hp⟩
 have A1:∀ m,At h m->At (k0++[Nd.lst bx]) ((h.length,.ins 15 [] [])::(k0.length,.lst bx)::m):=fun m A=>At.new _ (a:=[_]) (A0 m A)
 have s1:∀ ρ,fL [15] "numbers" ρ (.loc k0.length) (.loc h.length) (k0++[Nd.lst bx])=some (.nx ρ,(k0++[Nd.lst bx]).set h.length (av 1 k0.length 0 0 0)):=fun ρ=>yhJ ((A1 [] e0).get 0 rfl) (by decide) (by kernel_rfl!)
 have A2:=fun m A=>At.upd (a:=[]) (av 1 k0.length 0 0 0) (A1 m A)
 have b0:k0[nb]?=some (.lst bx):=(A0 _ (At.one eb)).get 1 rfl
 generalize hnu:k0.length=nu at *
 generalize hk1:(k0++[Nd.lst bx]).set h.length (av 1 nu 0 0 0)=k1 at *
 have A3:∀ m,At h m->At (k1++[Nd.lst (zer bx.length)]) ((h.length,av 1 nu 0 0 0)::(nu,.lst bx)::(k1.length,.lst (zer bx.length))::m):=fun m A=>At.new _ (a:=[_,_]) (A2 m A)
 have s2:∀ ρ,fL [15] "marks" ρ (.loc k1.length) (.loc h.length) (k1++[Nd.lst (zer bx.length)])=some (.nx ρ,(k1++[Nd.lst (zer bx.length)]).set h.length (av 2 nu k1.length 0 0)):=fun ρ=>yhJ ((A3 [] e0).get 0 rfl) (by decide) (by kernel_rfl!)
 have A4:=fun m A=>At.upd (a:=[]) (av 2 nu k1.length 0 0) (A3 m A)
 have b1:k1[nb]?=some (.lst bx):=(A2 _ (At.one eb)).get 2 rfl
 refine ⟨k1,_,nu,k1.length,?_,?_,A4⟩
 .simp_all? only [ytq,ydi b0,hnu,s1]
 .simp_all? only [ytq,ycq b1]
  rw [if_pos (by omega),yAR]
  simp_all? only [ytq,s2]
theorem yxS {k:AH}{a:List (Nat×Nd)}(R:∀ m,At h m->At k (a++m)):Fr h k:=fun m A=>(R m A).sub (List.sublist_append_right a m)
theorem ysw (I:HIn h nh hs) (eb:h[nb]?=some (.lst bx)) (hk:∀ x∈bx,okK x) (h1:1<=bx.length) (h16:bx.length<=16) (ha:bx.all yju=true) (hh1:1<=hs.length) (hh8:hs.length<=8) (h6:∀ p∈hs,p.2.length<=6) (hd:∀ p∈hs,∀ t∈p.2,t∈goodT) :
  ∃ h' g cs,ybb [.loc h.length,.loc nb,.loc nh] (h++[Nd.ins 15 [] []])=some (.non,h')/\HC.H g=h.length/\cs.length=hs.length/\∀ m,At h m->At h' (H5 g bx cs++CR bx.length cs (hs.map fun p=>xOf p.2) m):=by
 have e0:At h []:=⟨List.nodup_nil,fun p hp=>by simp at hp⟩
 have A0:∀ m,At h m->At (h++[Nd.ins 15 [] []]) ((h.length,.ins 15 [] [])::m):=fun m A=>At.new _ (a:=[]) A
 obtain ⟨k0,c0,F0⟩:=ykX (h:=h++[Nd.ins 15 [] []]) (Fr.get Fr.junk eb) hk h1 h16 ha
 obtain ⟨k1,k2,nu,ma,s1,s2,A4⟩:=yns (nh:=nh) eb (by omega) fun m A=>F0 _ (A0 m A)
 have F2:Fr h k2:=yxS (a:=[_,_,_]) A4
 obtain ⟨k3,q1,q2⟩:=yqk (I.fr F2) hh1 hh8 h6 hd
 obtain ⟨k4,cs,q3,q4,q5⟩:=yqo (n:=nb) (bx:=bx) (ρ:=[.val (.loc h.length),.val (.loc nb),.val (.loc nh)]) (fun _=>rfl) (hs.map (·.2)) k3 (Fr.get q2 (F2.get eb))
 have xe:(hs.map (·.2)).map xOf=hs.map fun p=>xOf p.2:=by rw [map_map];rfl
 rw [xe] at q5
 have R4:∀ m,At h m->At k4 ((h.length,av 2 nu ma 0 0)::(nu,.lst bx)::(ma,.lst (zer bx.length))::CR bx.length cs (hs.map fun p=>xOf p.2) m):=fun m A=>by
  have:=q5 _ (q2 _ (A4 m A))
  rw [yfK] at this
  rw [yfK]
  exact this.perm (show ([_,_,_]++(CR bx.length cs (hs.map fun p:Nat×List Str=>xOf p.2) []++m)).Perm (CR bx.length cs (hs.map fun p:Nat×List Str=>xOf p.2) []++([_,_,_]++m)) from List.perm_append_comm_assoc _ _ _)
 have R5:=fun m A=>At.new (Nd.lst (cs.map fun c=>.loc c.hd)) (a:=[_,_,_]) (R4 m A)
 have s3:∀ ρ,fL [15] "crew" ρ (.loc k4.length) (.loc h.length) (k4++[Nd.lst (cs.map fun c=>.loc c.hd)])=some (.nx ρ,(k4++[Nd.lst (cs.map fun c=>.loc c.hd)]).set h.length (av 3 nu ma k4.length 0)):=fun ρ=>yhJ ((R5 [] e0).get 0 rfl) (by decide) (by kernel_rfl!)
 have R6:=fun m A=>At.upd (a:=[]) (av 3 nu ma k4.length 0) (R5 m A)
 generalize hcr:k4.length=cr at *
 generalize (k4++[Nd.lst (cs.map fun c=>PV.loc c.hd)]).set h.length (av 3 nu ma cr 0)=k6 at *
 have R7:=fun m A=>At.new (Nd.lst []) (a:=[_,_,_,_]) (R6 m A)
 have s4:∀ ρ,fL [15] "entries" ρ (.loc k6.length) (.loc h.length) (k6++[Nd.lst []])=some (.nx ρ,(k6++[Nd.lst []]).set h.length (av 4 nu ma cr k6.length)):=fun ρ=>yhJ ((R7 [] e0).get 0 rfl) (by decide) (by kernel_rfl!)
 have R8:=fun m A=>At.upd (a:=[]) (av 4 nu ma cr k6.length) (R7 m A)
 refine ⟨_,⟨h.length,nu,ma,cr,k6.length⟩,cs,?_,rfl,by rw [q4,length_map],fun m A=>R8 m A⟩
 unfold ybb
 rw [yH]
 show ob (yv _ _ [.val (.loc h.length),.val (.loc nb),.val (.loc nh)] (h++[Nd.ins 15 [] []])) fnK=_
 have i1:xIL (yN yO (yb (ye 2) (yg))) [.val (.loc h.length),.val (.loc nb),.val (.loc nh)] k2=some ((hs.map (·.2)).map fun ds=>.lst (ds.map fun t=>.lst (yjN t)),k3):=by
  unfold xIL
  simp_all? only [q1]
  rw [map_map]
  rfl
 have l8:(((hs.map (·.2)).map fun ds=>PV.lst (ds.map fun t=>.lst (yjN t))).length<=100000)=True:=eq_true (by rw [length_map,length_map];omega)
 simp_all? only [c0,s1,s2]
 simp_all? only [ytq,i1,l8,q3,hcr,s3,s4]
theorem ysx (eb:h[nb]?=some (.lst bx)) (hk:∀ x∈bx,okK x) (hl:bx.length<=100) (hx:¬ (1<=bx.length/\bx.length<=16/\bx.all yju=true)):ybb [.loc h.length,.loc nb,.loc nh] (h++[Nd.ins 15 [] []])=none/\∃ h',ybp [.loc h.length,.loc nb,.loc nh] (h++[Nd.ins 15 [] []])=some (("NoBoxes":Str),h')/\Fr h h':=by
 obtain ⟨c1,k,c2,F⟩:=ysu (h:=h++[Nd.ins 15 [] []]) (Fr.get Fr.junk eb) hk hl hx
 unfold ybb ybp
 rw [yH,ybN]
 show ob (yv _ _ [.val (.loc h.length),.val (.loc nb),.val (.loc nh)] (h++[Nd.ins 15 [] []])) fnK=none/\∃ h',yel _ _ _ [.val (.loc h.length),.val (.loc nb),.val (.loc nh)] (h++[Nd.ins 15 [] []])=_/\_
 refine ⟨?_,k,?_,fun m A=>F _ (A.junk _)⟩
 .simp_all? only [ybn,c1]
 .simp_all? only [ybn,yif,yjq,ysk,c1,c2]
theorem ynt {c:Str}(eb:h[nb]?=some (.lst bx)) (hk:∀ x∈bx,okK x) (h1:1<=bx.length) (h16:bx.length<=16) (ha:bx.all yju=true) (hx:∀ k,Fr h k->yO [.loc nh] k=none/\∃ h',yW [.loc nh] k=some (c,h')/\Fr k h'):ybb [.loc h.length,.loc nb,.loc nh] (h++[Nd.ins 15 [] []])=none/\∃ h',ybp [.loc h.length,.loc nb,.loc nh] (h++[Nd.ins 15 [] []])=some (c,h')/\Fr h h':=by
 have A0:∀ m,At h m->At (h++[Nd.ins 15 [] []]) ((h.length,.ins 15 [] [])::m):=fun m A=>At.new _ (a:=[]) A
 obtain ⟨k0,c0,F0⟩:=ykX (h:=h++[Nd.ins 15 [] []]) (Fr.get Fr.junk eb) hk h1 h16 ha
 obtain ⟨k1,k2,nu,ma,s1,s2,A4⟩:=yns (nh:=nh) eb (by omega) fun m A=>F0 _ (A0 m A)
 have F2:Fr h k2:=yxS (a:=[_,_,_]) A4
 obtain ⟨q1,k3,q2,F3⟩:=hx k2 F2
 unfold ybb ybp
 rw [yH,ybN]
 show ob (yv _ _ [.val (.loc h.length),.val (.loc nb),.val (.loc nh)] (h++[Nd.ins 15 [] []])) fnK=none/\∃ h',yel _ _ _ [.val (.loc h.length),.val (.loc nb),.val (.loc nh)] (h++[Nd.ins 15 [] []])=_/\_
 have i1:xIL (yN yO (yb (ye 2) (yg))) [.val (.loc h.length),.val (.loc nb),.val (.loc nh)] k2=none:=by
  unfold xIL
  simp_all? only [ybn,q1]
 refine ⟨?_,k3,?_,fun m A=>F3 _ (F2 _ A)⟩
 .simp_all? only [c0,s1,s2]
  simp_all? only [ybn,ytq,i1]
 .simp_all? only [yif,yjr,ypY,yhK,c0,s1,s2]
  simp_all? only [ysk,q2]
end
section
variable {h:AH}{g:HC}{bx:List PV}{cs:List Pc}{w:Int}{xs:List (List PV×List PV)}{m:List (Nat×Nd)}
theorem At.mem {p:Nat×Nd}(A:At h m) (hp:p∈m):h[p.1]?=some p.2:=A.2 p hp
variable (A:At h (H5 g bx cs++CR w cs xs m))
include A
theorem ysy:ydV [.loc g.H] h=some (.lst bx,h):=by
 obtain ⟨f1,f2,f3,f4⟩:=ykP (A.get 0 rfl)
 unfold ydV
 rw [yH]
 show ob (ybf _ [.val (.loc g.H)] h) fnK=_
 simp_all? only [f1,ydi (A.get 1 rfl)]
theorem yqp:ydB [.loc g.H] h=some (.lst (zer bx.length),h):=by
 obtain ⟨f1,f2,f3,f4⟩:=ykP (A.get 0 rfl)
 unfold ydB
 rw [yH]
 show ob (ybf _ [.val (.loc g.H)] h) fnK=_
 simp_all? only [f2,ydi (A.get 2 rfl)]
theorem yqq:ydW [.loc g.H] h=some (.int cs.length,h):=by
 obtain ⟨f1,f2,f3,f4⟩:=ykP (A.get 0 rfl)
 have l0:=ycq (A.get 3 rfl)
 rw [length_map] at l0
 unfold ydW
 rw [yH]
 show ob (ybf _ [.val (.loc g.H)] h) fnK=_
 simp_all? only [f3,l0]
theorem yoe:ydm [.loc g.H] h=some (.lst [],h):=by
 obtain ⟨f1,f2,f3,f4⟩:=ykP (A.get 0 rfl)
 have e:h[g.en]?=some (.lst []):=A.get 4 rfl
 unfold ydm
 rw [yH]
 show ob (ybf (xFz (ycw _ _ _)) [.val (.loc g.H)] h) fnK=_
 rw [yps,ywO]
 unfold ycw
 simp_all? only [f4]
 simp only [e]
 rw [if_pos (by decide)]
 show ob (ob (ykD _ _ _ 0 0 h) _) _=_
 unfold ykD
 simp only [e]
 rfl
theorem yfy {i:Nat}{c:Pc}(ec:cs[i]?=some c):ybX [.loc g.H,.int (i:Nat)] h=some (.loc c.hd,h):=by
 obtain ⟨f1,f2,f3,f4⟩:=ykP (A.get 0 rfl)
 have hi:i<cs.length:=(List.getElem?_eq_some_iff.mp ec).1
 have l0:=ycq (A.get 3 rfl)
 rw [length_map] at l0
 have e1:yep [.int (i:Nat)] h=some (.bl true,h):=by kernel_rfl!
 have z1:((0:Int)<=(i:Nat))=True:=eq_true (by omega)
 have z2:(((i:Nat):Int)<(cs.length:Nat))=True:=eq_true (by omega)
 have e2:ydw (.loc g.cr) (.int (i:Nat)) h=some (.loc c.hd,h):=by
  unfold ydw
  simp only [A.get 3 rfl]
  rw [yee (show (cs.map fun c=>PV.loc c.hd)[i]?=some (.loc c.hd) by rw [getElem?_map,ec];rfl)]
 unfold ybX
 rw [yH]
 show ob (yv _ _ [.val (.loc g.H),.val (.int (i:Nat))] h) fnK=_
 simp_all? only [f3,l0,e1,z1,z2,e2]
variable {i:Nat}{c:Pc}{x:List PV×List PV}(ec:cs[i]?=some c) (ex:xs[i]?=some x)
include ec ex
theorem yhm:h[c.hd]?=some (ypX x.1 w 0 false Z8 c.rn)/\h[c.rn]?=some (yxF c.hl w c.lg x.2 0 c.sn c.sd)/\h[c.hl]?=some (.lst (Z8.map .int))/\h[c.lg]?=some (.ins 11 ["stack","last_seen"] [.loc c.st,.loc c.ls])/\h[c.ls]?=some (.dct [] []):=by
 have M:∀ (j:Nat) (n:Nat) (d:Nd),(HCl w x c [])[j]?=some (n,d)->h[n]?=some d:=fun j n d e=>A.mem (p:=(n,d)) (mem_append_right _ (ytu ec ex (mem_of_getElem? e)))
 exact ⟨M 4 _ _ rfl,M 0 _ _ rfl,M 1 _ _ rfl,M 2 _ _ rfl,M 3 _ _ rfl⟩
theorem ysz:ydY [.loc g.H,.int (i:Nat)] h=some (.int 0,h):=by
 obtain ⟨d1,d2,d3,d4,d5⟩:=yhm A ec ex
 obtain ⟨f1,f2,f3,f4,f5,f6⟩:=ynm d1
 unfold ydY
 rw [yH]
 show ob (ybf _ [.val (.loc g.H),.val (.int (i:Nat))] h) fnK=_
 simp_all? only [ycU,ydK (m:="hand_at") (A.get 0 rfl) (by rfl'),yfy A ec,f3]
theorem ysA:ydX [.loc g.H,.int (i:Nat)] h=some (.str (if x.1.length=0 then "ended" else "awake"),h):=by
 obtain ⟨d1,d2,d3,d4,d5⟩:=yhm A ec ex
 obtain ⟨f1,f2,f3,f4,f5,f6⟩:=ynm d1
 have st:ydT [.loc c.hd] h=some (.str (if x.1.length=0 then "ended" else "awake"),h):=by
  unfold ydT
  rw [yH]
  show ob (yv _ _ [.val (.loc c.hd)] h) fnK=_
  by_cases z:x.1.length=0
  .have z1:((0:Int)=(x.1.length:Nat))=True:=eq_true (by omega)
   rw [if_pos z]
   simp_all? only [f1,f3,z1]
  .have z1:((0:Int)=(x.1.length:Nat))=False:=eq_false (by omega)
   rw [if_neg z]
   simp_all? only [f1,f3,f4,z1]
 unfold ydX
 rw [yH]
 show ob (ybf _ [.val (.loc g.H),.val (.int (i:Nat))] h) fnK=_
 simp_all? only [ycU,ydK (m:="hand_at") (A.get 0 rfl) (by rfl'),yfy A ec,ydK (m:="state") d1 (by rfl'),st]
theorem ysB:ydZ [.loc g.H,.int (i:Nat)] h=some (.lst (Z8.map .int),h):=by
 obtain ⟨d1,d2,d3,d4,d5⟩:=yhm A ec ex
 obtain ⟨f1,f2,f3,f4,f5,f6⟩:=ynm d1
 obtain ⟨r1,r2,r3,r4,r5,r6,r7⟩:=yxG d2
 unfold ydZ
 rw [yH]
 show ob (ybf _ [.val (.loc g.H),.val (.int (i:Nat))] h) fnK=_
 simp_all? only [ycU,ydK (m:="hand_at") (A.get 0 rfl) (by rfl'),yfy A ec,f6,r1,ydi d3]
theorem yxT:yfu [.loc g.H,.int (i:Nat)] h=some (.lst [],h):=by
 obtain ⟨d1,d2,d3,d4,d5⟩:=yhm A ec ex
 obtain ⟨f1,f2,f3,f4,f5,f6⟩:=ynm d1
 obtain ⟨r1,r2,r3,r4,r5,r6,r7⟩:=yxG d2
 have l1:ygF [11] "last_seen" (.loc c.lg) h=some (.loc c.ls,h):=fl 1 d4 (by decide) (by rfl') rfl
 have sw:ygl [.loc c.lg] h=some (.lst [],h):=by
  unfold ygl
  rw [yH]
  show ob (ybf (xFz (yky _)) [.val (.loc c.lg)] h) fnK=_
  rw [yps,ywO]
  unfold yky
  simp_all? only [l1]
  unfold ypv
  simp only [d5]
  rfl
 unfold yfu
 rw [yH]
 show ob (ybf _ [.val (.loc g.H),.val (.int (i:Nat))] h) fnK=_
 simp_all? only [ycU,ydK (m:="hand_at") (A.get 0 rfl) (by rfl'),yfy A ec,f6,r3,ydK (m:="saw") d4 (by rfl'),sw]
end
theorem ynu {n i:Nat}{x:PV}(e:(yfF 0 n)[i]?=some x):i<n/\x=.int (i:Nat):=by
 unfold yfF at e
 rw [getElem?_map] at e
 by_cases hi:i<n
 .rw [List.getElem?_range hi] at e
  cases e
  exact ⟨hi,by show PV.int (0+(i:Int))=_;rw [Int.zero_add]⟩
 .rw [getElem?_eq_none (by simpa using hi)] at e
  cases e
theorem yfS {n:Nat}:(yfF 0 n).length=n:=by unfold yfF;simp
section
variable {h:AH}
theorem yjv {xs:List PV}{i:Nat}{x:PV}(e:xs[i]?=some x):ydw (.lst xs) (.int (i:Nat)) h=some (x,h):=by
 unfold ydw
 simp only [yee e]
theorem yqr {n:Nat}{xs:List PV}{i:Nat}{x:PV}(en:h[n]?=some (.lst xs)) (e:xs[i]?=some x):ydw (.loc n) (.int (i:Nat)) h=some (x,h):=by
 unfold ydw
 simp only [en,yee e]
theorem yiD {ys:List Int}{due:PV}(hl:ys.length<=100) (l1:ybD [due] h=some (.int ys.length,h)) (ix:∀ (i:Nat) (v:Int),ys[i]?=some v->ydw due (.int (i:Nat)) h=some (.int v,h)):yX [.lst (ys.map .int),due] h=some (.bl true,h):=by
 unfold yX
 rw [yH]
 show ob (yv _ (yv (yoj (yjb (yb (xCB ybD (yb (ye 1) yg)) yg)) (yz 2) nmB) _) [.val (.lst (ys.map .int)),.val due,.no] h) fnK=_
 have w0:ygE ycN [.lst (ys.map .int),.ty "list"] h=some (.bl true,h):=rfl
 have ir:yjb (yb (xCB ybD (yb (ye 1) yg)) yg) [.val (.lst (ys.map .int)),.val due,.no] h=some (yfF 0 ys.length,h):=by
  refine (ykv (j:=(ys.length:Int)) (h1:=h) ?_ (by omega) (by omega))
  simp_all? only [l1]
 have lm:(((ys.map PV.int).length:Nat):Int)=ys.length:=by rw [length_map]
 simp_all? only [w0,l1,lm,ir]
 refine yku (fun i ρ h1=>h1=h/\∃ v,ρ=[.val (.lst (ys.map .int)),.val due,v]) ⟨rfl,.no,rfl⟩ ?_ ?_
 .intro i x ρ h1 hx ⟨e1,v,e2⟩
  subst e1;subst e2
  obtain ⟨hi,rfl⟩:=ynu hx
  refine ⟨_,[.val (.lst (ys.map .int)),.val due,.val (.int (i:Nat))],h1,rfl,.inl ?_,rfl,_,rfl⟩
  have ei:ys[i]?=some ys[i]:=List.getElem?_eq_getElem hi
  have a1:ydw (.lst (ys.map .int)) (.int (i:Nat)) h1=some (.int ys[i],h1):=yjv (by rw [getElem?_map,ei];rfl)
  have a3:atI (ys.map PV.int) ((i:Nat):Int)=some (.int ys[i]):=yee (by rw [getElem?_map,ei];rfl)
  have a2:=ix i _ ei
  have w1:ygE ycN [.int ys[i],.ty "int"] h1=some (.bl true,h1):=rfl
  have w2:ygE ycN [.int ys[i],.ty "bool"] h1=some (.bl false,h1):=rfl
  generalize ys[i]=y at *
  unfold nmB
  simp_all? only [a1,a2,a3,w1,w2]
 .intro ρ h1 ⟨e1,v,e2⟩
  subst e1;subst e2
  symm
theorem yeC {ys:List Int}(hl:ys.length<=100):yX [.lst (ys.map .int),.lst (ys.map .int)] h=some (.bl true,h):=yiD hl (by rw [show ybD [.lst (ys.map .int)] h=some (.int (ys.map PV.int).length,h) from rfl,length_map]) fun i v e=>yjv (by rw [getElem?_map,e];rfl)
theorem ymt {ys:List Int}{n:Nat}(hl:ys.length<=100) (e:h[n]?=some (.lst (ys.map .int))):yX [.lst (ys.map .int),.loc n] h=some (.bl true,h):=yiD hl (by rw [ycq e,length_map]) fun i v ei=>yqr e (by rw [getElem?_map,ei];rfl)
end
section
variable {h:AH}{g:HC}{ys:List Int}{cs:List Pc}{w:Int}{dss:List (List Str)}{ls:List Nat}{m:List (Nat×Nd)}{nb:Nat}
theorem yxU (A:At h (H5 g (ys.map .int) cs++CR w cs (dss.map xOf) m)) {i n:Nat}{c:Pc}{ds:List Str}{v4:PVar}(ec:cs[i]?=some c) (ed:dss[i]?=some ds) (en:ls[i]?=some n) (el:h[n]?=some (txs ds)) :
  ∃ d',stB [.val (.loc g.H),.val (.loc nb),.val (.lst (ls.map .loc)),.val (.int (i:Nat)),v4] h=some (.nx [.val (.loc g.H),.val (.loc nb),.val (.lst (ls.map .loc)),.val (.int (i:Nat)),d'],h):=by
 have ex:(dss.map xOf)[i]?=some (xOf ds):=by rw [getElem?_map,ed];rfl
 have s1:=ysA A ec ex
 have lx:(xOf ds).1.length=ds.length:=by simp [xOf]
 rw [lx] at s1
 have s2:=ysz A ec ex
 have s3:=ysB A ec ex
 have s4:=yxT A ec ex
 have a1:ydw (.lst (ls.map .loc)) (.int (i:Nat)) h=some (.loc n,h):=yjv (by rw [getElem?_map,en];rfl)
 have a2:atI (ls.map PV.loc) ((i:Nat):Int)=some (.loc n):=yee (by rw [getElem?_map,en];rfl)
 have l0:=ycq el
 rw [length_map] at l0
 have hH:=A.get 0 rfl
 have n1:=yeC (h:=h) (ys:=[0]) (by decide)
 have n1:yX [.lst [.int 0],.lst [.int 0]] h=some (.bl true,h):=n1
 have n2:=yeC (h:=h) (ys:=Z8) (by decide)
 have nd:ymX (.lst []) (.lst []) h=some (.bl false,h):=rfl
 have r8:repL ((8:Int)).toNat [PV.int 0]=Z8.map .int:=rfl
 refine ⟨.val (.str (if ds.length=0 then "ended" else "awake")),?_⟩
 unfold stB
 by_cases z:ds.length=0
 .have z1:(((ds.length:Nat):Int)=0)=True:=eq_true (by omega)
  rw [if_pos z] at s1 ⊢
  simp_all? only [a1,a2,l0,z1,ycU,ydK (m:="state") hH (by rfl'),ydK (m:="which") hH (by rfl'),ydK (m:="slots") hH (by rfl'),ydK (m:="saw") hH (by rfl'),s1,s2,s3,s4,n1,nd]
  rw [if_pos (by decide),show repL 8 [PV.int 0]=Z8.map .int from rfl]
  simp_all? only [n2,ycU,ydK (m:="saw") hH (by rfl'),s4,nd]
 .have z1:(((ds.length:Nat):Int)=0)=False:=eq_false (by omega)
  rw [if_neg z] at s1 ⊢
  simp_all? only [a1,a2,l0,z1,ycU,ydK (m:="state") hH (by rfl'),ydK (m:="which") hH (by rfl'),ydK (m:="slots") hH (by rfl'),ydK (m:="saw") hH (by rfl'),s1,s2,s3,s4,n1,nd]
  rw [if_pos (by decide),show repL 8 [PV.int 0]=Z8.map .int from rfl]
  simp_all? only [n2,ycU,ydK (m:="saw") hH (by rfl'),s4,nd]
theorem yqs (A:At h (H5 g (ys.map .int) cs++CR w cs (dss.map xOf) m)) (hc:cs.length=dss.length) (hl:ls.length=dss.length) (h8:dss.length<=100) (hy:ys.length<=100) (eb:h[nb]?=some (.lst (ys.map .int))) (el:∀ (i n:Nat) (ds:List Str),ls[i]?=some n->dss[i]?=some ds->h[n]?=some (txs ds)):ycG [.loc g.H,.loc nb,.lst (ls.map .loc)] h=some (.bl true,h):=by
 have hH:=A.get 0 rfl
 have t1:=ysy A
 have t2:=yqp A
 have t3:=yqq A
 have t4:=yoe A
 have n1:=ymt hy eb
 have n2:=yeC (h:=h) (ys:=replicate ys.length 0) (by simpa using hy)
 have n3:=yeC (h:=h) (ys:=[(dss.length:Int)]) (by simp)
 have n3:yX [.lst [.int dss.length],.lst [.int dss.length]] h=some (.bl true,h):=n3
 have nd:ymX (.lst []) (.lst []) h=some (.bl false,h):=rfl
 have l0:=ycq eb
 rw [length_map] at l0 t2
 rw [hc] at t3
 have l1:((ls.map PV.loc).length:Nat)=dss.length:=by rw [length_map,hl]
 unfold ycG
 rw [yH]
 show ob (yv _ (yv _ (yv (yoj (yjb (yb (xCB ybD (yb (ye 2) yg)) yg)) (yz 3) stB) _)) [.val (.loc g.H),.val (.loc nb),.val (.lst (ls.map .loc)),.no,.no] h) fnK=_
 have ir:yjb (yb (xCB ybD (yb (ye 2) yg)) yg) [.val (.loc g.H),.val (.loc nb),.val (.lst (ls.map .loc)),.no,.no] h=some (yfF 0 dss.length,h):=by
  refine (ykv (j:=(dss.length:Int)) (h1:=h) ?_ (by omega) (by omega))
  show some ([PV.int ((ls.map PV.loc).length:Nat)],h)=_
  rw [l1]
 simp_all? only [ycU,ydK (m:="boxes") hH (by rfl'),ydK (m:="stamps") hH (by rfl'),t1,n1,t2,l0]
 rw [if_pos (by omega),yAR]
 unfold zer
 simp_all? only [n2,ycU,ydK (m:="hands") hH (by rfl'),ydK (m:="journal") hH (by rfl'),t3,t4,l1,n3,nd,ir]
 refine yku (fun i ρ h1=>h1=h/\∃ u v,ρ=[.val (.loc g.H),.val (.loc nb),.val (.lst (ls.map .loc)),u,v]) ⟨rfl,.no,.no,rfl⟩ ?_ ?_
 .intro i x ρ h1 hx ⟨e1,u,v,e2⟩
  subst e1;subst e2
  obtain ⟨hi,rfl⟩:=ynu hx
  obtain ⟨d',q⟩:=yxU (nb:=nb) (v4:=v) A (List.getElem?_eq_getElem (show i<cs.length by omega)) (List.getElem?_eq_getElem hi) (List.getElem?_eq_getElem (show i<ls.length by omega)) (el i _ _ (List.getElem?_eq_getElem (show i<ls.length by omega)) (List.getElem?_eq_getElem hi))
  exact ⟨_,_,h1,rfl,.inl q,rfl,_,_,rfl⟩
 .intro ρ h1 ⟨e1,u,v,e2⟩
  subst e1;subst e2
  symm
end
section
variable {h:AH}
theorem ykY {α:Type}{n:Nat}{E:XE}{inn:PV->PSt}{f g:α->PV}{l:List α}(e:h[n]?=some (.lst (l.map f))) (hE:∀ a∈l,E (inn (f a)) h=some (g a,h)):∀ (k i:Nat),i+k=l.length->ykD n E inn k i h=some ((l.drop i).map g,h)
 | 0,i,hi=>by
  unfold ykD
  simp only [e]
  rw [if_pos (by rw [length_map];omega),List.drop_of_length_le (by omega)]
  rfl
 | k+1,i,hi=>by
  have hlt:i<l.length:=by omega
  have q3:=ykY e hE k (i+1) (by omega)
  unfold ykD
  simp only [e]
  rw [show (l.map f)[i]?=some (f l[i]) by rw [getElem?_map,List.getElem?_eq_getElem hlt];rfl]
  simp only [hE _ (getElem_mem hlt),yey,q3]
  rw [List.drop_eq_getElem_cons hlt]
  rfl
theorem yof {α:Type}{n:Nat}{E:XE}{f g:α->PV}{l:List α}{ρ:PSt}(e:h[n]?=some (.lst (l.map f))) (hE:∀ a∈l,E [.val (f a)] h=some (g a,h)) (hl:l.length<=10000):ycw (ye 0) [] E (.val (.loc n)::ρ) h=some (.lst (l.map g),h):=by
 unfold ycw
 rw [show ye 0 (.val (.loc n)::ρ) h=some (.loc n,h) from rfl,yey]
 simp only [e]
 rw [if_pos (by rw [length_map];omega),length_map,ykY (inn:=yga [] (.val (.loc n)::ρ)) e hE l.length 0 (by omega)]
 rfl
theorem ykZ {α:Type}{c:XT}{e:XE}{inn:PV->PSt}{f:α->PV}{p:α->Bool}:∀ {l:List α},(∀ a∈l,c (inn (f a)) h=some (p a,h))->(∀ a∈l,e (inn (f a)) h=some (f a,h))->yuz c e inn (l.map f) h=some ((l.filter p).map f,h)
 | [],_,_=>rfl
 | a::l,hc,he=>by
  have ih:=ykZ (l:=l) (fun b hb=>hc b (mem_cons_of_mem _ hb)) fun b hb=>he b (mem_cons_of_mem _ hb)
  show ob (c (inn (f a)) h) _=_
  rw [hc a mem_cons_self,yey]
  cases q:p a with
  | true =>
   rw [if_pos rfl,he a mem_cons_self,yey,ih,yey,List.filter_cons_of_pos q]
   rfl
  | false=>rw [if_neg (by decide),ih,List.filter_cons_of_neg (by rw [q];decide)]
def ymu (t:Str):Bool:=inV (.str t) (badT.map .str)
theorem yxV {t:Str}(ht:t∈badT):ymu t=true:=by
 have:∀ t∈badT,ymu t=true:=by rfl'
 exact this t ht
theorem yxW {t:Str}(ht:t∈goodT):ymu t=false:=by
 have:∀ t∈goodT,ymu t=false:=by rfl'
 exact this t ht
theorem yxX {t:Str}:yxe false (.str t) (.lst (badT.map .str)) h=some (.bl (ymu t),h):=rfl
def rD (nb:Nat) (x:PV) (u v:PVar):PSt:=[.val (.loc nb),.val x,.val (.lst (badT.map .str)),u,v]
variable {nb n:Nat}{x:PV}
theorem yqt {ds:List Str}{u:PVar}(e:h[n]?=some (txs ds)):∀ (k i:Nat) (v:PVar),i+k=ds.length->(if (ds.drop i).any ymu=true then ynR n false (yz 4) duI k i (rD nb x u v) h=some (.rt (.str "NoDeed"),h) else ∃ v',ynR n false (yz 4) duI k i (rD nb x u v) h=some (.nx (rD nb x u v'),h))
 | 0,i,v,hi=>by
  rw [List.drop_of_length_le (by omega),if_neg (by decide)]
  refine ⟨v,?_⟩
  unfold ynR
  simp only [e,txs]
  rw [if_pos (by rw [length_map];omega)]
 | k+1,i,v,hi=>by
  have hlt:i<ds.length:=by omega
  have ih:=yqt (u:=u) e k (i+1) (.val (.str ds[i])) (by omega)
  have ei:(ds.map PV.str)[i]?=some (.str ds[i]):=by rw [getElem?_map,List.getElem?_eq_getElem hlt];rfl
  rw [List.drop_eq_getElem_cons hlt,any_cons]
  unfold ynR
  simp only [e,txs]
  rw [show (if false=true then k else i)=i from rfl,ei]
  simp only [show ∀ t:Str,yz 4 (.str t) (rD nb x u v)=some (rD nb x u (.val (.str t))) from fun _=>rfl,bind_some]
  have sb:∀ t:Str,duI (rD nb x u (.val (.str t))) h=if ymu t=true then some (.rt (.str "NoDeed"),h) else some (.nx (rD nb x u (.val (.str t))),h):=fun t=>by
   unfold duI rD
   simp_all? only [yxX]
  simp only [sb]
  cases q:ymu ds[i] with
  | true=>simp only [Bool.true_or,↓reduceIte];rfl
  | false =>
   simp only [Bool.false_or,Bool.false_eq_true,↓reduceIte,yey]
   exact ih
theorem ysC {l:List (Nat×List Str)}(el:∀ p∈l,h[p.1]?=some (txs p.2)):∀ (u v:PVar),(if (l.any fun p=>p.2.any ymu)=true then yid (yz 3) duO (l.map fun p=>.loc p.1) (rD nb x u v) h=some (.rt (.str "NoDeed"),h) else ∃ u' v',yid (yz 3) duO (l.map fun p=>.loc p.1) (rD nb x u v) h=some (.nx (rD nb x u' v'),h)):=by
 induction l with
 | nil=>exact fun u v=>⟨u,v,rfl⟩
 | cons p l ih =>
  intro u v
  have ih:=ih fun q hq=>el q (mem_cons_of_mem _ hq)
  have I:=yqt (nb:=nb) (x:=x) (u:=.val (.loc p.1)) (el p mem_cons_self) p.2.length 0 v (by omega)
  rw [List.drop_zero] at I
  rw [any_cons,map_cons,yti]
  show if _ then ob (duO (rD nb x (.val (.loc p.1)) v) h) _=_ else ∃ u' v',ob (duO (rD nb x (.val (.loc p.1)) v) h) _=_
  have eo:duO (rD nb x (.val (.loc p.1)) v) h=ynR p.1 false (yz 4) duI p.2.length 0 (rD nb x (.val (.loc p.1)) v) h:=by
   unfold duO yrT
   show ob (some (PV.loc p.1,h)) _=_
   rw [yey]
   simp only [el p mem_cons_self,txs,length_map]
  rw [eo]
  cases q:p.2.any ymu with
  | true =>
   rw [q,if_pos rfl] at I
   rw [I]
   simp only [Bool.true_or,↓reduceIte]
   rfl
  | false =>
   rw [q,if_neg (by decide)] at I
   obtain ⟨v',I⟩:=I
   rw [I,yey]
   simp only [Bool.false_or]
   exact ih _ v'
end
def bxB (bx:List PV):Bool:=decide (1<=bx.length) && decide (bx.length<=16) && bx.all yju
noncomputable def hsB (dss:List (List Str)):Bool:=decide (1<=dss.length) && decide (dss.length<=8) && !(dss.any fun ds=>decide (6<ds.length))
def ysD (bx:List PV) (dss:List (List Str)):Str:=if bxB bx=true then (if hsB dss=true then (if (dss.any fun ds=>ds.any ymu)=true then "NoDeed" else "") else "NoHands") else "NoBoxes"
section
variable {h:AH}{nb:Nat}{bx:List PV}{l:List (Nat×List Str)}
theorem yxY (eb:h[nb]?=some (.lst bx)) (hk:∀ x∈bx,okK x) (hb:bx.length<=100) (el:∀ p∈l,h[p.1]?=some (txs p.2)) (hl:l.length<=100):yfv [.loc nb,.lst (l.map fun p=>.loc p.1)] h=some (.str (ysD bx (l.map (·.2))),h):=by
 have l0:=ycq eb
 have c1:∀ ρ,ycw (ye 0) [] (yN yco (yb (ye 0) (yg))) (.val (.loc nb)::ρ) h=some (.lst (bx.map fun x=>.bl (yju x)),h):=fun ρ=>yof (f:=fun x:PV=>x) (g:=fun x=>.bl (yju x)) (by rw [List.map_id'];exact eb) (fun a ha=>by
  have e:=yvo (h:=h) (hk a ha)
  simp_all? only [e]) (by omega)
 have c2:∀ ρ,yuz (yy (xOp (oGt) (xCB (ybD) (yb (ye 0) (yg))) (xC (.int 6)))) (ye 0) (yga [] ρ) (l.map fun p=>PV.loc p.1) h=some ((l.filter fun p=>decide (6<p.2.length)).map fun p=>.loc p.1,h):=fun ρ=>ykZ (fun a ha=>by
  have e:=ycq (el a ha)
  rw [length_map] at e
  show yy _ [.val (.loc a.1)] h=_
  simp_all? only [e]
  simp only [show ((6:Int)<(a.2.length:Nat))=(6<a.2.length) from propext ⟨fun z=>by omega,fun z=>by omega⟩]) fun a _=>rfl
 have c3:∀ ρ,ylW (yN ybZ (yb (ye 0) (yg))) (yga [] ρ) (yfF 0 15) h=some (badT.map .str,h):=fun ρ=>by kernel_rfl!
 have r15:∀ ρ,yjb (yb (xC (.int 15)) (yg)) ρ h=some (yfF 0 15,h):=fun ρ=>by kernel_rfl!
 have n15:((yfF 0 15).length<=100000)=True:=eq_true (by rw [yfS];omega)
 have i1:∀ ρ:PSt,xIL (ye 1) (.val (.loc nb)::.val (.lst (l.map fun p=>.loc p.1))::ρ) h=some (l.map fun p=>.loc p.1,h):=fun _=>yAG rfl
 have lf:(((l.filter fun p=>decide (6<p.2.length)).map fun p=>PV.loc p.1).length:Nat)=(l.filter fun p=>decide (6<p.2.length)).length:=length_map _
 have lm:((l.map fun p=>PV.loc p.1).length:Nat)=l.length:=length_map _
 have lt:((l.map fun p=>PV.loc p.1).length<100000)=True:=eq_true (by rw [lm];omega)
 have c4:∀ ρ:PSt,ykz (xIL (ye 1)) [] (yy (xOp (oGt) (xCB (ybD) (yb (ye 0) (yg))) (xC (.int 6)))) (ye 0) (.val (.loc nb)::.val (.lst (l.map fun p=>.loc p.1))::ρ) h=some (.lst ((l.filter fun p=>decide (6<p.2.length)).map fun p=>.loc p.1),h):=fun ρ=>by
  unfold ykz
  rw [i1,yey,if_pos (by rw [lm];omega),c2,yey]
 have an:(l.map (·.2)).any (fun ds=>decide (6<ds.length))=l.any fun p=>decide (6<p.2.length):=by rw [List.any_map];rfl
 have al:(l.map (·.2)).any (fun ds=>ds.any ymu)=l.any fun p=>p.2.any ymu:=by rw [List.any_map];rfl
 have L:=ysC (nb:=nb) (x:=.lst (l.map fun p=>.loc p.1)) el .no .no
 unfold yfv
 rw [yH]
 show ob (yv _ (yv _ (yv (ybM (xFz _) _) (yv (yoj (xIL (ye 1)) (yz 3) duO) _))) [.val (.loc nb),.val (.lst (l.map fun p=>.loc p.1)),.no,.no,.no] h) fnK=_
 unfold ysD bxB
 by_cases z1:1<=bx.length
 .have y1:((1:Int)<=(bx.length:Nat))=True:=eq_true (by omega)
  by_cases z2:bx.length<=16
  .have y2:(((bx.length:Nat):Int)<=16)=True:=eq_true (by omega)
   cases z3:bx.all yju with
   | true =>
    rw [if_pos (by simp [z1,z2])]
    unfold hsB
    rw [length_map,an,al]
    by_cases w1:1<=l.length
    .have x1:((1:Int)<=(l.length:Nat))=True:=eq_true (by omega)
     by_cases w2:l.length<=8
     .have x2:(((l.length:Nat):Int)<=8)=True:=eq_true (by omega)
      cases w3:l.any fun p=>decide (6<p.2.length) with
      | true =>
       rw [if_neg (by simp)]
       have g0:((0:Int)<((l.filter fun p=>decide (6<p.2.length)).length:Nat))=True:=eq_true (by
        obtain ⟨p,hp,hq⟩:=List.any_eq_true.mp w3
        have:=List.length_pos_of_mem (List.mem_filter (p:=fun p:Nat×List Str=>decide (6<p.2.length)) |>.mpr ⟨hp,hq⟩)
        omega)
       simp_all? only [l0,y1,y2,c1,ygp,z3,lm,x1,x2,c4,lf,g0]
      | false =>
       rw [if_pos (by simp [w1,w2])]
       have g0:((0:Int)<((l.filter fun p=>decide (6<p.2.length)).length:Nat))=False:=eq_false (by
        have:(l.filter fun p=>decide (6<p.2.length))=[]:=List.filter_eq_nil_iff.mpr fun p hp q=>by
         have:=List.any_eq_false.mp w3 p hp
         exact this q
        rw [this];simp)
       cases w4:l.any fun p=>p.2.any ymu with
       | true =>
        rw [w4,if_pos rfl] at L
        have L:yid (yz 3) duO (l.map fun p=>.loc p.1) [.val (.loc nb),.val (.lst (l.map fun p=>.loc p.1)),.val (.lst (badT.map .str)),.no,.no] h=some (.rt (.str "NoDeed"),h):=L
        simp_all? only [l0,y1,y2,c1,ygp,z3,lm,x1,x2,c4,lf,g0,r15,n15,c3,i1,L,↓reduceIte]
       | false =>
        rw [w4,if_neg (by decide)] at L
        obtain ⟨u',v',L⟩:=L
        have L:yid (yz 3) duO (l.map fun p=>.loc p.1) [.val (.loc nb),.val (.lst (l.map fun p=>.loc p.1)),.val (.lst (badT.map .str)),.no,.no] h=some (.nx (rD nb (.lst (l.map fun p=>.loc p.1)) u' v'),h):=L
        simp_all? only [l0,y1,y2,c1,ygp,z3,lm,x1,x2,c4,lf,g0,r15,n15,c3,i1,L,↓reduceIte]
     .have x2:(((l.length:Nat):Int)<=8)=False:=eq_false (by omega)
      rw [if_neg (by simp [w2])]
      simp_all? only [l0,y1,y2,c1,ygp,z3,lm,x1,x2]
    .have x1:((1:Int)<=(l.length:Nat))=False:=eq_false (by omega)
     rw [if_neg (by simp [w1])]
     simp_all? only [l0,y1,y2,c1,ygp,z3,lm,x1]
   | false =>
    rw [if_neg (by simp)]
    simp_all? only [l0,y1,y2,c1,ygp,z3]
  .have y2:(((bx.length:Nat):Int)<=16)=False:=eq_false (by omega)
   rw [if_neg (by simp [z2])]
   simp_all? only [l0,y1,y2]
 .have y1:((1:Int)<=(bx.length:Nat))=False:=eq_false (by omega)
  rw [if_neg (by simp [z1])]
  simp_all? only [l0,y1]
end
section
variable {h:AH}{nb nh:Nat}{bx:List PV}{hs:List (Nat×List Str)}
theorem ysE {c:Str}(hc:c∈(["NoBoxes","NoHands","NoDeed"]:List Str)):yfg [.exc c] h=some (.lst [.str c],h):=by
 simp only [mem_cons,not_mem_nil,or_false] at hc
 rcases hc with rfl|rfl|rfl<;>kernel_rfl!
theorem yxZ {cs:List Str}{i:Nat}{r:XR}{b s:XS}{ρ ρ':PSt}{h':AH}(e:b ρ h=some (.nx ρ',h')):yjj cs i r b s ρ h=some (.nx ρ',h'):=by
 unfold yjj
 rw [e]
theorem yya {cs:List Str}{i:Nat}{r:XR}{b s:XS}{ρ ρ':PSt}{c:Str}{h1 h2:AH}(e:b ρ h=none) (er:r ρ h=some (c,h1)) (hc:c∈cs) (es:s (ρ.set i (.val (.exc c))) h1=some (.nx ρ',h2)):yjj cs i r b s ρ h=some (.nx (ρ'.set i .no),h2):=by
 unfold yjj
 rw [e]
 show yxo cs i r s ρ h=_
 unfold yxo
 rw [er]
 show (if c∈cs then _ else _)=_
 rw [if_pos hc,es]
theorem yyb {h':AH}(e:ybb [.loc h.length,.loc nb,.loc nh] (h++[Nd.ins 15 [] []])=some (.non,h')):ycy [.loc nb,.loc nh] h=some (.tup [.lst [],.loc h.length],h'):=by
 unfold ycy
 rw [yH]
 show ob (yv _ (yv _ (yv (yjj _ 4 _ _ _) _)) [.val (.loc nb),.val (.loc nh),.no,.no,.no] h) fnK=_
 symm
 rw [yxZ (ρ':=[.val (.loc nb),.val (.loc nh),.val .non,.val (.loc h.length),.no]) (h':=h') (by
  rw [show ∀ (a:XE) (i:Nat) (ρ:PSt) (h:AH),ybM a (yz i) ρ h=ybM a (yz i) ρ h from fun _ _ _ _=>rfl]
  simp_all? only [ymg,e])]
 symm
 rfl
theorem yqu {c:Str}{h':AH}(hc:c∈(["NoBoxes","NoHands","NoDeed"]:List Str)) (e:ybb [.loc h.length,.loc nb,.loc nh] (h++[Nd.ins 15 [] []])=none) (er:ybp [.loc h.length,.loc nb,.loc nh] (h++[Nd.ins 15 [] []])=some (c,h')):ycy [.loc nb,.loc nh] h=some (.tup [.lst [.str c],.non],h'):=by
 unfold ycy
 rw [yH]
 show ob (yv _ (yv _ (yv (yjj _ 4 _ _ _) _)) [.val (.loc nb),.val (.loc nh),.no,.no,.no] h) fnK=_
 symm
 rw [yya (c:=c) (h1:=h') (h2:=h') (ρ':=[.val (.loc nb),.val (.loc nh),.val (.exc c),.val .non,.val (.exc c)]) (by
  simp_all? only [ymg,ybn,e]) (by
  unfold yuD
  simp_all? only [er]) hc (by rfl)]
 simp_all? only [ysE hc]
 rw [if_neg (by intro z;cases z)]
end
section
variable {h:AH}{ns:List Int}
theorem ydE (k:Nat):yL [.scr ns,.int (k:Nat)] h=some (.int (ns.getD k 0),h):=by
 unfold yL
 rw [yH]
 show ob (yv _ _ [.val (.scr ns),.val (.int (k:Nat))] h) fnK=_
 by_cases e:k<ns.length
 .have e1:(((k:Nat):Int)<(ns.length:Nat))=True:=eq_true (by omega)
  have e3:atI ns (k:Nat)=some (ns.getD k 0):=yee (by rw [List.getElem?_eq_getElem e,List.getD_eq_getElem?_getD,List.getElem?_eq_getElem e];rfl)
  have e2:ydw (.scr ns) (.int (k:Nat)) h=some (.int (ns.getD k 0),h):=by
   unfold ydw
   simp only [e3]
  simp_all? only [e1,e2,e3]
 .have e1:(((k:Nat):Int)<(ns.length:Nat))=False:=eq_false (by omega)
  rw [show ns.getD k 0=0 by rw [List.getD_eq_getElem?_getD,getElem?_eq_none (by omega)];rfl]
  simp_all? only [e1]
def yyc (c:Int):Int:=if c%3=1 then c/3%5 else if c%3=2 then 18446744073709551616-1-c/3%5 else c/3%18446744073709551616
theorem yla (c:Int):ycn [.int c] h=some (.int (yyc c),h):=by
 unfold ycn
 rw [yH]
 show ob (yv _ _ [.val (.int c),.no] h) fnK=_
 symm
 unfold yyc
 split
 .rfl
 .split<;>rfl
theorem ycJ (a:Int) {b:Int}(h:0<b):0<=a%b/\a%b<b:=⟨Int.emod_nonneg a (by omega),Int.emod_lt_of_pos a h⟩
theorem yvp {a b:Int}(j:Int) (h0:0<=j) (h2:j<2):∃ v,atI [PV.int a,PV.int b] j=some (.int v)/\(v=a\/v=b):=by
 rcases (show j=0\/j=1 by omega) with rfl|rfl
 .exact ⟨a,rfl,.inl rfl⟩
 .exact ⟨b,rfl,.inr rfl⟩
theorem yyd {ρ:PSt}(hρ:∀ x,yga [0] ρ x=[.val x,.val (.scr ns)]) (n:Nat):ylW (yN ycn (yb (yN yL (yb (ye 1) (yb (xOp yfR (xC (.int 4)) (ye 0)) (yg)))) (yg))) (yga [0] ρ) (yfF 0 n) h=some ((List.range n).map fun k=>.int (yyc (ns.getD (4+k) 0)),h):=by
 have e:yfF 0 n=(List.range n).map fun k=>PV.int ((k:Nat):Int):=by
  unfold yfF
  refine List.map_congr_left fun k _=>?_
  show PV.int (0+(k:Int))=_
  rw [Int.zero_add]
 rw [e]
 refine ymd (f:=fun k:Nat=>PV.int ((k:Nat):Int)) (g:=fun k=>PV.int (yyc (ns.getD (4+k) 0))) fun k _=>?_
 rw [hρ]
 have c1:=ydE (h:=h) (ns:=ns) (4+k)
 rw [show (((4+k:Nat)):Int)=4+(k:Int) by omega] at c1
 simp_all? only [c1,yla]
noncomputable def yAh (mx:Int):List PV:=[.int (-1),.int 18446744073709551616,.int (-1-mx),.int (18446744073709551616+mx*mx),.bl true,.bl false,.non,.str "7",.tup [.int 7]]
theorem yAi {mx:Int}(h0:0<=mx):∃ x,atI (yAh mx) (mx/100%9)=some x/\okK x:=by
 have hk:=ycJ (mx/100) (show (0:Int)<9 by decide)
 generalize mx/100%9=k at *
 rcases (show k=0\/k=1\/k=2\/k=3\/k=4\/k=5\/k=6\/k=7\/k=8 by omega) with rfl|rfl|rfl|rfl|rfl|rfl|rfl|rfl|rfl
 .exact ⟨_,rfl,.inl ⟨_,rfl⟩⟩
 .exact ⟨_,rfl,.inl ⟨_,rfl⟩⟩
 .exact ⟨_,rfl,.inl ⟨_,rfl⟩⟩
 .exact ⟨_,rfl,.inl ⟨_,rfl⟩⟩
 .exact ⟨_,rfl,.inr (.inl ⟨_,rfl⟩)⟩
 .exact ⟨_,rfl,.inr (.inl ⟨_,rfl⟩)⟩
 .exact ⟨_,rfl,.inr (.inr (.inl rfl))⟩
 .exact ⟨_,rfl,.inr (.inr (.inr (.inl rfl)))⟩
 .exact ⟨_,rfl,.inr (.inr (.inr (.inr rfl)))⟩
theorem yjw {eo ei ev:XE}{ρ:PSt}{x:PV}{n j:Nat}{xs:List PV}(e1:ev ρ h=some (x,h)) (e2:eo ρ h=some (.loc n,h)) (e3:ei ρ h=some (.int (j:Nat),h)) (en:h[n]?=some (.lst xs)) (hj:j<xs.length):ymb eo ei ev ρ h=some (.nx ρ,h.set n (.lst (xs.set j x))):=by
 have e':ixN xs.length (j:Nat)=some j:=by
  unfold ixN
  simp [hj]
 unfold ymb
 rw [e1,yey,e2,yey,e3,yey]
 simp only [en,e']
theorem ysF:∃ bx,yea [.scr ns] h=some (.loc h.length,h++[Nd.lst bx])/\bx.length<=18/\∀ x∈bx,okK x:=by
 have c0:=ydE (h:=h) (ns:=ns) 0
 have c1:=fun h=>ydE (h:=h) (ns:=ns) 1
 generalize ns.getD 0 0=a at *
 generalize ns.getD 1 0=b at *
 have c0:yL [.scr ns,.int 0] h=some (.int a,h):=c0
 have c1:∀ h,yL [.scr ns,.int 1] h=some (.int b,h):=c1
 obtain ⟨v,p1,p2⟩:=yvp (a:=1+a/4%16) (b:=a/4%19) (a%4/3) (by have:=ycJ a (show (0:Int)<4 by decide);omega) (by have:=ycJ a (show (0:Int)<4 by decide);omega)
 obtain ⟨n,rfl,hn⟩:∃ n:Nat,v=n/\n<=18:=by
  have:=ycJ (a/4) (show (0:Int)<16 by decide)
  have:=ycJ (a/4) (show (0:Int)<19 by decide)
  exact ⟨v.toNat,by omega,by omega⟩
 have ir:∀ ρ:PSt,yjb (yb (ye 1) (yg)) (.val (.scr ns)::.val (.int (n:Nat))::ρ) h=some (yfF 0 n,h):=fun ρ=>(ykv (j:=(n:Int)) (h1:=h) rfl (by omega) (by omega)).trans (by simp)
 have cm:=fun ρ=>yyd (h:=h) (ns:=ns) (ρ:=.val (.scr ns)::ρ) (fun _=>rfl) n
 have lr:((yfF 0 n).length<=100000)=True:=eq_true (by rw [yfS];omega)
 generalize hbx:(List.range n).map (fun k=>PV.int (yyc (ns.getD (4+k) 0)))=bx at *
 have hl:bx.length=n:=by rw [<- hbx];simp
 have hk:∀ x∈bx,okK x:=fun x hx=>by
  rw [<- hbx] at hx
  obtain ⟨k,_,rfl⟩:=List.mem_map.mp hx
  exact .inl ⟨_,rfl⟩
 unfold yea
 rw [yH]
 show ∃ bx,ob (yv _ _ [.val (.scr ns),.no,.no,.no,.no] h) fnK=_/\_
 generalize hm:b*48271%2147483647=mx at *
 by_cases z:0<n/\mx%5=0
 .have z1:((0:Int)<(n:Nat))=True:=eq_true (by omega)
  have z2:(mx%5=0)=True:=eq_true z.2
  have hmx:=ycJ (b*48271) (show (0:Int)<2147483647 by decide)
  rw [hm] at hmx
  obtain ⟨x,px,kx⟩:=yAi hmx.1
  obtain ⟨j,hj,jn⟩:∃ j:Nat,mx/5%(n:Int)=j/\j<n:=⟨(mx/5%(n:Int)).toNat,by have:=ycJ (mx/5) (show (0:Int)<n by omega);omega,by have:=ycJ (mx/5) (show (0:Int)<n by omega);omega⟩
  refine ⟨bx.set j x,?_,by rw [length_set];omega,fun y hy=>?_⟩
  .simp_all? only [c0,p1,ir,lr,cm,c1,hm,z1,z2]
   rw [if_pos (show PX.MulOk mx mx from Or.inl ⟨by omega,by omega⟩),yjw (x:=x) (j:=j) (xs:=bx) (n:=h.length) (by
    have px:atI [PV.int (-1),PV.int 18446744073709551616,PV.int (-1-mx),PV.int (18446744073709551616+mx*mx),PV.bl true,PV.bl false,PV.non,PV.str "7",PV.tup [PV.int 7]] (mx/100%9)=some x:=px
    simp_all? only [px]) rfl (by
    simp_all? only [hj]
    rw [if_pos (by omega)]) (by simp) (by omega)]
   symm
   simp
  .rcases List.mem_or_eq_of_mem_set hy with w|w
   .exact hk y w
   .rw [w];exact kx
 .refine ⟨bx,?_,by omega,hk⟩
  by_cases y:0<n
  .have z1:((0:Int)<(n:Nat))=True:=eq_true (by omega)
   have z2:(mx%5=0)=False:=eq_false fun w=>z ⟨y,w⟩
   simp_all? only [c0,p1,ir,lr,cm,c1,hm,z1,z2]
  .have z1:((0:Int)<(n:Nat))=False:=eq_false (by omega)
   simp_all? only [c0,p1,ir,lr,cm,c1,hm,z1]
end
section
variable {h:AH}{ns:List Int}
theorem yog (c:Int):∃ t∈goodT,ybY [.int c] h=some (.str t,h):=by
 have hk:=ycJ c (show (0:Int)<8 by decide)
 have e:ybY [.int c] h=ob ((atI (goodT.map PV.str) (c%8)).bind fun v=>some (v,h)) (fun x h=>some (x,h)):=by
  unfold ybY
  rw [yH]
  show ob (yv _ _ [.val (.int c),.no] h) fnK=_
  symm
  rw [if_pos (by decide)]
  rfl
 rw [e]
 generalize c%8=k at *
 rcases (show k=0\/k=1\/k=2\/k=3\/k=4\/k=5\/k=6\/k=7 by omega) with rfl|rfl|rfl|rfl|rfl|rfl|rfl|rfl
 all_goals exact ⟨_,by rfl',rfl⟩
theorem yoh (c:Int):∃ t∈badT,ybZ [.int c] h=some (.str t,h):=by
 have hk:=ycJ c (show (0:Int)<15 by decide)
 have e:ybZ [.int c] h=ob ((atI (badT.map PV.str) (c%15)).bind fun v=>some (v,h)) (fun x h=>some (x,h)):=by
  unfold ybZ
  rw [yH]
  show ob (yv _ _ [.val (.int c),.no] h) fnK=_
  symm
  rfl
 rw [e]
 generalize c%15=k at *
 rcases (show k=0\/k=1\/k=2\/k=3\/k=4\/k=5\/k=6\/k=7\/k=8\/k=9\/k=10\/k=11\/k=12\/k=13\/k=14 by omega) with rfl|rfl|rfl|rfl|rfl|rfl|rfl|rfl|rfl|rfl|rfl|rfl|rfl|rfl|rfl
 all_goals exact ⟨_,by rfl',rfl⟩
theorem yqv {E:XE}{inn:PV->PSt}:∀ xs:List PV,(∀ x∈xs,∃ t∈goodT,E (inn x) h=some (.str t,h))->∃ ds:List Str,ds.length=xs.length/\(∀ t∈ds,t∈goodT)/\ylW E inn xs h=some (ds.map .str,h)
 | [],_=>⟨[],rfl,(fun _ z=>absurd z not_mem_nil),rfl⟩
 | x::xs,hx=>by
  obtain ⟨t,ht,e⟩:=hx x mem_cons_self
  obtain ⟨ds,l1,l2,l3⟩:=yqv xs fun y hy=>hx y (mem_cons_of_mem _ hy)
  refine ⟨t::ds,by rw [length_cons,length_cons,l1],fun u hu=>?_,?_⟩
  .rcases mem_cons.mp hu with rfl|hu
   .exact ht
   .exact l2 u hu
  .show ob (E (inn x) h) _=_
   rw [e,yey,l3,yey]
   rfl
def lcs (b n:Nat):List PV:=(List.range n).map fun k=>.loc (b+k)
theorem ysG {b n:Nat}:lcs b (n+1)=lcs b n++[.loc (b+n)]:=by
 unfold lcs
 rw [List.range_succ,map_append]
 rfl
noncomputable def hP (m:Int) (M:Nat) (ls:List PV) (v0 u4 u5 u6 u7 u8:PVar):PSt:=[v0,.val (.int m),.val (.int (M:Nat)),.own (.lst ls),u4,u5,u6,u7,u8]
theorem yye {m:Int}{M i:Nat}{ls:List PV}{u5 u6 u7 u8:PVar}(hl:ls.length<=100):∃ (ds:List Str) (w5 w6:PVar),ds.length<=8/\(∀ t∈ds,t∈goodT)/\hnB (hP m M ls (.val (.scr ns)) (.val (.int (i:Nat))) u5 u6 u7 u8) h=some (.nx (hP m M (ls++[.loc h.length]) (.val (.scr ns)) (.val (.int (i:Nat))) w5 w6 u7 u8),h++[txs ds]):=by
 have c0:=ydE (h:=h) (ns:=ns) (5+3*i)
 rw [show (((5+3*i:Nat)):Int)=5+3*(i:Int) by omega] at c0
 generalize ns.getD (5+3*i) 0=a at *
 have mk:PX.MulOk 3 (i:Int)=True:=eq_true (Or.inl ⟨by decide,by decide⟩)
 have mk2:PX.MulOk a 16807=True:=eq_true (Or.inr ⟨by decide,by decide⟩)
 generalize hc:a*16807%2147483587=c at *
 obtain ⟨v,p1,p2⟩:=yvp (a:=c/6%7) (b:=c/6%9) (c%6/5) (by have:=ycJ c (show (0:Int)<6 by decide);omega) (by have:=ycJ c (show (0:Int)<6 by decide);omega)
 obtain ⟨n,rfl,hn⟩:∃ n:Nat,v=n/\n<=8:=by
  have:=ycJ (c/6) (show (0:Int)<7 by decide)
  have:=ycJ (c/6) (show (0:Int)<9 by decide)
  exact ⟨v.toNat,by omega,by omega⟩
 have ir:∀ v0 v1 v2 v3 v4 v5 ρ,yjb (yb (ye 6) (yg)) (v0::v1::v2::v3::v4::v5::.val (.int (n:Nat))::ρ) h=some (yfF 0 n,h):=fun _ _ _ _ _ _ ρ=>(ykv (j:=(n:Int)) (h1:=h) rfl (by omega) (by omega)).trans (by simp)
 have lr:((yfF 0 n).length<=100000)=True:=eq_true (by rw [yfS];omega)
 have E:∀ x∈yfF 0 n,∃ t∈goodT,yN ybY (yb (xOp yfR (xOp yfR (xOp oDiv (ye 2) (xC (.int 60))) (xOp ynO (ye 0) (ye 0))) (xOp ynO (ye 0) (ye 1))) (yg)) [.val x,.val (.int (i:Nat)),.val (.int c)] h=some (.str t,h):=fun x hx=>by
  obtain ⟨j,hj,ej⟩:=getElem_of_mem hx
  obtain ⟨jn,rfl⟩:=ynu (show (yfF 0 n)[j]?=some x by rw [List.getElem?_eq_getElem hj,ej])
  have m1:PX.MulOk (j:Int) (j:Int)=True:=eq_true (Or.inl ⟨by omega,by omega⟩)
  have m2:PX.MulOk (j:Int) (i:Int)=True:=eq_true (Or.inl ⟨by omega,by omega⟩)
  obtain ⟨t,ht,e⟩:=yog (h:=h) (c/60+(j:Int)*j+(j:Int)*i)
  refine ⟨t,ht,?_⟩
  simp_all? only [m1,m2,e,↓reduceIte]
 obtain ⟨ds,l1,l2,l3⟩:=yqv _ E
 have l3:∀ v0 v1 v2 v3 ρ,ylW (yN ybY (yb (xOp yfR (xOp yfR (xOp oDiv (ye 2) (xC (.int 60))) (xOp ynO (ye 0) (ye 0))) (xOp ynO (ye 0) (ye 1))) (yg))) (yga [4,5] (v0::v1::v2::v3::.val (.int (i:Nat))::.val (.int c)::ρ)) (yfF 0 n) h=some (ds.map .str,h):=fun _ _ _ _ _=>l3
 refine ⟨ds,.val (.int c),.val (.int (n:Nat)),by rw [l1,yfS];exact hn,l2,?_⟩
 unfold hnB hP
 simp_all? only [mk,mk2,c0,hc,p1,↓reduceIte]
 rw [ypz rfl]
 simp_all? only [ir,lr,l3,↓reduceIte]
 rw [if_pos (by omega)]
 rfl
end
section
variable {h:AH}{ns:List Int}
def okD (ds:List Str):Prop:=ds.length<=8/\∀ t∈ds,t∈goodT\/t∈badT
theorem yeD {b n:Nat}:(lcs b n).length=n:=by unfold lcs;simp
theorem ylb {b n i:Nat}(hi:i<n):(lcs b n)[i]?=some (.loc (b+i)):=by
 unfold lcs
 rw [getElem?_map,List.getElem?_range hi]
 rfl
theorem ytv {dss:List (List Str)}{k:Nat}{ds:List Str}(e:dss[k]?=some ds):(h++dss.map txs)[h.length+k]?=some (txs ds):=by
 rw [getElem?_append_right (by omega),show h.length+k-h.length=k by omega,getElem?_map,e]
 rfl
theorem yvq {dss:List (List Str)}{k:Nat}{ds:List Str}:(h++dss.map txs).set (h.length+k) (txs ds)=h++(dss.set k ds).map txs:=by
 rw [List.set_append_right _ _ (by omega),show h.length+k-h.length=k by omega,map_set]
theorem ysH:∃ dss:List (List Str),yeb [.scr ns] h=some (.lst (lcs h.length dss.length),h++dss.map txs)/\dss.length<=10/\∀ ds∈dss,okD ds:=by
 have c2:=ydE (h:=h) (ns:=ns) 2
 have c3:=fun h=>ydE (h:=h) (ns:=ns) 3
 generalize ns.getD 2 0=a at *
 generalize ns.getD 3 0=b at *
 have c2:yL [.scr ns,.int 2] h=some (.int a,h):=c2
 have c3:∀ h,yL [.scr ns,.int 3] h=some (.int b,h):=c3
 have mk:PX.MulOk a 69621=True:=eq_true (Or.inr ⟨by decide,by decide⟩)
 have mk2:PX.MulOk b 48271=True:=eq_true (Or.inr ⟨by decide,by decide⟩)
 generalize hm:a*69621%2147483629=m at *
 generalize hs:b*48271%2147483647=s at *
 obtain ⟨v,p1,p2⟩:=yvp (a:=1+m/4%8) (b:=m/4%11) (m%4/3) (by have:=ycJ m (show (0:Int)<4 by decide);omega) (by have:=ycJ m (show (0:Int)<4 by decide);omega)
 obtain ⟨M,rfl,hM⟩:∃ n:Nat,v=n/\n<=10:=by
  have:=ycJ (m/4) (show (0:Int)<8 by decide)
  have:=ycJ (m/4) (show (0:Int)<11 by decide)
  exact ⟨v.toNat,by omega,by omega⟩
 have ir:∀ v0 v1 ρ,yjb (yb (ye 2) (yg)) (v0::v1::.val (.int (M:Nat))::ρ) h=some (yfF 0 M,h):=fun _ _ ρ=>(ykv (j:=(M:Int)) (h1:=h) rfl (by omega) (by omega)).trans (by simp)
 unfold yeb
 rw [yH]
 show ∃ dss,ob (yv _ (yv _ (yv _ (yv (yoj (yjb (yb (ye 2) (yg))) (yz 4) hnB) _))) [.val (.scr ns),.no,.no,.no,.no,.no,.no,.no,.no] h) fnK=_/\_
 simp_all? only [mk,c2,hm,p1,ir,↓reduceIte]
 obtain ⟨ρ',h',e,dss,u4,u5,u6,l1,l2,rfl,rfl⟩:=ypy (g:=yz 4) (s:=hnB) (xs:=yfF 0 M) (fun i ρ h1=>∃ dss u4 u5 u6,dss.length=i/\(∀ ds∈dss,ds.length<=8/\∀ t∈ds,t∈goodT)/\h1=h++dss.map txs/\ρ=hP m M (lcs h.length i) (.val (.scr ns)) u4 u5 u6 .no .no) (ρ:=hP m M [] (.val (.scr ns)) .no .no .no .no .no) (h:=h) ⟨[],.no,.no,.no,rfl,fun _ z=>absurd z not_mem_nil,by simp,rfl⟩ (by
  rintro i x ρ h1 hx ⟨dss,u4,u5,u6,l1,l2,rfl,rfl⟩
  obtain ⟨hi,rfl⟩:=ynu hx
  obtain ⟨ds,w5,w6,q1,q2,q3⟩:=yye (h:=h++dss.map txs) (ns:=ns) (m:=m) (M:=M) (i:=i) (ls:=lcs h.length i) (u5:=u5) (u6:=u6) (u7:=.no) (u8:=.no) (by rw [yeD];omega)
  refine ⟨_,_,_,rfl,.inl q3,dss++[ds],.val (.int (i:Nat)),w5,w6,by rw [length_append,l1];rfl,fun d hd=>?_,by rw [map_append,append_assoc];rfl,?_⟩
  .rcases List.mem_append.mp hd with w|w
   .exact l2 d w
   .rw [List.mem_singleton.mp w];exact ⟨q1,q2⟩
  .rw [ysG,length_append,length_map,l1])
 rw [yfS] at l1
 have e:yid (yz 4) hnB (yfF 0 M) [.val (.scr ns),.val (.int m),.val (.int (M:Nat)),.own (.lst []),.no,.no,.no,.no,.no] h=some (.nx (hP m M (lcs h.length (yfF 0 M).length) (.val (.scr ns)) u4 u5 u6 .no .no),h++dss.map txs):=e
 rw [yfS] at e
 unfold hP at e
 by_cases z:0<M/\s%4=0
 .have z1:((0:Int)<(M:Nat))=True:=eq_true (by omega)
  have z2:(s%4=0)=True:=eq_true z.2
  obtain ⟨k,hk,kM⟩:∃ k:Nat,s/4%(M:Int)=k/\k<M:=⟨(s/4%(M:Int)).toNat,by have:=ycJ (s/4) (show (0:Int)<M by omega);omega,by have:=ycJ (s/4) (show (0:Int)<M by omega);omega⟩
  have ek:dss[k]?=some dss[k]:=List.getElem?_eq_getElem (by omega)
  have a1:atI (lcs h.length M) ((k:Nat):Int)=some (.loc (h.length+k)):=yee (ylb kM)
  have a2:ydw (.lst (lcs h.length M)) (.int (k:Nat)) (h++dss.map txs)=some (.loc (h.length+k),h++dss.map txs):=yjv (ylb kM)
  have hd:=l2 dss[k] (mem_of_getElem? ek)
  have cell:=ytv (h:=h) ek
  generalize dss[k]=ds at *
  have l0:=ycq cell
  rw [length_map] at l0
  by_cases y:0<ds.length
  .have z3:((0:Int)<(ds.length:Nat))=True:=eq_true (by omega)
   obtain ⟨j,hj,jl⟩:∃ j:Nat,s/40%(ds.length:Int)=j/\j<ds.length:=⟨(s/40%(ds.length:Int)).toNat,by have:=ycJ (s/40) (show (0:Int)<ds.length by omega);omega,by have:=ycJ (s/40) (show (0:Int)<ds.length by omega);omega⟩
   obtain ⟨t,ht,et⟩:=yoh (h:=h++dss.map txs) (s/400)
   refine ⟨dss.set k (ds.set j t),?_,by rw [length_set];omega,fun d hd'=>?_⟩
   .simp_all? only [e,mk2,c3,hs,z1,z2,hk,a1,a2,l0,z3,↓reduceIte]
    rw [yjw (x:=.str t) (j:=j) (xs:=ds.map .str) (n:=h.length+k) (by
     simp_all? only [et]) rfl (by
     simp_all? only [l0,hj]
     rw [if_pos (by omega)]) cell (by rw [length_map];exact jl)]
    rw [show Nd.lst ((ds.map PV.str).set j (.str t))=txs (ds.set j t) by unfold txs;rw [map_set],yvq,length_set,l1]
    symm
   .rcases List.mem_or_eq_of_mem_set hd' with w|w
    .exact ⟨(l2 d w).1,fun u hu=>.inl ((l2 d w).2 u hu)⟩
    .subst w
     refine ⟨by rw [length_set];exact hd.1,fun u hu=>?_⟩
     rcases List.mem_or_eq_of_mem_set hu with w|w
     .exact .inl (hd.2 u w)
     .rw [w];exact .inr ht
  .have z3:((0:Int)<(ds.length:Nat))=False:=eq_false (by omega)
   refine ⟨dss,?_,by omega,fun d hd=>⟨(l2 d hd).1,fun t ht=>.inl ((l2 d hd).2 t ht)⟩⟩
   simp_all? only [e,mk2,c3,hs,z1,z2,hk,a1,a2,l0,z3,↓reduceIte]
   rw [l1]
 .refine ⟨dss,?_,by omega,fun d hd=>⟨(l2 d hd).1,fun t ht=>.inl ((l2 d hd).2 t ht)⟩⟩
  rw [l1]
  by_cases y:0<M
  .have z1:((0:Int)<(M:Nat))=True:=eq_true (by omega)
   have z2:(s%4=0)=False:=eq_false fun w=>z ⟨y,w⟩
   simp_all? only [e,mk2,c3,hs,z1,z2,↓reduceIte]
  .have z1:((0:Int)<(M:Nat))=False:=eq_false (by omega)
   simp_all? only [e,mk2,c3,hs,z1,↓reduceIte]
end
section
variable {h:AH}
theorem yjx {f:PV->PV->Option Bool}:∀ {xs ys:List PV},xs.length=ys.length->(∀ (i:Nat) (x y:PV),xs[i]?=some x->ys[i]?=some y->f x y=some true)->yhA f xs ys=some true
 | [],[],_,_=>rfl
 | x::xs,y::ys,hl,hf=>by
  show (match f x y,yhA f xs ys with|some b,some c=>some (b && c)|_,_=>none)=_
  rw [hf 0 x y rfl rfl,yjx (by simpa using hl) fun i a b ha hb=>hf (i+1) a b (by simpa using ha) (by simpa using hb)]
  rfl
theorem yvr {n:Nat}{x:PV}(k:okK x):eqP (n+2) h x x=some true:=by
 rcases k with ⟨i,rfl⟩|⟨b,rfl⟩|rfl|rfl|rfl
 .show some (eqV (.int i) (.int i))=_
  rw [yhj rfl]
 .cases b<;>rfl
 .rfl
 .show some (eqV (.str "7") (.str "7"))=_
  rw [yhj rfl]
 .rfl
theorem yqw {n:Nat}{t:Str}:eqP (n+1) h (.str t) (.str t)=some true:=by
 show some (eqV (.str t) (.str t))=_
 rw [yhj rfl]
theorem yjy {f:PV->PV->Option Bool}{xs:List PV}(hf:∀ x∈xs,f x x=some true):yhA f xs xs=some true:=yjx rfl fun i x y e1 e2=>by
 rw [e1] at e2
 cases e2
 exact hf x (mem_of_getElem? e1)
theorem ynv {a b:Nat}{bx:List PV}(ea:h[a]?=some (.lst bx)) (eb:h[b]?=some (.lst bx)) (hk:∀ x∈bx,okK x):ymX (.loc a) (.loc b) h=some (.bl false,h):=by
 have e:yhA (eqP 40 h) bx bx=some true:=yjy fun x hx=>yvr (n:=38) (hk x hx)
 unfold ymX pairE ycd
 simp only [ea,eb,e,if_true]
 rfl
theorem ynw {a b1 b2 n:Nat}{dss:List (List Str)}(hn:dss.length=n) (ea:h[a]?=some (.lst (lcs b1 n))) (e1:∀ (k:Nat) (ds:List Str),dss[k]?=some ds->h[b1+k]?=some (txs ds)) (e2:∀ (k:Nat) (ds:List Str),dss[k]?=some ds->h[b2+k]?=some (txs ds)):ymX (.loc a) (.lst (lcs b2 n)) h=some (.bl false,h):=by
 have e:yhA (eqP 40 h) (lcs b1 n) (lcs b2 n)=some true:=yjx (by rw [yeD,yeD]) fun i x y h1 h2=>by
  have hi:i<n:=by
   have:=(List.getElem?_eq_some_iff.mp h1).1
   rwa [yeD] at this
  rw [ylb hi] at h1 h2
  cases h1;cases h2
  have ed:dss[i]?=some dss[i]:=List.getElem?_eq_getElem (by omega)
  have c1:=e1 i _ ed
  have c2:=e2 i _ ed
  have q:yhA (eqP 39 h) (dss[i].map PV.str) (dss[i].map PV.str)=some true:=yjy fun x hx=>by
   obtain ⟨t,_,rfl⟩:=List.mem_map.mp hx
   exact yqw
  show pairE (eqP 39 h) h (.loc (b1+i)) (.loc (b2+i))=some true
  unfold pairE ycd
  simp only [c1,c2,txs,q,if_true]
 unfold ymX pairE ycd
 simp only [ea,e,yeD,if_true]
 rfl
theorem ysI {c:Str}:yxh (.lst [.str c]) (.lst [.str c]) h=some (.bl true,h):=by
 have e:yhA (eqP 40 h) [.str c] [.str c]=some true:=yjy fun x hx=>by
  rw [List.mem_singleton.mp hx]
  exact yqw
 unfold yxh pairE ycd
 simp only [e,if_true]
theorem copies {dss:List (List Str)}{b:Nat}{ρ:PSt}:∀ (n i:Nat) (k:AH),i+n=dss.length->(∀ (j:Nat) (ds:List Str),dss[j]?=some ds->k[b+j]?=some (txs ds))->ylW (yfZ (ygZ (ybo) (yb (ye 0) (yg)))) (yga [] ρ) ((lcs b dss.length).drop i) k=some (lcs k.length n,k++(dss.drop i).map txs)
 | 0,i,k,hi,_=>by
  rw [List.drop_of_length_le (by rw [yeD];omega),List.drop_of_length_le (by omega)]
  show some ([],k)=some ([],k++[])
  rw [append_nil]
 | n+1,i,k,hi,hk=>by
  have hlt:i<dss.length:=by omega
  have hl2:i<(lcs b dss.length).length:=by rw [yeD];exact hlt
  have ed:dss[i]?=some dss[i]:=List.getElem?_eq_getElem hlt
  have e1:=hk i _ ed
  have ih:=copies (dss:=dss) (b:=b) (ρ:=ρ) n (i+1) (k++[txs dss[i]]) (by omega) fun j ds e=>by
   have:=hk j ds e
   rw [getElem?_append_left (List.getElem?_eq_some_iff.mp this).1]
   exact this
  rw [List.drop_eq_getElem_cons hl2,List.drop_eq_getElem_cons hlt]
  have eg:(lcs b dss.length)[i]=.loc (b+i):=by
   have:=ylb (b:=b) hlt
   rw [List.getElem?_eq_getElem hl2] at this
   exact Option.some.inj this
  rw [eg]
  have el:yfZ (ygZ (ybo) (yb (ye 0) (yg))) [.val (.loc (b+i))] k=some (.loc k.length,k++[txs dss[i]]):=by
   simp_all? only [ydi e1]
   rfl
  show ob (yfZ _ [.val (.loc (b+i))] k) _=_
  rw [el,yey,ih,yey]
  rw [map_cons,length_append,append_assoc]
  have:lcs k.length (n+1)=.loc k.length::lcs (k.length+1) n:=by
   unfold lcs
   rw [List.range_succ_eq_map,map_cons,map_map]
   rw [Nat.add_zero]
   congr 1
   refine List.map_congr_left fun j _=>?_
   show PV.loc (k.length+(j+1))=_
   rw [show k.length+(j+1)=k.length+1+j by omega]
  rw [this]
  rfl
def enN:Nat->List Nd->List (Nat×Nd)
 | _,[]=>[]
 | b,d::S=>(b,d)::enN (b+1) S
theorem yek:∀ {b:Nat}{S T:List Nd},enN b (S++T)=enN b S++enN (b+S.length) T
 | b,[],T=>rfl
 | b,d::S,T=>by
  show (b,d)::enN (b+1) (S++T)=(b,d)::(enN (b+1) S++enN (b+(S.length+1)) T)
  rw [yek,show b+1+S.length=b+(S.length+1) by omega]
theorem ymv:∀ {b:Nat}{S:List Nd}{i:Nat}{d:Nd},S[i]?=some d->(b+i,d)∈enN b S
 | b,[],i,d,e=>by simp at e
 | b,x::S,0,d,e=>by
  simp at e
  subst e
  exact mem_cons_self
 | b,x::S,i+1,d,e=>by
  have:=ymv (b:=b+1) (S:=S) (i:=i) (d:=d) (by simpa using e)
  rw [show b+1+i=b+(i+1) by omega] at this
  exact mem_cons_of_mem _ this
theorem At.suf (h:AH):∀ (S T:List Nd),At (h++S) (enN h.length S)->At (h++S++T) (enN h.length (S++T))
 | S,[],A=>by rw [append_nil,append_nil];exact A
 | S,d::T,A=>by
  have A1:=At.new d (a:=enN h.length S) (b:=[]) (by rw [append_nil];exact A)
  have A2:At (h++(S++[d])) (enN h.length (S++[d])):=by
   rw [yek,<- append_assoc]
   rw [length_append] at A1
   exact A1
  have:=At.suf h (S++[d]) T A2
  simpa using this
theorem At.all (h:AH) (T:List Nd):At (h++T) (enN h.length T):=by
 have:=At.suf h [] T (by rw [append_nil];exact ⟨List.nodup_nil,fun p hp=>by simp [enN] at hp⟩)
 simpa using this
def zl (b:Nat) (dss:List (List Str)):List (Nat×List Str):=(List.range dss.length).map fun k=>(b+k,dss.getD k [])
theorem ytw {b:Nat}{dss:List (List Str)}:(zl b dss).map (fun p=>PV.loc p.1)=lcs b dss.length:=by
 unfold zl lcs
 rw [map_map]
 rfl
theorem ylc {b:Nat}{dss:List (List Str)}:(zl b dss).map (·.2)=dss:=by
 unfold zl
 rw [map_map]
 refine List.ext_getElem? fun i=>?_
 rw [getElem?_map]
 by_cases hi:i<dss.length
 .rw [List.getElem?_range hi,List.getElem?_eq_getElem hi]
  show some (dss.getD i [])=_
  rw [List.getD_eq_getElem?_getD,List.getElem?_eq_getElem hi]
  rfl
 .rw [getElem?_eq_none (by simpa using hi),getElem?_eq_none (by omega)]
  rfl
theorem yyf {b:Nat}{dss:List (List Str)}(hc:∀ (k:Nat) (ds:List Str),dss[k]?=some ds->h[b+k]?=some (txs ds)):∀ p∈zl b dss,h[p.1]?=some (txs p.2):=fun p hp=>by
 unfold zl at hp
 obtain ⟨k,hk,rfl⟩:=List.mem_map.mp hp
 have hk:k<dss.length:=List.mem_range.mp hk
 refine hc k _ ?_
 rw [List.getD_eq_getElem?_getD,List.getElem?_eq_getElem hk]
 rfl
theorem ytx {b:Nat}{dss:List (List Str)}:(zl b dss).length=dss.length:=by unfold zl;simp
theorem yqx {b:Nat}{dss:List (List Str)}{p:Nat×List Str}(hp:p∈zl b dss):p.2∈dss:=by
 have:=List.mem_map_of_mem (f:=(·.2)) hp
 rwa [ylc] at this
end
section
variable {ns:List Int}
noncomputable def S4 (b:Nat) (bx:List PV) (dss:List (List Str)):List Nd:=[Nd.lst bx]++dss.map txs++[Nd.lst bx]++dss.map txs++[Nd.lst (lcs (b+1+dss.length+1) dss.length)]
structure L4 (h:AH) (b:Nat) (bx:List PV) (dss:List (List Str)):Prop where
 k0:h[b]?=some (.lst bx)
 k1:∀ (k:Nat) (ds:List Str),dss[k]?=some ds->h[b+1+k]?=some (txs ds)
 k2:h[b+1+dss.length]?=some (.lst bx)
 k3:∀ (k:Nat) (ds:List Str),dss[k]?=some ds->h[b+1+dss.length+1+k]?=some (txs ds)
 k4:h[b+1+dss.length+1+dss.length]?=some (.lst (lcs (b+1+dss.length+1) dss.length))
theorem yty {b:Nat}{bx:List PV}{dss:List (List Str)}{h:AH}(M:∀ p∈enN b (S4 b bx dss),h[p.1]?=some p.2):L4 h b bx dss:=by
 have G:∀ (i:Nat) (d:Nd),(S4 b bx dss)[i]?=some d->h[b+i]?=some d:=fun i d e=>M _ (ymv e)
 have lm:(dss.map txs).length=dss.length:=length_map _
 have L:(S4 b bx dss)=([Nd.lst bx]++dss.map txs++[Nd.lst bx]++dss.map txs)++[Nd.lst (lcs (b+1+dss.length+1) dss.length)]:=rfl
 refine ⟨G 0 _ rfl,fun k ds e=>?_,?_,fun k ds e=>?_,?_⟩
 .have hk:k<dss.length:=(List.getElem?_eq_some_iff.mp e).1
  rw [show b+1+k=b+(1+k) by omega]
  refine G _ _ ?_
  unfold S4
  simp only [append_assoc]
  rw [getElem?_append_right (by simp),getElem?_append_left (by rw [lm];simp<;>omega),show 1+k-[Nd.lst bx].length=k by simp,getElem?_map,e]
  rfl
 .rw [show b+1+dss.length=b+(1+dss.length) by omega]
  refine G _ _ ?_
  unfold S4
  simp only [append_assoc]
  rw [getElem?_append_right (by simp),getElem?_append_right (by rw [lm];simp),show 1+dss.length-[Nd.lst bx].length-(dss.map txs).length=0 by rw [lm];simp]
  rfl
 .have hk:k<dss.length:=(List.getElem?_eq_some_iff.mp e).1
  rw [show b+1+dss.length+1+k=b+(1+dss.length+1+k) by omega]
  refine G _ _ ?_
  unfold S4
  simp only [append_assoc]
  rw [getElem?_append_right (by simp<;>omega),getElem?_append_right (by rw [lm];simp<;>omega),getElem?_append_right (by rw [lm];simp<;>omega),getElem?_append_left (by rw [lm];simp<;>omega),show 1+dss.length+1+k-[Nd.lst bx].length-(dss.map txs).length-[Nd.lst bx].length=k by rw [lm];simp<;>omega,getElem?_map,e]
  rfl
 .rw [show b+1+dss.length+1+dss.length=b+(1+dss.length+1+dss.length) by omega]
  refine G _ _ ?_
  unfold S4
  simp only [append_assoc]
  rw [getElem?_append_right (by simp<;>omega),getElem?_append_right (by rw [lm];simp<;>omega),getElem?_append_right (by rw [lm];simp<;>omega),getElem?_append_right (by rw [lm];simp<;>omega),show 1+dss.length+1+dss.length-[Nd.lst bx].length-(dss.map txs).length-[Nd.lst bx].length-(dss.map txs).length=0 by rw [lm];simp<;>omega]
  rfl
theorem yqy {h:AH}{bx:List PV}{dss:List (List Str)}{v0 v3 v4 v5 v6:PVar}(hl:dss.length<=10):lwH [v0,.val (.loc h.length),.val (.lst (lcs (h.length+1) dss.length)),v3,v4,v5,v6] (h++[Nd.lst bx]++dss.map txs)=some (.lst [.loc (h.length+1+dss.length),.loc (h.length+1+dss.length+1+dss.length)],h++S4 h.length bx dss):=by
 have e0:(h++[Nd.lst bx]++dss.map txs)[h.length]?=some (.lst bx):=by simp
 have l2:(h++[Nd.lst bx]++dss.map txs).length=h.length+1+dss.length:=by simp<;>omega
 have i2:∀ k,xIL (ye 2) [v0,.val (.loc h.length),.val (.lst (lcs (h.length+1) dss.length)),v3,v4,v5,v6] k=some (lcs (h.length+1) dss.length,k):=fun _=>yAG rfl
 have l3:((lcs (h.length+1) dss.length).length<=100000)=True:=eq_true (by rw [yeD];omega)
 have cp:=copies (dss:=dss) (b:=h.length+1) (ρ:=[v0,.val (.loc h.length),.val (.lst (lcs (h.length+1) dss.length)),v3,v4,v5,v6]) dss.length 0 (h++[Nd.lst bx]++dss.map txs++[Nd.lst bx]) (by omega) (fun j ds e=>by
  have:=ytv (h:=h++[Nd.lst bx]) e
  rw [show (h++[Nd.lst bx]).length=h.length+1 by simp] at this
  rw [getElem?_append_left (List.getElem?_eq_some_iff.mp this).1]
  exact this)
 rw [List.drop_zero,List.drop_zero,show (h++[Nd.lst bx]++dss.map txs++[Nd.lst bx]).length=h.length+1+dss.length+1 by simp<;>omega] at cp
 unfold lwH
 simp_all? only [ydi e0,l2,i2,l3,cp,↓reduceIte]
 rw [show length (h++[Nd.lst bx]++dss.map txs++[Nd.lst bx]++dss.map txs)=h.length+1+dss.length+1+dss.length by simp<;>omega]
 unfold S4
 simp only [append_assoc]
end
section
variable {h:AH}{b:Nat}{bx:List PV}{dss:List (List Str)}
theorem yvs (L:L4 h b bx dss) (hk:∀ x∈bx,okK x) (hb:bx.length<=18) (hl:dss.length<=10) (hd:∀ ds∈dss,okD ds) :
  (ysD bx dss≠""/\∃ h',ycy [.loc (b+1+dss.length),.loc (b+1+dss.length+1+dss.length)] h=some (.tup [.lst [.str (ysD bx dss)],.non],h')/\Fr h h') \/
  (ysD bx dss = ""/\∃ h' g cs,ycy [.loc (b+1+dss.length),.loc (b+1+dss.length+1+dss.length)] h=some (.tup [.lst [],.loc (HC.H g)],h')/\cs.length=dss.length/\1<=dss.length/\bx.all yju=true/\bx.length<=16/\1<=bx.length/\∀ m,At h m->At h' (H5 g bx cs++CR bx.length cs (dss.map xOf) m)):=by
 have I:HIn h (b+1+dss.length+1+dss.length) (zl (b+1+dss.length+1) dss):=⟨by rw [ytw];exact L.k4,yyf L.k3⟩
 have ls:(zl (b+1+dss.length+1) dss).length=dss.length:=ytx
 have xe:(zl (b+1+dss.length+1) dss).map (fun p=>xOf p.2)=dss.map xOf:=by
  have:(zl (b+1+dss.length+1) dss).map (fun p=>xOf p.2)=((zl (b+1+dss.length+1) dss).map (·.2)).map xOf:=by rw [map_map];rfl
  rw [this,ylc]
 unfold ysD
 by_cases hB:bxB bx=true
 .rw [if_pos hB]
  have hB':=hB
  unfold bxB at hB'
  simp only [and_eq_true,decide_eq_true_eq] at hB'
  obtain ⟨⟨b1,b16⟩,ball⟩:=hB'
  by_cases hH:hsB dss=true
  .rw [if_pos hH]
   have hH':=hH
   unfold hsB at hH'
   simp only [and_eq_true,decide_eq_true_eq,Bool.not_eq_true'] at hH'
   obtain ⟨⟨n1,n8⟩,nl⟩:=hH'
   have h6:∀ p∈zl (b+1+dss.length+1) dss,p.2.length<=6:=fun p hp=>by
    have:=List.any_eq_false.mp nl p.2 (yqx hp)
    simp at this
    omega
   have gb:∀ p∈zl (b+1+dss.length+1) dss,∀ t∈p.2,t∈goodT\/t∈badT:=fun p hp t ht=>(hd _ (yqx hp)).2 t ht
   by_cases hx:(dss.any fun ds=>ds.any ymu)=true
   .rw [if_pos hx]
    refine .inl ⟨by rfl',?_⟩
    obtain ⟨q1,h',q2,F⟩:=ynt (nh:=b+1+dss.length+1+dss.length) (c:="NoDeed") L.k2 hk b1 b16 ball fun k F=>yql (I.fr F) (by omega) (by omega) h6 gb (by
     obtain ⟨ds,hds,hy⟩:=List.any_eq_true.mp hx
     obtain ⟨t,ht,hz⟩:=List.any_eq_true.mp hy
     have hm:ds∈(zl (b+1+dss.length+1) dss).map (·.2):=by rw [ylc];exact hds
     obtain ⟨p,hp,ep⟩:=List.mem_map.mp hm
     refine ⟨p,hp,fun w=>?_⟩
     have:=yxW (w t (by rw [ep];exact ht))
     rw [hz] at this
     cases this)
    exact ⟨h',yqu (by rfl') q1 q2,F⟩
   .rw [if_neg hx]
    refine .inr ⟨rfl,?_⟩
    obtain ⟨h',g,cs,q1,q2,q3,q4⟩:=ysw I L.k2 hk b1 b16 ball (by omega) (by omega) h6 fun p hp t ht=>by
     rcases gb p hp t ht with w|w
     .exact w
     .exact absurd (List.any_eq_true.mpr ⟨p.2,yqx hp,List.any_eq_true.mpr ⟨t,ht,yxV w⟩⟩) hx
    rw [xe] at q4
    refine ⟨h',g,cs,?_,by omega,by omega,ball,b16,b1,q4⟩
    rw [q2]
    exact yyb q1
  .rw [if_neg hH]
   refine .inl ⟨by rfl',?_⟩
   have no:∀ k,Fr h k->yO [.loc (b+1+dss.length+1+dss.length)] k=none/\∃ h',yW [.loc (b+1+dss.length+1+dss.length)] k=some (("NoHands":Str),h')/\Fr k h':=fun k F=>by
    by_cases c:1<=dss.length/\dss.length<=8
    .refine yoc (I.fr F) (by omega) (by omega) ?_
     have:(dss.any fun ds=>decide (6<ds.length))=true:=by
      refine Classical.byContradiction fun w=>hH ?_
      unfold hsB
      simp only [c.1,c.2,Bool.eq_false_iff.mpr w]
      decide
     obtain ⟨ds,hds,hy⟩:=List.any_eq_true.mp this
     have hm:ds∈(zl (b+1+dss.length+1) dss).map (·.2):=by rw [ylc];exact hds
     obtain ⟨p,hp,ep⟩:=List.mem_map.mp hm
     exact ⟨p,hp,by rw [ep];exact of_decide_eq_true hy⟩
    .obtain ⟨q1,q2⟩:=yqj (I.fr F) (by omega) (by rw [ls];exact c)
     exact ⟨q1,k,q2,fun _ A=>A⟩
   obtain ⟨q1,h',q2,F⟩:=ynt (nh:=b+1+dss.length+1+dss.length) (c:="NoHands") L.k2 hk b1 b16 ball no
   exact ⟨h',yqu (by rfl') q1 q2,F⟩
 .rw [if_neg hB]
  refine .inl ⟨by rfl',?_⟩
  obtain ⟨q1,h',q2,F⟩:=ysx (nh:=b+1+dss.length+1+dss.length) L.k2 hk (by omega) (by
   rintro ⟨w1,w2,w3⟩
   refine hB ?_
   unfold bxB
   simp [w1,w2]
   exact List.all_eq_true.mp w3)
  exact ⟨h',yqu (by rfl') q1 q2,F⟩
end
theorem yjm:∀ {bx:List PV},bx.all yju=true->∃ ys:List Int,bx=ys.map .int
 | [],_=>⟨[],rfl⟩
 | x::bx,e=>by
  rw [List.all_cons,and_eq_true] at e
  obtain ⟨ys,rfl⟩:=yjm e.2
  cases x with
  | int i=>exact ⟨i::ys,rfl⟩
  | _=>simp [yju] at e
section
variable {h:AH}
theorem ymw {n:Nat}{xs:List PV}(e:h[n]?=some (.lst xs)):yks (.loc n) h=true:=by
 unfold yks ycd
 simp only [e]
theorem L4.fr {h':AH}{b:Nat}{bx:List PV}{dss:List (List Str)}(F:Fr h h') (L:L4 h b bx dss):L4 h' b bx dss:=⟨F.get L.k0,fun k ds e=>F.get (L.k1 k ds e),F.get L.k2,fun k ds e=>F.get (L.k3 k ds e),F.get L.k4⟩
def yvD (b:Nat) (bx:List PV) (dss:List (List Str)):List (Nat×Nd):=(b,Nd.lst bx)::enN (b+1) (dss.map txs)
theorem yyg {b:Nat}{bx:List PV}{dss:List (List Str)}{a:List (Nat×Nd)}(A:At h (a++yvD b bx dss)):h[b]?=some (.lst bx)/\∀ (i n:Nat) (ds:List Str),((List.range dss.length).map fun k=>b+1+k)[i]?=some n->dss[i]?=some ds->h[n]?=some (txs ds):=by
 refine ⟨A.mem (p:=(b,Nd.lst bx)) (mem_append_right _ mem_cons_self),fun i n ds e1 e2=>?_⟩
 have hi:i<dss.length:=(List.getElem?_eq_some_iff.mp e2).1
 rw [getElem?_map,List.getElem?_range hi] at e1
 cases e1
 exact A.mem (p:=(b+1+i,txs ds)) (mem_append_right _ (mem_cons_of_mem _ (ymv (by rw [getElem?_map,e2];rfl))))
theorem yiE {g:HC}{ys:List Int}{cs:List Pc}{w:Int}{b:Nat}{dss:List (List Str)}(A:At h (H5 g (ys.map .int) cs++CR w cs (dss.map xOf) (yvD b (ys.map .int) dss))) (hc:cs.length=dss.length) (hl:dss.length<=10) (hy:ys.length<=16):ycG [.loc g.H,.loc b,.lst (lcs (b+1) dss.length)] h=some (.bl true,h):=by
 have A':=A
 rw [yfK,<- append_assoc] at A'
 obtain ⟨e1,e2⟩:=yyg A'
 have e:lcs (b+1) dss.length=((List.range dss.length).map fun k=>b+1+k).map PV.loc:=by unfold lcs;rw [map_map];rfl
 rw [e]
 exact yqs A hc (by simp) (by omega) (by omega) e1 e2
theorem yvt {g:HC}{ys:List Int}{cs:List Pc}{w:Int}{b:Nat}{dss:List (List Str)}{v0 v4 v5:PVar}(A:At h (H5 g (ys.map .int) cs++CR w cs (dss.map xOf) (enN b (S4 b (ys.map .int) dss)))) (hc:cs.length=dss.length) (hl:dss.length<=10) (h1:1<=dss.length) (hy:ys.length<=16) (hy1:1<=ys.length) (h8:∀ ds∈dss,ds.length<=8):∃ h',ob (lwT [v0,.val (.loc b),.val (.lst (lcs (b+1) dss.length)),.val (.lst [.loc (b+1+dss.length),.loc (b+1+dss.length+1+dss.length)]),v4,v5,.val (.loc g.H)] h) fnK=some (.bl true,h'):=by
 obtain ⟨ds0,ds',rfl⟩:∃ d r,dss=d::r:=by
  cases dss with
  | nil=>simp at h1
  | cons d r=>exact ⟨d,r,rfl⟩
 have hd0:=h8 ds0 mem_cons_self
 generalize hdss:(ds0::ds')=dss at *
 have eS:enN b (S4 b (ys.map .int) dss)=yvD b (ys.map .int) dss++(b+1+dss.length,Nd.lst (ys.map .int))::((b+1+dss.length+1,txs ds0)::(enN (b+1+dss.length+1+1) (ds'.map txs)++[(b+1+dss.length+1+dss.length,Nd.lst (lcs (b+1+dss.length+1) dss.length))])):=by
  unfold S4 yvD
  rw [yek,yek,yek,yek]
  have lm:(dss.map txs).length=dss.length:=length_map _
  simp only [length_append,List.length_singleton,lm,append_assoc]
  have:enN (b+(1+(dss.length+1))) (dss.map txs)=(b+1+dss.length+1,txs ds0)::enN (b+1+dss.length+1+1) (ds'.map txs):=by
   rw [<- hdss,map_cons,show b+(1+((ds0::ds').length+1))=b+1+(ds0::ds').length+1 by omega]
   rfl
  rw [this,show b+(1+dss.length)=b+1+dss.length by omega,show b+(1+(dss.length+(1+dss.length)))=b+1+dss.length+1+dss.length by omega]
  rfl
 rw [yfK,eS,<- append_assoc,<- append_assoc] at A
 generalize hn2:b+1+dss.length=n2 at *
 generalize hn4:n2+1+dss.length=n4 at *
 have c2:h[n2]?=some (.lst (ys.map .int)):=A.mem (p:=(n2,Nd.lst (ys.map .int))) (mem_append_right _ mem_cons_self)
 have A1:=At.upd (Nd.lst (ys.map PV.int++[PV.int 5])) A
 generalize hk1:h.set n2 (Nd.lst (ys.map PV.int++[PV.int 5]))=k1 at *
 have c3:k1[n2]?=some (Nd.lst (ys.map PV.int++[PV.int 5])):=A1.mem (p:=(n2,_)) (mem_append_right _ mem_cons_self)
 have A2:=At.upd (Nd.lst ((ys.map PV.int++[PV.int 5]).set 0 (PV.int 77))) A1
 generalize hk2:k1.set n2 (Nd.lst ((ys.map PV.int++[PV.int 5]).set 0 (PV.int 77)))=k2 at *
 rw [<- List.singleton_append,<- append_assoc] at A2
 have c4:k2[n2+1]?=some (txs ds0):=A2.mem (p:=(n2+1,txs ds0)) (mem_append_right _ mem_cons_self)
 have c5:k2[n4]?=some (.lst (lcs (n2+1) dss.length)):=A2.mem (p:=(n4,_)) (mem_append_right _ (mem_cons_of_mem _ (mem_append_right _ mem_cons_self)))
 have A3:=At.upd (Nd.lst (ds0.map PV.str++[PV.str "wait"])) A2
 generalize hk3:k2.set (n2+1) (Nd.lst (ds0.map PV.str++[PV.str "wait"]))=k3 at *
 rw [<- List.cons_append,<- append_assoc] at A3
 have c6:k3[n4]?=some (.lst (lcs (n2+1) dss.length)):=A3.mem (p:=(n4,_)) (mem_append_right _ mem_cons_self)
 have A4:=At.upd (Nd.lst (lcs (n2+1) dss.length++[PV.lst []])) A3
 generalize hk4:k3.set n4 (Nd.lst (lcs (n2+1) dss.length++[PV.lst []]))=k4 at *
 have A5:At k4 (H5 g (ys.map .int) cs++CR w cs (dss.map xOf) (yvD b (ys.map .int) dss)):=by
  rw [yfK,<- append_assoc]
  simp only [append_assoc] at A4 ⊢
  refine A4.sub ?_
  refine (List.Sublist.refl _).append ((List.Sublist.refl _).append ?_)
  exact List.sublist_append_left _ _
 have st:=yiE A5 hc hl hy
 have i0:∀ k,ydw (.lst [.loc n2,.loc n4]) (.int 0) k=some (.loc n2,k):=fun _=>rfl
 have i1:∀ k,ydw (.lst [.loc n2,.loc n4]) (.int 1) k=some (.loc n4,k):=fun _=>rfl
 have i2:∀ k,k[n4]?=some (.lst (lcs (n2+1) dss.length))->ydw (.loc n4) (.int 0) k=some (.loc (n2+1),k):=fun k e=>yqr (i:=0) e (by rw [ylb (by omega)])
 refine ⟨k4,?_⟩
 have a1:=yme (y:=.int 5) c2 (by rw [length_map];omega)
 rw [hk1] at a1
 have a2:=yjw (eo:=xOp (ydw) (ye 3) (xC (.int 0))) (ei:=xC (.int 0)) (ev:=xC (.int 77)) (ρ:=[v0,.val (.loc b),.val (.lst (lcs (b+1) dss.length)),.val (.lst [.loc n2,.loc n4]),v4,v5,.val (.loc g.H)]) (h:=k1) (x:=.int 77) (n:=n2) (j:=0) (xs:=ys.map PV.int++[PV.int 5]) rfl rfl rfl c3 (by simp)
 rw [hk2] at a2
 have a3:=yme (y:=.str "wait") c4 (by rw [length_map];omega)
 rw [hk3] at a3
 have a4:=yme (y:=.lst []) c6 (by rw [yeD];omega)
 rw [hk4] at a4
 unfold lwT
 simp_all? only [i0,i1,ymw c2,a1,a2,i2 _ c5,ymw c4,a3,ymw c6,a4,st,↓reduceIte]
end
theorem yyh {h:AH}(ns:List Int) (hn:ns.length<=63):∃ h',ysj [.scr ns] h=some (.bl true,h'):=by
 obtain ⟨bx,e1,b1,b2⟩:=ysF (h:=h) (ns:=ns)
 obtain ⟨dss,e2,d1,d2⟩:=ysH (h:=h++[Nd.lst bx]) (ns:=ns)
 rw [show (h++[Nd.lst bx]).length=h.length+1 by simp] at e2
 have e3:=yqy (h:=h) (bx:=bx) (dss:=dss) (v0:=.val (.scr ns)) (v3:=.no) (v4:=.no) (v5:=.no) (v6:=.no) d1
 have A0:=At.all h (S4 h.length bx dss)
 have L:L4 (h++S4 h.length bx dss) h.length bx dss:=yty A0.2
 generalize h++S4 h.length bx dss=h4 at *
 have e4:=yxY (l:=zl (h.length+1) dss) L.k0 b2 (by omega) (yyf L.k1) (by rw [ytx];omega)
 rw [ytw,ylc] at e4
 have hd8:∀ ds∈dss,ds.length<=8:=fun ds hds=>(d2 ds hds).1
 have i0:∀ (x y:PV) k,ydw (.lst [x,y]) (.int 0) k=some (x,k):=fun _ _ _=>rfl
 have i1:∀ (x y:PV) k,ydw (.lst [x,y]) (.int 1) k=some (y,k):=fun _ _ _=>rfl
 unfold ysj
 rw [yH]
 show ∃ h',ob (yv _ (yv _ (yv (ybM lwH _) (yv _ (yv _ (yv _ (yv _ (yv _ lwT))))))) [.val (.scr ns),.no,.no,.no,.no,.no,.no] h) fnK=_
 rcases yvs L b2 b1 d1 d2 with ⟨z,h',q,F⟩|⟨z,h',g,cs,q,hc,n1,nb,n16,nb1,R⟩
 .have L':=L.fr F
  have z1:(ysD bx dss = "")=False:=eq_false z
  refine ⟨h',?_⟩
  simp_all? only [e1,e2,e3,e4,i0,i1,q,ynv L'.k2 L'.k0 b2,ynw rfl L'.k4 L'.k3 L'.k1,z1,ysI,↓reduceIte]
 .have A:=R _ A0
  obtain ⟨ys,rfl⟩:=yjm nb
  rw [length_map] at n16 nb1
  have L':L4 h' h.length (ys.map .int) dss:=yty fun p hp=>A.mem (mem_append_right _ (by rw [yfK];exact mem_append_right _ hp))
  have z1:(ysD (ys.map .int) dss = "")=True:=eq_true z
  have st:=yiE (b:=h.length) (ys:=ys) (dss:=dss) (cs:=cs) (g:=g) (w:=(ys.map PV.int).length) (h:=h') (by
   have A':=A
   rw [yfK] at A' ⊢
   refine A'.sub ((List.Sublist.refl _).append ((List.Sublist.refl _).append ?_))
   unfold S4 yvD
   rw [yek,yek,yek,yek]
   simp only [append_assoc]
   exact (List.sublist_append_left ([(h.length,Nd.lst (ys.map PV.int))]++enN (h.length+1) (dss.map txs)) _).trans (List.Sublist.refl _)) hc d1 n16
  obtain ⟨h9,t9⟩:=yvt (v0:=.val (.scr ns)) (v4:=.val (.str (ysD (ys.map .int) dss))) (v5:=.val (.lst [])) A hc d1 n1 n16 nb1 hd8
  refine ⟨h9,?_⟩
  have nd:ymX (.lst []) (.lst []) h'=some (.bl false,h'):=rfl
  simp_all? only [e1,e2,e3,e4,i0,i1,q,ynv L'.k2 L'.k0 b2,ynw rfl L'.k4 L'.k3 L'.k1,z1,nd,st,↓reduceIte]
  exact t9
end
def top (i:Nat):Stmt:=PySem.Challenge.pw_retryhall_k21_hall_refused.main.body.getD i (.Pass ⟨0,0,0,0⟩)
abbrev FR:=Str×Str×Stmt×Nat×List Str
abbrev fRw (x q:Str) (s:Stmt) (k:Nat) (n:List Str):FR:=(x,q,s,k,n)
abbrev mRw (k:Nat) (x:Str) (n:Nat):Nat×Str×Nat:=(k,x,n)
def r0:FR:=fRw "__init__" "Log.__init__" (inClass (top 9) 0) 1 ["self"]
def r1:FR:=fRw "saw" "Log.saw" (inClass (top 9) 8) 1 ["self"]
def r2:FR:=fRw "is_whole" "is_whole" (top 16) 1 ["value"]
def r3:FR:=fRw "is_number" "is_number" (top 17) 1 ["value"]
def r4:FR:=fRw "is_made_of" "is_made_of" (top 23) 2 ["text","signs"]
def r5:FR:=fRw "number_of" "number_of" (top 18) 1 ["text","number"]
def r6:FR:=fRw "is_word" "is_word" (top 19) 1 ["text"]
def r7:FR:=fRw "is_slot" "is_slot" (top 20) 1 ["text"]
def r8:FR:=fRw "is_name" "is_name" (top 22) 1 ["text"]
def r9:FR:=fRw "__init__" "Doer.__init__" (inClass (top 25) 0) 3 ["self","slots","width"]
def r10:FR:=fRw "__init__" "Run.__init__" (inClass (top 28) 0) 4 ["self","rows","slots","width"]
def r11:FR:=fRw "state" "Hand.state" (inClass (top 29) 1) 1 ["self"]
def r12:FR:=fRw "new_run" "Hand.new_run" (inClass (top 29) 2) 1 ["self","rows"]
def r13:FR:=fRw "__init__" "Hand.__init__" (inClass (top 29) 0) 3 ["self","deeds","width"]
def r14:FR:=fRw "__init__" "Let.__init__" (inClass (top 33) 0) 3 ["self","slot","number"]
def r15:FR:=fRw "__init__" "Reckon.__init__" (inClass (top 34) 0) 5 ["self","word","slot","one","other"]
def r16:FR:=fRw "__init__" "Take.__init__" (inClass (top 35) 0) 3 ["self","slot","place"]
def r17:FR:=fRw "__init__" "Put.__init__" (inClass (top 36) 0) 3 ["self","place","slot"]
def r18:FR:=fRw "__init__" "If.__init__" (inClass (top 37) 0) 4 ["self","slot","parts","others"]
def r19:FR:=fRw "__init__" "Either.__init__" (inClass (top 38) 0) 3 ["self","parts","others"]
def r20:FR:=fRw "__init__" "Try.__init__" (inClass (top 39) 0) 5 ["self","parts","name","slot","others"]
def r21:FR:=fRw "__init__" "Throw.__init__" (inClass (top 40) 0) 3 ["self","name","slot"]
def r22:FR:=fRw "long" "Let.long" (inClass (top 33) 2) 1 ["self"]
def r23:FR:=fRw "long" "Reckon.long" (inClass (top 34) 2) 1 ["self"]
def r24:FR:=fRw "long" "Take.long" (inClass (top 35) 2) 1 ["self"]
def r25:FR:=fRw "long" "Put.long" (inClass (top 36) 2) 1 ["self"]
def r26:FR:=fRw "long" "Throw.long" (inClass (top 40) 2) 1 ["self"]
def r27:FR:=fRw "long" "Wait.long" (inClass (top 41) 1) 1 ["self"]
def r28:FR:=fRw "list_long" "list_long" (top 31) 1 ["parts"]
def r29:FR:=fRw "long" "If.long" (inClass (top 37) 2) 1 ["self"]
def r30:FR:=fRw "long" "Either.long" (inClass (top 38) 2) 1 ["self"]
def r31:FR:=fRw "long" "Try.long" (inClass (top 39) 2) 1 ["self"]
def r32:FR:=fRw "plain_rows" "plain_rows" (top 46) 1 ["part"]
def r33:FR:=fRw "first_row" "first_row" (top 48) 2 ["part","second"]
def r34:FR:=fRw "rows_between" "rows_between" (top 49) 2 ["part","behind"]
def r35:FR:=fRw "list_rows" "list_rows" (top 44) 2 ["parts","first","rows","part"]
def r36:FR:=fRw "part_rows" "part_rows" (top 45) 2 ["part","first"]
def r37:FR:=fRw "sided_rows" "sided_rows" (top 47) 2 ["part","first","behind","second","inner","outer"]
def r38:FR:=fRw "rows_of" "rows_of" (top 43) 1 ["deed"]
def r39:FR:=fRw "__init__" "Reader.__init__" (inClass (top 55) 0) 2 ["self","words"]
def r40:FR:=fRw "words_of" "words_of" (top 54) 1 ["text"]
def r41:FR:=fRw "ahead" "Reader.ahead" (inClass (top 55) 1) 1 ["self"]
def r42:FR:=fRw "taken" "Reader.taken" (inClass (top 55) 2) 1 ["self","word"]
def r43:FR:=fRw "pass_over" "Reader.pass_over" (inClass (top 55) 3) 2 ["self","wanted","word"]
def r44:FR:=fRw "slot_taken" "Reader.slot_taken" (inClass (top 55) 4) 1 ["self","word"]
def r45:FR:=fRw "name_taken" "Reader.name_taken" (inClass (top 55) 5) 1 ["self","word"]
def r46:FR:=fRw "number_taken" "Reader.number_taken" (inClass (top 55) 6) 1 ["self","word","number"]
def r47:FR:=fRw "reckon_taken" "Reader.reckon_taken" (inClass (top 55) 14) 2 ["self","word","slot","one","other"]
def r48:FR:=fRw "plain_taken" "Reader.plain_taken" (inClass (top 55) 13) 2 ["self","word","slot","place","name"]
def r49:FR:=fRw "list_taken" "Reader.list_taken" (inClass (top 55) 7) 2 ["self","around","parts"]
def r50:FR:=fRw "side_taken" "Reader.side_taken" (inClass (top 55) 8) 2 ["self","around","parts"]
def r51:FR:=fRw "part_taken" "Reader.part_taken" (inClass (top 55) 9) 2 ["self","around","word"]
def r52:FR:=fRw "if_taken" "Reader.if_taken" (inClass (top 55) 10) 2 ["self","around","slot","parts","others"]
def r53:FR:=fRw "either_taken" "Reader.either_taken" (inClass (top 55) 11) 2 ["self","around","parts","others"]
def r54:FR:=fRw "try_taken" "Reader.try_taken" (inClass (top 55) 12) 2 ["self","around","parts","name","slot","others"]
def r55:FR:=fRw "read" "read" (top 53) 1 ["text","reader","deed"]
def r56:FR:=fRw "check_boxes" "check_boxes" (top 60) 1 ["boxes"]
def r57:FR:=fRw "rows_of_deeds" "rows_of_deeds" (top 62) 1 ["texts"]
def r58:FR:=fRw "rows_of_hands" "rows_of_hands" (top 61) 1 ["hands"]
def r59:FR:=fRw "__init__" "Hall.__init__" (inClass (top 63) 0) 3 ["self","boxes","hands"]
def r60:FR:=fRw "boxes" "Hall.boxes" (inClass (top 63) 1) 1 ["self"]
def r61:FR:=fRw "stamps" "Hall.stamps" (inClass (top 63) 2) 1 ["self"]
def r62:FR:=fRw "hands" "Hall.hands" (inClass (top 63) 3) 1 ["self"]
def r63:FR:=fRw "hand_at" "Hall.hand_at" (inClass (top 63) 4) 2 ["self","hand"]
def r64:FR:=fRw "state" "Hall.state" (inClass (top 63) 5) 2 ["self","hand"]
def r65:FR:=fRw "which" "Hall.which" (inClass (top 63) 6) 2 ["self","hand"]
def r66:FR:=fRw "slots" "Hall.slots" (inClass (top 63) 7) 2 ["self","hand"]
def r67:FR:=fRw "saw" "Hall.saw" (inClass (top 63) 8) 2 ["self","hand"]
def r68:FR:=fRw "journal" "Hall.journal" (inClass (top 63) 9) 1 ["self"]
def r69:FR:=fRw "taken" "Reader.taken" (inClass (top 55) 2) 1 ["self","word"]
def r70:FR:=fRw "pass_over" "Reader.pass_over" (inClass (top 55) 3) 2 ["self","wanted","word"]
def r71:FR:=fRw "slot_taken" "Reader.slot_taken" (inClass (top 55) 4) 1 ["self","word"]
def r72:FR:=fRw "name_taken" "Reader.name_taken" (inClass (top 55) 5) 1 ["self","word"]
def r73:FR:=fRw "number_taken" "Reader.number_taken" (inClass (top 55) 6) 1 ["self","word","number"]
def r74:FR:=fRw "reckon_taken" "Reader.reckon_taken" (inClass (top 55) 14) 2 ["self","word","slot","one","other"]
def r75:FR:=fRw "plain_taken" "Reader.plain_taken" (inClass (top 55) 13) 2 ["self","word","slot","place","name"]
def r76:FR:=fRw "list_taken" "Reader.list_taken" (inClass (top 55) 7) 2 ["self","around","parts"]
def r77:FR:=fRw "side_taken" "Reader.side_taken" (inClass (top 55) 8) 2 ["self","around","parts"]
def r78:FR:=fRw "part_taken" "Reader.part_taken" (inClass (top 55) 9) 2 ["self","around","word"]
def r79:FR:=fRw "if_taken" "Reader.if_taken" (inClass (top 55) 10) 2 ["self","around","slot","parts","others"]
def r80:FR:=fRw "either_taken" "Reader.either_taken" (inClass (top 55) 11) 2 ["self","around","parts","others"]
def r81:FR:=fRw "try_taken" "Reader.try_taken" (inClass (top 55) 12) 2 ["self","around","parts","name","slot","others"]
def r82:FR:=fRw "read" "read" (top 53) 1 ["text","reader","deed"]
def r83:FR:=fRw "check_boxes" "check_boxes" (top 60) 1 ["boxes"]
def r84:FR:=fRw "rows_of_deeds" "rows_of_deeds" (top 62) 1 ["texts"]
def r85:FR:=fRw "rows_of_hands" "rows_of_hands" (top 61) 1 ["hands"]
def r86:FR:=fRw "__init__" "Hall.__init__" (inClass (top 63) 0) 3 ["self","boxes","hands"]
def r87:FR:=fRw "_law_cell_at" "_law_cell_at" (top 65) 2 ["_law_script","_law_k"]
def r88:FR:=fRw "_law_number_by" "_law_number_by" (top 66) 1 ["_law_cell","_law_part"]
def r89:FR:=fRw "_law_deed_by" "_law_deed_by" (top 67) 1 ["_law_cell","_law_some"]
def r90:FR:=fRw "_law_no_deed" "_law_no_deed" (top 68) 1 ["_law_cell","_law_some"]
noncomputable def r91:FR:=fRw "_law_boxes" "_law_boxes" (top 69) 1 ["_law_script","_law_many","_law_boxes_here","_law_mixed","_law_some"]
noncomputable def r92:FR:=fRw "_law_hands" "_law_hands" (top 70) 1 ["_law_script","_law_mixed","_law_many","_law_hands_here","_law_k","_law_cell","_law_count","_law_spoil","_law_deeds"]
def r93:FR:=fRw "_law_is_number" "_law_is_number" (top 71) 1 ["_law_thing"]
noncomputable def r94:FR:=fRw "_law_due" "_law_due" (top 72) 2 ["_law_boxes_here","_law_hands_here","_law_bad","_law_deeds","_law_text"]
def r95:FR:=fRw "_law_names" "_law_names" (top 73) 1 ["_law_e","_law_some"]
noncomputable def r96:FR:=fRw "_law_made" "_law_made" (top 74) 2 ["_law_boxes_here","_law_hands_here","_law_error","_law_made_here","_law_e"]
def r97:FR:=fRw "_law_numbers" "_law_numbers" (top 75) 2 ["_law_found","_law_due_here","_law_k"]
noncomputable def r98:FR:=fRw "_law_stands" "_law_stands" (top 76) 3 ["_law_hall","_law_boxes_here","_law_hands_here","_law_k","_law_due_here"]
noncomputable def r99:FR:=fRw "law" "law" (top 77) 1 ["_law_script","_law_boxes_here","_law_hands_here","_law_handed","_law_due_here","_law_names_here","_law_hall"]
def fT:List FR:=[r0,r1,r2,r3,r4,r5,r6,r7,r8,r9,r10,r11,r12,r13,r14,r15,r16,r17,r18,r19,r20,r21,r22,r23,r24,r25,r26,r27,r28,r29,r30,r31,r32,r33,r34,r35,r36,r37,r38,r39,r40,r41,r42,r43,r44,r45,r46,r47,r48,r49,r50,r51,r52,r53,r54,r55,r56,r57,r58,r59,r60,r61,r62,r63,r64,r65,r66,r67,r68,r69,r70,r71,r72,r73,r74,r75,r76,r77,r78,r79,r80,r81,r82,r83,r84,r85,r86,r87,r88,r89,r90,r91,r92,r93,r94,r95,r96,r97,r98,r99]
def fR (n:Nat):FR:=fT.getD n r0
def FR.ps (r:FR):List Str:=r.2.2.2.2.take r.2.2.2.1
abbrev fP (n:Nat):List Str:=FR.ps (fR n)
def AllP {α:Type}(p:α->Prop):List α->Prop
 | []=>True
 | c::cs=>p c/\AllP p cs
theorem AllP.get {α:Type}{p:α->Prop}{d:α}(hd:p d):∀ {cs:List α},AllP p cs->∀ k:Nat,p (cs.getD k d)
 | [],_,_=>hd
 | _::_,a,0=>a.1
 | _::_,a,k+1=>AllP.get hd a.2 k
theorem AllP.mem {α:Type}{p:α->Prop}:∀ {cs:List α},AllP p cs->∀ i∈cs,p i
 | c::cs,a,i,hi=>by
  rcases mem_cons.mp hi with rfl|hi
  .exact a.1
  .exact AllP.mem a.2 i hi
theorem ytz:AllP (fun r:FR=>yed r.2.2.2.2 r.ps (ybs r.2.2.1)) fT:=by
 repeat' first|exact True.intro|refine And.intro ?_ ?_|exact ⟨rfl,rfl,rfl,by rfl',rfl,by rfl',by rfl'⟩
theorem sc (n:Nat) {r:FR}(h:fR n=r:=by rfl):yed r.2.2.2.2 r.ps (ybs r.2.2.1):=h ▸ AllP.get (p:=fun r:FR=>yed r.2.2.2.2 r.ps (ybs r.2.2.1)) ytz.1 ytz n
noncomputable def mT:List (Nat×Str×Nat):=[mRw 1 "long" 22,mRw 2 "long" 23,mRw 3 "long" 24,mRw 4 "long" 25,mRw 5 "long" 29,mRw 6 "long" 30,mRw 7 "long" 31,mRw 8 "long" 26,mRw 9 "long" 27,mRw 11 "saw" 1,mRw 14 "state" 11,mRw 14 "new_run" 12,mRw 15 "boxes" 60,mRw 15 "stamps" 61,mRw 15 "hands" 62,mRw 15 "hand_at" 63,mRw 15 "state" 64,mRw 15 "which" 65,mRw 15 "slots" 66,mRw 15 "saw" 67,mRw 15 "journal" 68,mRw 10 "ahead" 41,mRw 10 "taken" 42,mRw 10 "pass_over" 43,mRw 10 "slot_taken" 44,mRw 10 "name_taken" 45,mRw 10 "number_taken" 46,mRw 10 "reckon_taken" 47,mRw 10 "plain_taken" 48,mRw 10 "list_taken" 49,mRw 10 "side_taken" 50,mRw 10 "part_taken" 51,mRw 10 "if_taken" 52,mRw 10 "either_taken" 53,mRw 10 "try_taken" 54,mRw 10 "taken" 69,mRw 10 "pass_over" 70,mRw 10 "slot_taken" 71,mRw 10 "name_taken" 72,mRw 10 "number_taken" 73,mRw 10 "reckon_taken" 74,mRw 10 "plain_taken" 75,mRw 10 "list_taken" 76,mRw 10 "side_taken" 77,mRw 10 "part_taken" 78,mRw 10 "if_taken" 79,mRw 10 "either_taken" 80,mRw 10 "try_taken" 81]
abbrev gRw (x:Str) (n:Nat):Str×Nat:=(x,n)
noncomputable def gT:List (Str×Nat):=[gRw "is_whole" 2,gRw "is_number" 3,gRw "is_made_of" 4,gRw "number_of" 5,gRw "is_word" 6,gRw "is_slot" 7,gRw "is_name" 8,gRw "list_long" 28,gRw "plain_rows" 32,gRw "first_row" 33,gRw "rows_between" 34,gRw "list_rows" 35,gRw "part_rows" 36,gRw "sided_rows" 37,gRw "rows_of" 38,gRw "words_of" 40,gRw "read" 55,gRw "check_boxes" 56,gRw "rows_of_deeds" 57,gRw "rows_of_hands" 58,gRw "read" 82,gRw "check_boxes" 83,gRw "rows_of_deeds" 84,gRw "rows_of_hands" 85,gRw "_law_cell_at" 87,gRw "_law_number_by" 88,gRw "_law_deed_by" 89,gRw "_law_no_deed" 90,gRw "_law_boxes" 91,gRw "_law_hands" 92,gRw "_law_is_number" 93,gRw "_law_due" 94,gRw "_law_names" 95,gRw "_law_made" 96,gRw "_law_numbers" 97,gRw "_law_stands" 98,gRw "law" 99]
noncomputable def kT:List (Nat×Nat):=[(1,14),(2,15),(3,16),(4,17),(5,18),(6,19),(7,20),(8,21),(10,39),(11,0),(12,10),(13,9),(14,13),(15,59),(15,86)]
def cT:List Str:=["Part","Let","Reckon","Take","Put","If","Either","Try","Throw","Wait","Reader","Log","Run","Doer","Hand","Hall"]
def zT:List Str:=["ValueError","all","any","bool","int","isinstance","len","list","range","sorted","sum"]
noncomputable def nT:List (Str×List Nat):=[("stack",[11]),("last_seen",[11]),("held",[12]),("width",[12,14]),("log",[12]),("rows",[12]),("at",[10,12]),("seen_stamps",[12]),("sides",[12]),("deeds",[14]),("nth",[14]),("sleeps",[14]),("before",[14]),("run",[14]),("numbers",[15]),("marks",[15]),("crew",[15]),("entries",[15]),("words",[10]),("slot",[1,2,3,4,5,7,8]),("number",[1]),("place",[3,4]),("parts",[5,6,7]),("others",[5,6,7]),("name",[7,8]),("word",[2]),("one",[2]),("other",[2])]
theorem ml1 {α:Type}{P:List α->Prop}(h:∀ a,P [a]):∀ us:List α,us.length=1->P us
 | [_],_=>h _
theorem ml2 {α:Type}{P:List α->Prop}(h:∀ a b,P [a,b]):∀ us:List α,us.length=2->P us
 | [_,_],_=>h _ _
theorem ml3 {α:Type}{P:List α->Prop}(h:∀ a b c,P [a,b,c]):∀ us:List α,us.length=3->P us
 | [_,_,_],_=>h _ _ _
theorem ml4 {α:Type}{P:List α->Prop}(h:∀ a b c d,P [a,b,c,d]):∀ us:List α,us.length=4->P us
 | [_,_,_,_],_=>h _ _ _ _
theorem ml5 {α:Type}{P:List α->Prop}(h:∀ a b c d e,P [a,b,c,d,e]):∀ us:List α,us.length=5->P us
 | [_,_,_,_,_],_=>h _ _ _ _ _
set_option genInjectivity false in
set_option genSizeOf false in
structure Ads where
 A:Nat->Addr
 fl:Nat->Addr×FuncData
 k_FIGURES:Tok
 k_LETTERS:Tok
 k_MOST_AROUND:Tok
 k_MOST_BOXES:Tok
 k_MOST_DEEDS:Tok
 k_MOST_HANDS:Tok
 k_MOST_ROWS:Tok
 k_SLOTS:Tok
 k_WIDE:Tok
 k_WORDS:Addr
abbrev Ads.a (t:Ads) (n:Nat):Addr:=(t.fl n).1
abbrev Ads.d (t:Ads) (n:Nat):FuncData:=(t.fl n).2
abbrev yfL (K:PySem.W.Frag) (t:Ads):Ck:=⟨K,t.A⟩
structure Txt (K:PySem.W.Frag) (mg:Str->Option Value) (t:Ads):Prop where
 f:∀ n,Fun K (fR n).1 (fR n).2.1 (fR n).2.2.1 (t.a n) (t.d n)
 b:∀ n,Binds K (t.d n) (fP n) []
 G:∀ n,mg (gT.getD n ("is_whole",2)).1=some (.ref (t.a (gT.getD n ("is_whole",2)).2))
 C:∀ n,mg (cT.getD n "Part")=some (.ref (t.A n))
 J:∀ n,Mk K (t.A (kT.getD n (1,14)).1) (t.a (kT.getD n (1,14)).2)
 M:∀ n,Meth K (t.A (mT.getD n (mRw 1 "long" 22)).1) (mT.getD n (mRw 1 "long" 22)).2.1 (t.a (mT.getD n (mRw 1 "long" 22)).2.2)
 mk_Part:makesIn K (t.A 0)=true
 io_Part:findIn K (.ref (t.A 0)) "__init__" = some (some (.builtin "object.__init__"))
 kp_Part:keepIn K (.ref (t.A 0))=true
 mk_Wait:makesIn K (t.A 9)=true
 io_Wait:findIn K (.ref (t.A 9)) "__init__" = some (some (.builtin "object.__init__"))
 kp_Wait:keepIn K (.ref (t.A 9))=true
 cf_Doer:yse K (t.A 13) "__init__" (t.a 9)
 cl:∀ k,Cls K (t.A k)
 N:∀ n,∀ k∈(nT.getD n ("stack",[11])).2,Cls K (t.A k)/\NoAttr K (t.A k) (nT.getD n ("stack",[11])).1
 isa:∀ r∈ycN,∀ (H:Hp) (a dx:Addr) (fs:List (Str×V)),H a=some (.ins (t.A r.1) dx fs)->IsI K H (.ref a) (.ref (t.A r.2.1)) r.2.2
 Z:∀ n,mg (zT.getD n "ValueError")=none
 m_FIGURES:mg "FIGURES" = some (.str "0123456789" t.k_FIGURES)
 m_LETTERS:mg "LETTERS" = some (.str "abcdefghijklmnopqrstuvwxyz" t.k_LETTERS)
 m_MOST_AROUND:mg "MOST_AROUND" = some (.int 8 t.k_MOST_AROUND)
 m_MOST_BOXES:mg "MOST_BOXES" = some (.int 16 t.k_MOST_BOXES)
 m_MOST_DEEDS:mg "MOST_DEEDS" = some (.int 6 t.k_MOST_DEEDS)
 m_MOST_HANDS:mg "MOST_HANDS" = some (.int 8 t.k_MOST_HANDS)
 m_MOST_ROWS:mg "MOST_ROWS" = some (.int 80 t.k_MOST_ROWS)
 m_SLOTS:mg "SLOTS" = some (.str "abcdefgh" t.k_SLOTS)
 m_WIDE:mg "WIDE" = some (.int 18446744073709551616 t.k_WIDE)
 m_WORDS:mg "WORDS" = some (.ref t.k_WORDS)
 kt_WORDS:KTp K t.k_WORDS ((["plus","minus","times","less","same"]:List Str).map V.str)
 m_HallError:mg "HallError" = some (.ref (xAd K "HallError"))
 m_NoHand:mg "NoHand" = some (.ref (xAd K "NoHand"))
 m_NoHands:mg "NoHands" = some (.ref (xAd K "NoHands"))
 m_NoBoxes:mg "NoBoxes" = some (.ref (xAd K "NoBoxes"))
 m_NoDeed:mg "NoDeed" = some (.ref (xAd K "NoDeed"))
 m_NoRow:mg "NoRow" = some (.ref (xAd K "NoRow"))
 x_NoBoxes:XCls K (xAd K "NoBoxes")
 x_NoHands:XCls K (xAd K "NoHands")
 x_NoDeed:XCls K (xAd K "NoDeed")
 xs__law_made:∀ k∈(["NoBoxes","NoHands","NoDeed"]:List Str),XSub K (xAd K k) (xAd K "HallError")
 isx:∀ r∈yva,(∀ a,PySem.W.KitX K (.ref a) (.ref (xAd K r.1)) (fun h=>∃ ox,PySem.W.InstAt h a ox (xAd K r.1) none))/\PySem.W.kitOne K (.ref (xAd K r.1)) (.ref (xAd K r.2.1))=some r.2.2
 isy:∀ r∈yvb,(∀ a,PySem.W.KitX K (.ref a) (.ref (xAd K r.1)) (fun h=>∃ ox,PySem.W.InstAt h a ox (xAd K r.1) none))/\PySem.W.kitOne K (.ref (xAd K r.1)) (.type r.2.1)=some r.2.2
theorem Txt.F {K:PySem.W.Frag}{mg:Str->Option Value}{t:Ads}(T:Txt K mg t) (n:Nat) (r:FR) (h:fR n=r:=by rfl):Fun K r.1 r.2.1 r.2.2.1 (t.a n) (t.d n):=h ▸ T.f n
theorem Txt.k {K:PySem.W.Frag}{mg:Str->Option Value}{t:Ads}(T:Txt K mg t) (n:Nat):keepIn K (.ref (t.a n))=true:=(T.f n).kp
section
variable {P:Program}{w:World}{K:PySem.W.Frag}{mg:Str->Option Value}{base:Heap}{t:Ads}
theorem ydL {n:Nat}{ck:Ck}{vs:List V}{H:Hp}{Q:VK}{E:XK}(h:spE ck n (fun _ _=>none) vs H Q E):False:=by
 obtain ⟨_,_,_,_,_,_,_,_,q,_⟩:=h
 cases q
theorem ydj {f:Addr}{fd:FuncData}{ps:List Str}{k n:Nat}{ck:Ck}:FnOk P w K mg base CX0 k f fd ps (spE ck n fun _ _=>none):=⟨fun vs H Q E h=>(ydL h).elim,fun A outer s H args us vs Q E _ _ _ _ h=>(ydL h).elim⟩
theorem ynx {n:Nat}{ck:Ck}{vs:List V}{H:Hp}{Q:VK}{E:XK}(h:spR ck n (fun _ _=>none) vs H Q E):False:=by
 obtain ⟨_,_,_,_,_,_,_,_,q,_⟩:=h
 cases q
theorem yfz {f:Addr}{fd:FuncData}{ps:List Str}{k n:Nat}{ck:Ck}:FnOk P w K mg base (CXr P w) k f fd ps (spR ck n fun _ _=>none):=⟨fun vs H Q E h=>(ynx h).elim,fun A outer s H args us vs Q E _ _ _ _ h=>(ynx h).elim⟩
local macro_rules | `(‹($n,$i,$r,$k,$p)›)=>`(FnOk $(Lean.mkIdent `P) $(Lean.mkIdent `w) $(Lean.mkIdent `K) $(Lean.mkIdent `mg) $(Lean.mkIdent `base) CX0 $n ($(Lean.mkIdent `t).a $i) ($(Lean.mkIdent `t).d $i) (FR.ps $r) (spE (yfL $(Lean.mkIdent `K) $(Lean.mkIdent `t)) $k $p))
structure yBI (P:Program) (w:World) (K:PySem.W.Frag) (mg:Str->Option Value) (base:Heap) (t:Ads) (n:Nat):Prop where
 yeE:‹(n+1,28,r28,1,(ybA n))›
 yle:‹(n+1,29,r29,1,(ykO n))›
 ygq:‹(n+1,30,r30,1,(ygn n))›
 yiF:‹(n+1,31,r31,1,(yiB n))›
 m_long:ylE P w K mg base (n+1) t.A "long" (fun k=>spE (yfL K t) 1 (ypW n k))
structure yBJ (P:Program) (w:World) (K:PySem.W.Frag) (mg:Str->Option Value) (base:Heap) (t:Ads) (n:Nat):Prop where
 yhO:‹(n+47,35,r35,2,(yeB n))›
 ymx:‹(n+47,36,r36,2,(yhI n))›
 ylf:‹(n+47,37,r37,2,(ygW n))›
structure yBK (P:Program) (w:World) (K:PySem.W.Frag) (mg:Str->Option Value) (base:Heap) (t:Ads) (n:Nat):Prop where
 ycj:‹(n+6,49,r49,2,(yJ n))›
 yck:‹(n+6,50,r50,2,(yo n))›
 ycQ:‹(n+6,51,r51,2,(yw n))›
 ygN:‹(n+6,52,r52,2,(ycF n))›
 yfi:‹(n+6,53,r53,2,(ybV n))›
 ygr:‹(n+6,54,r54,2,(ycu n))›
structure yBL (P:Program) (w:World) (K:PySem.W.Frag) (mg:Str->Option Value) (base:Heap) (t:Ads) (n:Nat):Prop where
 yds:FnOk P w K mg base (CXr P w) (n+52) (t.a 76) (t.d 76) (FR.ps r76) (spR (yfL K t) 2 (yP n))
 yfj:FnOk P w K mg base (CXr P w) (n+52) (t.a 77) (t.d 77) (FR.ps r77) (spR (yfL K t) 2 (yt n))
 yfk:FnOk P w K mg base (CXr P w) (n+52) (t.a 78) (t.d 78) (FR.ps r78) (spR (yfL K t) 2 (yD n))
 yfW:FnOk P w K mg base (CXr P w) (n+52) (t.a 79) (t.d 79) (FR.ps r79) (spR (yfL K t) 2 (yci n))
 yeF:FnOk P w K mg base (CXr P w) (n+52) (t.a 80) (t.d 80) (FR.ps r80) (spR (yfL K t) 2 (ybJ n))
 yfD:FnOk P w K mg base (CXr P w) (n+52) (t.a 81) (t.d 81) (FR.ps r81) (spR (yfL K t) 2 (ycb n))
variable (T:Txt K mg t)
include T
theorem yfl:FnOk P w K mg base CX0 (0+1) (t.a 14) (t.d 14) (FR.ps r14) (spI (yfL K t) 2 1 yeg):=zin (T.F 14 r14) (sc 14) rfl (by decide) fun cdv Ar outer sh H E hr=>(ybu (ybK (T.N 19) z_v) (ydy (ybK (T.N 20) z_v)))
theorem ygs:FnOk P w K mg base CX0 (0+1) (t.a 15) (t.d 15) (FR.ps r15) (spI (yfL K t) 4 2 ydf):=zin (T.F 15 r15) (sc 15) rfl (by decide) fun cdv Ar outer sh H E hr=>(ybu (ybK (T.N 25) z_v) (ybu (ybK (T.N 19) z_v) (ybu (ybK (T.N 26) z_v) (ydy (ybK (T.N 27) z_v)))))
theorem yeL:FnOk P w K mg base CX0 (0+1) (t.a 16) (t.d 16) (FR.ps r16) (spI (yfL K t) 2 3 ydJ):=zin (T.F 16 r16) (sc 16) rfl (by decide) fun cdv Ar outer sh H E hr=>(ybu (ybK (T.N 19) z_v) (ydy (ybK (T.N 21) z_v)))
theorem yfm:FnOk P w K mg base CX0 (0+1) (t.a 17) (t.d 17) (FR.ps r17) (spI (yfL K t) 2 4 yeh):=zin (T.F 17 r17) (sc 17) rfl (by decide) fun cdv Ar outer sh H E hr=>(ybu (ybK (T.N 21) z_v) (ydy (ybK (T.N 19) z_v)))
theorem yig:FnOk P w K mg base CX0 (0+1) (t.a 18) (t.d 18) (FR.ps r18) (spI (yfL K t) 3 5 yeA):=zin (T.F 18 r18) (sc 18) rfl (by decide) fun cdv Ar outer sh H E hr=>(ybu (ybK (T.N 19) z_v) (ybu (ybK (T.N 22) (ybR (ycX yM ybE (T.Z 7) (ya z_v yc)))) (ydy (ybK (T.N 23) (ybR (ycX yM ybE (T.Z 7) (ya z_v yc)))))))
theorem ygt:FnOk P w K mg base CX0 (0+1) (t.a 19) (t.d 19) (FR.ps r19) (spI (yfL K t) 2 6 ydg):=zin (T.F 19 r19) (sc 19) rfl (by decide) fun cdv Ar outer sh H E hr=>(ybu (ybK (T.N 22) (ybR (ycX yM ybE (T.Z 7) (ya z_v yc)))) (ydy (ybK (T.N 23) (ybR (ycX yM ybE (T.Z 7) (ya z_v yc))))))
theorem yhP:FnOk P w K mg base CX0 (0+1) (t.a 20) (t.d 20) (FR.ps r20) (spI (yfL K t) 4 7 yei):=zin (T.F 20 r20) (sc 20) rfl (by decide) fun cdv Ar outer sh H E hr=>(ybu (ybK (T.N 22) (ybR (ycX yM ybE (T.Z 7) (ya z_v yc)))) (ybu (ybK (T.N 24) z_v) (ybu (ybK (T.N 19) z_v) (ydy (ybK (T.N 23) (ybR (ycX yM ybE (T.Z 7) (ya z_v yc))))))))
theorem yet:FnOk P w K mg base CX0 (0+1) (t.a 21) (t.d 21) (FR.ps r21) (spI (yfL K t) 2 8 ydA):=zin (T.F 21 r21) (sc 21) rfl (by decide) fun cdv Ar outer sh H E hr=>(ybu (ybK (T.N 24) z_v) (ydy (ybK (T.N 19) z_v)))
theorem ymy:‹(0+1,22,r22,1,yiz)›:=zfn (T.F 22 r22) (sc 22) fun cdv Ar outer sh H E hr=>(yf (yk ym))
theorem yih:‹(0+1,23,r23,1,ygm)›:=zfn (T.F 23 r23) (sc 23) fun cdv Ar outer sh H E hr=>(yf (yk ym))
theorem ylg:‹(0+1,24,r24,1,yhF)›:=zfn (T.F 24 r24) (sc 24) fun cdv Ar outer sh H E hr=>(yf (yk ym))
theorem ymz:‹(0+1,25,r25,1,yiA)›:=zfn (T.F 25 r25) (sc 25) fun cdv Ar outer sh H E hr=>(yf (yk ym))
theorem yjz:‹(0+1,26,r26,1,ygU)›:=zfn (T.F 26 r26) (sc 26) fun cdv Ar outer sh H E hr=>(yf (yk ym))
theorem ylh:‹(0+1,27,r27,1,yhG)›:=zfn (T.F 27 r27) (sc 27) fun cdv Ar outer sh H E hr=>(yf (yk ym))
theorem yhQ:∀ n,yBI P w K mg base t n
 | 0=>⟨ydj,ydj,ydj,ydj,fun c=>⟨T.cl c,.inl fun _ _ _ _ h=>ydL h⟩⟩
 | n+1=>by
  have I:=yhQ n
  have ydk:=I.yeE
  have yyi:=I.yle
  have ysJ:=I.ygq
  have yvE:=I.yiF
  have G_long:=I.m_long
  exact ⟨zfn (T.F 28 r28) (sc 28) fun cdv Ar outer sh H E hr=>(yf (yk (ycM (yqW rfl) yyY (T.Z 10) (ya (ybR (ykI [] (yfT z_v) (fun _ _ _ _ _ _=>(ypP z_v G_long)))) yc)))),
   zfn (T.F 29 r29) (sc 29) fun cdv Ar outer sh H E hr=>(yf (yk (ybP ycl ydv (ybP ycl ydv ym (yF ydk (T.G 7) (T.k 28) (T.b 28) (ya (ybC (T.N 22) z_v) yc))) (yF ydk (T.G 7) (T.k 28) (T.b 28) (ya (ybC (T.N 23) z_v) yc))))),
   zfn (T.F 30 r30) (sc 30) fun cdv Ar outer sh H E hr=>(yf (yk (ybP ycl ydv (ybP ycl ydv ym (yF ydk (T.G 7) (T.k 28) (T.b 28) (ya (ybC (T.N 22) z_v) yc))) (yF ydk (T.G 7) (T.k 28) (T.b 28) (ya (ybC (T.N 23) z_v) yc))))),
   zfn (T.F 31 r31) (sc 31) fun cdv Ar outer sh H E hr=>(yf (yk (ybP ycl ydv (ybP ycl ydv ym (yF ydk (T.G 7) (T.k 28) (T.b 28) (ya (ybC (T.N 22) z_v) yc))) (yF ydk (T.G 7) (T.k 28) (T.b 28) (ya (ybC (T.N 23) z_v) yc))))),
   fun c=>⟨T.cl c,match c with|0=>.inl fun _ _ _ _ h=>ydL h|1=>.inr ⟨_,_,_,(T.M 0),(ymy T).mono (by omega),(T.b 22)⟩|2=>.inr ⟨_,_,_,(T.M 1),(yih T).mono (by omega),(T.b 23)⟩|3=>.inr ⟨_,_,_,(T.M 2),(ylg T).mono (by omega),(T.b 24)⟩|4=>.inr ⟨_,_,_,(T.M 3),(ymz T).mono (by omega),(T.b 25)⟩|5=>.inr ⟨_,_,_,(T.M 4),I.yle.mono (by omega),(T.b 29)⟩|6=>.inr ⟨_,_,_,(T.M 5),I.ygq.mono (by omega),(T.b 30)⟩|7=>.inr ⟨_,_,_,(T.M 6),I.yiF.mono (by omega),(T.b 31)⟩|8=>.inr ⟨_,_,_,(T.M 7),(yjz T).mono (by omega),(T.b 26)⟩|9=>.inr ⟨_,_,_,(T.M 8),(ylh T).mono (by omega),(T.b 27)⟩|10=>.inl fun _ _ _ _ h=>ydL h|11=>.inl fun _ _ _ _ h=>ydL h|12=>.inl fun _ _ _ _ h=>ydL h|13=>.inl fun _ _ _ _ h=>ydL h|14=>.inl fun _ _ _ _ h=>ydL h|15=>.inl fun _ _ _ _ h=>ydL h|c+16=>.inl fun _ _ _ _ h=>ydL h⟩⟩
theorem yjA:‹(0+1,32,r32,1,ygV)›:=zfn (T.F 32 r32) (sc 32) fun cdv Ar outer sh H E hr=>(yd (ybl (ybr (ycM yT (yen (K:=ckX _ _) T.isa) (T.Z 5) (ya z_v (ya (yeK (T.C 1)) yc)))) (yf (yk (ybR (ybF (ya (ydI (ya yC (ya (ybC (T.N 19) z_v) (ya (ybC (T.N 20) z_v) yc)))) yc))))) yx) (yd (ybl (ybr (ycM yT (yen (K:=ckX _ _) T.isa) (T.Z 5) (ya z_v (ya (yeK (T.C 2)) yc)))) (yf (yk (ybR (ybF (ya (ydI (ya (ybC (T.N 25) z_v) (ya (ybC (T.N 19) z_v) (ya (ybC (T.N 26) z_v) (ya (ybC (T.N 27) z_v) yc))))) yc))))) yx) (yd (ybl (ybr (ycM yT (yen (K:=ckX _ _) T.isa) (T.Z 5) (ya z_v (ya (yeK (T.C 3)) yc)))) (yf (yk (ybR (ybF (ya (ydI (ya yC (ya (ybC (T.N 19) z_v) (ya (ybC (T.N 21) z_v) yc)))) yc))))) yx) (yd (ybl (ybr (ycM yT (yen (K:=ckX _ _) T.isa) (T.Z 5) (ya z_v (ya (yeK (T.C 4)) yc)))) (yf (yk (ybR (ybF (ya (ydI (ya yC (ya (ybC (T.N 21) z_v) (ya (ybC (T.N 19) z_v) yc)))) yc))))) yx) (yd (ybl (ybr (ycM yT (yen (K:=ckX _ _) T.isa) (T.Z 5) (ya z_v (ya (yeK (T.C 8)) yc)))) (yf (yk (ybR (ybF (ya (ydI (ya yC (ya (ybC (T.N 24) z_v) (ya (ybC (T.N 19) z_v) yc)))) yc))))) yx) (yd (ybl (ybr (ycM yT (yen (K:=ckX _ _) T.isa) (T.Z 5) (ya z_v (ya (yeK (T.C 9)) yc)))) (yf (yk (ybR (ybF (ya (ydI (ya yC yc)) yc))))) yx) (yf (yk (ybR (ybF yc))))))))))
theorem yli:‹(0+1,33,r33,2,yhH)›:=zfn (T.F 33 r33) (sc 33) fun cdv Ar outer sh H E hr=>(yd (ybl (ybr (ycM yT (yen (K:=ckX _ _) T.isa) (T.Z 5) (ya z_v (ya (yeK (T.C 5)) yc)))) (yf (yk (ydI (ya yC (ya (ybC (T.N 19) z_v) (ya z_v yc)))))) yx) (yd (ybl (ybr (ycM yT (yen (K:=ckX _ _) T.isa) (T.Z 5) (ya z_v (ya (yeK (T.C 6)) yc)))) (yf (yk (ydI (ya yC (ya z_v yc))))) yx) (yf (yk (ydI (ya yC (ya (ybC (T.N 24) z_v) (ya (ybC (T.N 19) z_v) (ya z_v yc)))))))))
theorem yhR:‹(0+1,34,r34,2,yfJ)›:=zfn (T.F 34 r34) (sc 34) fun cdv Ar outer sh H E hr=>(yd (ybl (ybr (ycM yT (yen (K:=ckX _ _) T.isa) (T.Z 5) (ya z_v (ya (yeK (T.C 5)) yc)))) (yf (yk (ybR (ybF (ya (ydI (ya yC (ya z_v yc))) yc))))) yx) (yf (yk (ybR (ybF (ya (ydI (ya yC yc)) (ya (ydI (ya yC (ya z_v yc))) yc)))))))
theorem yqz:∀ n,yBJ P w K mg base t n
 | 0=>⟨ydj,ydj,ydj⟩
 | n+1=>by
  have I:=yqz n
  have yhS:=I.yhO
  have ymA:=I.ymx
  have ylj:=I.ylf
  exact ⟨zfn (T.F 35 r35) (sc 35) fun cdv Ar outer sh H E hr=>have nd:=(sc 35 (r:=r35)).nd;(yd (yjk (ybF yc)) (yd (ykJ (yfT z_v) yeZ (yf (yxu (yF ymA (T.G 12) (T.k 36) (T.b 36) (ya z_v (ya (ybP ycl ydv z_v (yxv (T.Z 6))) yc)))))) (yjl (yf (yk z_v))))),
   zfn (T.F 36 r36) (sc 36) fun cdv Ar outer sh H E hr=>(yd (ybl (yjM (yeX (ybr (ycM yT (yen (K:=ckX _ _) T.isa) (T.Z 5) (ya z_v (ya (yeK (T.C 5)) yc)))) (yeX (ybr (ycM yT (yen (K:=ckX _ _) T.isa) (T.Z 5) (ya z_v (ya (yeK (T.C 6)) yc)))) (ydH (ybr (ycM yT (yen (K:=ckX _ _) T.isa) (T.Z 5) (ya z_v (ya (yeK (T.C 7)) yc)))))))) (yf (yk (yF ylj (T.G 13) (T.k 37) (T.b 37) (ya z_v (ya z_v yc))))) yx) (yf (yk (yF (yjA T) (T.G 8) (T.k 32) (T.b 32) (ya z_v yc))))),
   zfn (T.F 37 r37) (sc 37) fun cdv Ar outer sh H E hr=>have nd:=(sc 37 (r:=r37)).nd;(yd (yu (ybP ycl ydv z_v (ypP z_v (yhQ T 45).m_long))) (yd (yu (ybP ymF yrx z_v (yF (yhQ T 45).yeE (T.G 7) (T.k 28) (T.b 28) (ya (ybC (T.N 23) z_v) yc)))) (yd (yu (yF yhS (T.G 11) (T.k 35) (T.b 35) (ya (ybC (T.N 22) z_v) (ya (ybP ycl ydv z_v ym) yc)))) (yd (yu (yF yhS (T.G 11) (T.k 35) (T.b 35) (ya (ybC (T.N 23) z_v) (ya z_v yc)))) (yf (yk (ybR (ygj ygd yje (ybR (ygj ygd yje (ybR (ygj ygd yje (ybR (ybF (ya (yF (yli T) (T.G 9) (T.k 33) (T.b 33) (ya z_v (ya z_v yc))) yc))) z_v)) (yF (yhR T) (T.G 10) (T.k 34) (T.b 34) (ya z_v (ya z_v yc))))) z_v))))))))⟩
theorem ygO:‹(92+1,38,r38,1,ydr)›:=zfn (T.F 38 r38) (sc 38) fun cdv Ar outer sh H E hr=>(yf (yk (ybR (ygj ygd yje (yF (yqz T 45).yhO (T.G 11) (T.k 35) (T.b 35) (ya z_v (ya ym yc))) (ybR (ybF (ya (ydI (ya yC yc)) yc)))))))
theorem ygu:‹(0+1,4,r4,2,ydq)›:=zfn (T.F 4 r4) (sc 4) fun cdv Ar outer sh H E hr=>(yf (yk (ycM (yhg rfl) yrz (T.Z 1) (ya (ybR (ykI ["signs"] (yxr z_v) (fun _ _ _ _ _ _=>(ymh yjZ ywE z_v z_v)))) yc))))
theorem ygX:‹(1+1,5,r5,1,ycO)›:=zfn (T.F 5 r5) (sc 5) fun cdv Ar outer sh H E hr=>have nd:=(sc 5 (r:=r5)).nd;(yd (ybl (yjM (yeX (ycm (ydS yew yew yjd yjd ym (ycM ydP ymS (T.Z 6) (ya z_v yc)) ym)) (ydH (ycm (ybr (yF (ygu T) (T.G 2) (T.k 4) (T.b 4) (ya z_v (ya (ynf T.m_FIGURES) yc)))))))) (yf (yk yeW)) yx) (yd (ybl (yjM (ypO (yI ycV ygh (yfH ywe yyW z_v ym) yC) (ymj (yI ylq yup z_v yC)))) (yf (yk yeW)) yx) (yd (yu (yzS yka ywG (T.Z 4) (ya z_v yc))) (yf (yk (yuF (yI ylr yuo z_v (yeJ T.m_WIDE)) z_v yeW))))))
theorem yiG:‹(0+1,6,r6,1,yfc)›:=zfn (T.F 6 r6) (sc 6) fun cdv Ar outer sh H E hr=>(yf (yk (ymh yjV yxf z_v (yxy (ss:=["plus","minus","times","less","same"]) T.m_WORDS T.kt_WORDS))))
theorem yiH:‹(0+1,7,r7,1,yfd)›:=zfn (T.F 7 r7) (sc 7) fun cdv Ar outer sh H E hr=>(yf (yk (ynV (ymh ycV ygh (ycM ydP ymS (T.Z 6) (ya z_v yc)) ym) (ypN (ymh yjZ ywE z_v (ynf T.m_SLOTS))))))
theorem yiI:‹(1+1,8,r8,1,yfe)›:=zfn (T.F 8 r8) (sc 8) fun cdv Ar outer sh H E hr=>(yf (yk (ynV (ymi yew yew yjd yjd ym (ycM ydP ymS (T.Z 6) (ya z_v yc)) ym) (ypN (yF (ygu T) (T.G 2) (T.k 4) (T.b 4) (ya z_v (ya (ynf T.m_LETTERS) yc)))))))
theorem yhT:‹(0+1,2,r2,1,yep)›:=zfn (T.F 2 r2) (sc 2) fun cdv Ar outer sh H E hr=>(yf (yk (ynV (ycM yT (yen (K:=ckX _ _) T.isa) (T.Z 5) (ya z_v (ya (ykH (T.Z 4)) yc))) (ypN (yuE (ycM yT (yen (K:=ckX _ _) T.isa) (T.Z 5) (ya z_v (ya (ykH (T.Z 3)) yc))))))))
theorem ygY:‹(1+1,3,r3,1,yde)›:=zfn (T.F 3 r3) (sc 3) fun cdv Ar outer sh H E hr=>(yf (yk (ynV (yF (yhT T) (T.G 0) (T.k 2) (T.b 2) (ya z_v yc)) (ypN (ymi yew ylr yjd yuo ym z_v (yeJ T.m_WIDE))))))
theorem yec:FnOk P w K mg base CX0 (0+1) (t.a 39) (t.d 39) (FR.ps r39) (spI (yfL K t) 1 10 ycE):=zin (T.F 39 r39) (sc 39) rfl (by decide) fun cdv Ar outer sh H E hr=>(ybu (ybK (T.N 18) (ybR (ycX yM ybE (T.Z 7) (ya z_v yc)))) (ydy (ybK (T.N 6) ym)))
theorem yhU:‹(0+1,40,r40,1,yeq)›:=zfn (T.F 40 r40) (sc 40) fun cdv Ar outer sh H E hr=>(yd (ybl (yI ycV ygh z_v yC) (yf (yk (ybR (ybF yc)))) yx) (yf (yk (yyr PySem.F.plainAttrs_str PySem.F.slot_str_split PySem.F.type_str_split ysf m_split z_v (ya yC yc)))))
theorem ybc:‹(0+1,41,r41,1,yV)›:=zfn (T.F 41 r41) (sc 41) fun cdv Ar outer sh H E hr=>(yd (ybl (yI ylr yuo (ybC (T.N 6) z_v) (ycM yn ybS (T.Z 6) (ya (ybC (T.N 18) z_v) yc))) (yf (yk (yfH ybz ydx (ybC (T.N 18) z_v) (ybC (T.N 6) z_v)))) yx) (yf (yk yeW)))
theorem ybd:‹(1+1,42,r42,1,yQ)›:=zfn (T.F 42 r42) (sc 42) fun cdv Ar outer sh H E hr=>have nd:=(sc 42 (r:=r42)).nd;(yd (yu (yr z_v (T.M 21) (ybc T) (T.b 41))) (yd (ybl (yI yhq ylX z_v yeW) (yf ycs) yx) (yd (ydd (T.N 6) z_v (ybP ycl ydv (ybC (T.N 6) z_v) ym)) (yf (yk z_v)))))
theorem yE:‹(2+1,43,r43,2,yp)›:=zfn (T.F 43 r43) (sc 43) fun cdv Ar outer sh H E hr=>have nd:=(sc 43 (r:=r43)).nd;(yd (yu (yr z_v (T.M 22) (ybd T) (T.b 42))) (yf (ybl (yI ylq yup z_v z_v) (yf ycs) yx)))
theorem yj:‹(2+1,44,r44,1,yi)›:=zfn (T.F 44 r44) (sc 44) fun cdv Ar outer sh H E hr=>have nd:=(sc 44 (r:=r44)).nd;(yd (yu (yr z_v (T.M 22) (ybd T) (T.b 42))) (yd (ybl (ycm (ybr (yF (yiH T) (T.G 5) (T.k 7) (T.b 7) (ya z_v yc)))) (yf ycs) yx) (yf (yk z_v))))
theorem ycc:‹(2+1,45,r45,1,ybe)›:=zfn (T.F 45 r45) (sc 45) fun cdv Ar outer sh H E hr=>have nd:=(sc 45 (r:=r45)).nd;(yd (yu (yr z_v (T.M 22) (ybd T) (T.b 42))) (yd (ybl (ycm (ybr (yF (yiI T) (T.G 6) (T.k 8) (T.b 8) (ya z_v yc)))) (yf ycs) yx) (yf (yk z_v))))
theorem yeQ:‹(2+1,46,r46,1,ybT)›:=zfn (T.F 46 r46) (sc 46) fun cdv Ar outer sh H E hr=>have nd:=(sc 46 (r:=r46)).nd;(yd (yu (yr z_v (T.M 22) (ybd T) (T.b 42))) (yd (yu (yF (ygX T) (T.G 3) (T.k 5) (T.b 5) (ya z_v yc))) (yd (ybl (yI yhq ylX z_v yeW) (yf ycs) yx) (yf (yk z_v)))))
theorem yeR:‹(3+1,47,r47,2,ybU)›:=zfn (T.F 47 r47) (sc 47) fun cdv Ar outer sh H E hr=>have nd:=(sc 47 (r:=r47)).nd;(yd (yu (yr z_v (T.M 24) (yj T) (T.b 44))) (yd (yu (yr z_v (T.M 24) (yj T) (T.b 44))) (yd (yu (yr z_v (T.M 24) (yj T) (T.b 44))) (yf (yk (ybR (yeY (T.J 1) (ygs T) (T.C 2) (T.b 15) (ya z_v (ya z_v (ya z_v (ya z_v yc)))))))))))
theorem yfo:‹(4+1,48,r48,2,yca)›:=zfn (T.F 48 r48) (sc 48) fun cdv Ar outer sh H E hr=>have nd:=(sc 48 (r:=r48)).nd;(yd (ybl (yI ycV ygh z_v yC) (yd (yu (yr z_v (T.M 24) (yj T) (T.b 44))) (yf (yk (ybR (yeY (T.J 0) (yfl T) (T.C 1) (T.b 14) (ya z_v (ya (yr z_v (T.M 26) (yeQ T) (T.b 46)) yc))))))) yx) (yd (ybl (yI ycV ygh z_v yC) (yd (yu (yr z_v (T.M 24) (yj T) (T.b 44))) (yf (yk (ybR (yeY (T.J 2) (yeL T) (T.C 3) (T.b 16) (ya z_v (ya (yr z_v (T.M 24) (yj T) (T.b 44)) yc))))))) yx) (yd (ybl (yI ycV ygh z_v yC) (yd (yu (yr z_v (T.M 24) (yj T) (T.b 44))) (yf (yk (ybR (yeY (T.J 3) (yfm T) (T.C 4) (T.b 17) (ya z_v (ya (yr z_v (T.M 24) (yj T) (T.b 44)) yc))))))) yx) (yd (ybl (yI ycV ygh z_v yC) (yd (yu (yr z_v (T.M 25) (ycc T) (T.b 45))) (yf (yk (ybR (yeY (T.J 7) (yet T) (T.C 8) (T.b 21) (ya z_v (ya (yr z_v (T.M 24) (yj T) (T.b 44)) yc))))))) yx) (yd (ybl (yI ycV ygh z_v yC) (yf (yk (ybR (yuG T.mk_Wait T.io_Wait T.kp_Wait (T.C 9))))) yx) (yd (ybl (ybr (yF (yiG T) (T.G 4) (T.k 6) (T.b 6) (ya z_v yc))) (yf (yk (yR z_v (T.M 27) (yeR T) (T.b 47) (ya z_v yc)))) yx) (yf ycs)))))))
theorem yeG:∀ n,yBK P w K mg base t n
 | 0=>⟨ydj,ydj,ydj,ydj,ydj,ydj⟩
 | n+1=>by
  have I:=yeG n
  have yfX:=I.ycj
  have ybq:=I.yck
  have ydM:=I.ycQ
  have ygP:=I.ygN
  have yfp:=I.yfi
  have ygv:=I.ygr
  exact ⟨zfn (T.F 49 r49) (sc 49) fun cdv Ar outer sh H E hr=>have nd:=(sc 49 (r:=r49)).nd;(yd (ybl (yjM (yeX (yI yhq ylX (yr z_v (T.M 21) (ybc T) (T.b 41)) yeW) (ydH (yI ycV ygh (yr z_v (T.M 21) (ybc T) (T.b 41)) yC)))) (yf (yk (ybR (ybF yc)))) yx) (yd (yjk (ybF (ya (yR z_v (T.M 31) ydM (T.b 51) (ya z_v yc)) yc))) (yd (yrX (yI ycV ygh (yr z_v (T.M 21) (ybc T) (T.b 41)) yC) (yd (ycx (yR z_v (T.M 23) (yE T) (T.b 43) (ya yC yc))) (yf (ypQ (yR z_v (T.M 31) ydM (T.b 51) (ya z_v yc)))))) (yjl (yf (yk z_v)))))),
   zfn (T.F 50 r50) (sc 50) fun cdv Ar outer sh H E hr=>have nd:=(sc 50 (r:=r50)).nd;(yd (ycx (yR z_v (T.M 23) (yE T) (T.b 43) (ya yC yc))) (yd (yu (yR z_v (T.M 29) yfX (T.b 49) (ya z_v yc))) (yd (ycx (yR z_v (T.M 23) (yE T) (T.b 43) (ya yC yc))) (yf (yk z_v))))),
   zfn (T.F 51 r51) (sc 51) fun cdv Ar outer sh H E hr=>have nd:=(sc 51 (r:=r51)).nd;(yd (ybl (yI yhp ypl z_v (yeJ T.m_MOST_AROUND)) (yf ycs) yx) (yd (yu (yr z_v (T.M 22) (ybd T) (T.b 42))) (yd (ybl (yI ycV ygh z_v yC) (yf (yk (yR z_v (T.M 32) ygP (T.b 52) (ya (ybP ycl ydv z_v ym) yc)))) yx) (yd (ybl (yI ycV ygh z_v yC) (yf (yk (yR z_v (T.M 33) yfp (T.b 53) (ya (ybP ycl ydv z_v ym) yc)))) yx) (yd (ybl (yI ycV ygh z_v yC) (yf (yk (yR z_v (T.M 34) ygv (T.b 54) (ya (ybP ycl ydv z_v ym) yc)))) yx) (yf (yk (yR z_v (T.M 28) (yfo T) (T.b 48) (ya z_v yc))))))))),
   zfn (T.F 52 r52) (sc 52) fun cdv Ar outer sh H E hr=>have nd:=(sc 52 (r:=r52)).nd;(yd (yu (yr z_v (T.M 24) (yj T) (T.b 44))) (yd (yu (yR z_v (T.M 30) ybq (T.b 50) (ya z_v yc))) (yd (ycx (yR z_v (T.M 23) (yE T) (T.b 43) (ya yC yc))) (yd (yu (yR z_v (T.M 30) ybq (T.b 50) (ya z_v yc))) (yf (yk (ybR (yeY (T.J 4) (yig T) (T.C 5) (T.b 18) (ya z_v (ya z_v (ya z_v yc))))))))))),
   zfn (T.F 53 r53) (sc 53) fun cdv Ar outer sh H E hr=>have nd:=(sc 53 (r:=r53)).nd;(yd (yu (yR z_v (T.M 30) ybq (T.b 50) (ya z_v yc))) (yd (ycx (yR z_v (T.M 23) (yE T) (T.b 43) (ya yC yc))) (yd (yu (yR z_v (T.M 30) ybq (T.b 50) (ya z_v yc))) (yf (yk (ybR (yeY (T.J 5) (ygt T) (T.C 6) (T.b 19) (ya z_v (ya z_v yc))))))))),
   zfn (T.F 54 r54) (sc 54) fun cdv Ar outer sh H E hr=>have nd:=(sc 54 (r:=r54)).nd;(yd (yu (yR z_v (T.M 30) ybq (T.b 50) (ya z_v yc))) (yd (ycx (yR z_v (T.M 23) (yE T) (T.b 43) (ya yC yc))) (yd (yu (yr z_v (T.M 25) (ycc T) (T.b 45))) (yd (yu (yr z_v (T.M 24) (yj T) (T.b 44))) (yd (yu (yR z_v (T.M 30) ybq (T.b 50) (ya z_v yc))) (yf (yk (ybR (yeY (T.J 6) (yhP T) (T.C 7) (T.b 20) (ya z_v (ya z_v (ya z_v (ya z_v yc)))))))))))))⟩
theorem ycf:FnOk P w K mg base (CXr P w) (1+1) (t.a 69) (t.d 69) (FR.ps r69) (spR (yfL K t) 1 ybm):=yfn (T.F 69 r69) (sc 69) fun cdv Ar outer sh H E hr=>have nd:=(sc 69 (r:=r69)).nd;(ygJ (yu (yr z_v (T.M 21) (ybc T) (T.b 41))) (ycI (yI yhq ylX z_v yeW) (yS (ycD T.x_NoDeed T.m_NoDeed yC)) ygk))
theorem ybg:FnOk P w K mg base (CXr P w) (2+1) (t.a 70) (t.d 70) (FR.ps r70) (spR (yfL K t) 2 yK):=yfn (T.F 70 r70) (sc 70) fun cdv Ar outer sh H E hr=>have nd:=(sc 70 (r:=r70)).nd;(ybv (yct (i:=2) (ybG z_v (T.M 35) (ycf T) (T.b 69))) (yu (yr z_v (T.M 22) (ybd T) (T.b 42))) (ycI (yI ylq yup z_v z_v) (yS (ycD T.x_NoDeed T.m_NoDeed (ybP ydc yhy (ybP ydc yhy (ybP ydc yhy yC z_v) yC) z_v))) ygk))
theorem yB:FnOk P w K mg base (CXr P w) (2+1) (t.a 71) (t.d 71) (FR.ps r71) (spR (yfL K t) 1 yq):=yfn (T.F 71 r71) (sc 71) fun cdv Ar outer sh H E hr=>have nd:=(sc 71 (r:=r71)).nd;(ybv (yct (i:=1) (ybG z_v (T.M 35) (ycf T) (T.b 69))) (yu (yr z_v (T.M 22) (ybd T) (T.b 42))) (ycI (ycm (ybr (yF (yiH T) (T.G 5) (T.k 7) (T.b 7) (ya z_v yc)))) (yS (ycD T.x_NoDeed T.m_NoDeed (ybP ydc yhy yC z_v))) ygk))
theorem ydb:FnOk P w K mg base (CXr P w) (2+1) (t.a 72) (t.d 72) (FR.ps r72) (spR (yfL K t) 1 ybx):=yfn (T.F 72 r72) (sc 72) fun cdv Ar outer sh H E hr=>have nd:=(sc 72 (r:=r72)).nd;(ybv (yct (i:=1) (ybG z_v (T.M 35) (ycf T) (T.b 69))) (yu (yr z_v (T.M 22) (ybd T) (T.b 42))) (ycI (ycm (ybr (yF (yiI T) (T.G 6) (T.k 8) (T.b 8) (ya z_v yc)))) (yS (ycD T.x_NoDeed T.m_NoDeed (ybP ydc yhy yC z_v))) ygk))
theorem yeu:FnOk P w K mg base (CXr P w) (2+1) (t.a 73) (t.d 73) (FR.ps r73) (spR (yfL K t) 1 ybH):=yfn (T.F 73 r73) (sc 73) fun cdv Ar outer sh H E hr=>have nd:=(sc 73 (r:=r73)).nd;(ybv (yct (i:=1) (ybG z_v (T.M 35) (ycf T) (T.b 69))) (yu (yr z_v (T.M 22) (ybd T) (T.b 42))) (ygJ (yu (yF (ygX T) (T.G 3) (T.k 5) (T.b 5) (ya z_v yc))) (ycI (yI yhq ylX z_v yeW) (yS (ycD T.x_NoDeed T.m_NoDeed (ybP ydc yhy yC z_v))) ygk)))
theorem yev:FnOk P w K mg base (CXr P w) (3+1) (t.a 74) (t.d 74) (FR.ps r74) (spR (yfL K t) 2 ybI):=yfn (T.F 74 r74) (sc 74) fun cdv Ar outer sh H E hr=>have nd:=(sc 74 (r:=r74)).nd;(ybv (yct (i:=2) (ybG z_v (T.M 37) (yB T) (T.b 71))) (yu (yr z_v (T.M 24) (yj T) (T.b 44))) (ybv (yct (i:=3) (ybG z_v (T.M 37) (yB T) (T.b 71))) (yu (yr z_v (T.M 24) (yj T) (T.b 44))) (yS (yct (i:=4) (ybG z_v (T.M 37) (yB T) (T.b 71))))))
theorem yeH:FnOk P w K mg base (CXr P w) (4+1) (t.a 75) (t.d 75) (FR.ps r75) (spR (yfL K t) 2 ybO):=yfn (T.F 75 r75) (sc 75) fun cdv Ar outer sh H E hr=>have nd:=(sc 75 (r:=r75)).nd;(ycI (yI ycV ygh z_v yC) (ybv (yct (i:=2) (ybG z_v (T.M 37) (yB T) (T.b 71))) (yu (yr z_v (T.M 24) (yj T) (T.b 44))) (yS (yfb (yjo (T.J 0) (yfl T) (T.C 1) (T.b 14) (yjn z_v (yfV (ybG z_v (T.M 39) (yeu T) (T.b 73)))))))) (ycI (yI ycV ygh z_v yC) (ybv (yct (i:=2) (ybG z_v (T.M 37) (yB T) (T.b 71))) (yu (yr z_v (T.M 24) (yj T) (T.b 44))) (yS (yfb (yjo (T.J 2) (yeL T) (T.C 3) (T.b 16) (yjn z_v (yfV (ybG z_v (T.M 37) (yB T) (T.b 71)))))))) (ycI (yI ycV ygh z_v yC) (ybv (yct (i:=3) (ybG z_v (T.M 37) (yB T) (T.b 71))) (yu (yr z_v (T.M 24) (yj T) (T.b 44))) (yS (yfb (yjo (T.J 3) (yfm T) (T.C 4) (T.b 17) (yjn z_v (yfV (ybG z_v (T.M 37) (yB T) (T.b 71)))))))) (ycI (yI ycV ygh z_v yC) (ybv (yct (i:=4) (ybG z_v (T.M 38) (ydb T) (T.b 72))) (yu (yr z_v (T.M 25) (ycc T) (T.b 45))) (yS (yfb (yjo (T.J 7) (yet T) (T.C 8) (T.b 21) (yjn z_v (yfV (ybG z_v (T.M 37) (yB T) (T.b 71)))))))) (ycI (yI ycV ygh z_v yC) ygk (ycI (ybr (yF (yiG T) (T.G 4) (T.k 6) (T.b 6) (ya z_v yc))) (yS (yfb (ybW z_v (T.M 40) (yev T) (T.b 74) (ya z_v yc)))) (yS (ycD T.x_NoDeed T.m_NoDeed (ybP ydc yhy yC z_v)))))))))
theorem yqA:∀ n,yBL P w K mg base t n
 | 0=>⟨yfz,yfz,yfz,yfz,yfz,yfz⟩
 | n+1=>by
  have I:=yqA n
  have yfq:=I.yds
  have ybh:=I.yfj
  have ydt:=I.yfk
  have yfY:=I.yfW
  have yeI:=I.yeF
  have yfE:=I.yfD
  exact ⟨yfn (T.F 76 r76) (sc 76) fun cdv Ar outer sh H E hr=>have nd:=(sc 76 (r:=r76)).nd;(ycI (yjM (yeX (yI yhq ylX (yr z_v (T.M 21) (ybc T) (T.b 41)) yeW) (ydH (yI ycV ygh (yr z_v (T.M 21) (ybc T) (T.b 41)) yC)))) ygk (ybv (yct (i:=2) (yzT (yfV (ybW z_v (T.M 44) ydt (T.b 78) (ya z_v yc))))) (yjk (ybF (ya (yR z_v (T.M 31) (yeG T 45).ycQ (T.b 51) (ya z_v yc)) yc))) (yS (ysh (yI ycV ygh (yr z_v (T.M 21) (ybc T) (T.b 41)) yC) (yd (ycx (yR z_v (T.M 23) (yE T) (T.b 43) (ya yC yc))) (yf (ypQ (yR z_v (T.M 31) (yeG T 45).ycQ (T.b 51) (ya z_v yc))))) (ybv (yfU (ybW z_v (T.M 36) (ybg T) (T.b 70) (ya yC yc))) (ycx (yR z_v (T.M 23) (yE T) (T.b 43) (ya yC yc))) (yS (yxB (ybW z_v (T.M 44) ydt (T.b 78) (ya z_v yc))))))))),
   yfn (T.F 77 r77) (sc 77) fun cdv Ar outer sh H E hr=>have nd:=(sc 77 (r:=r77)).nd;(ybv (yfU (ybW z_v (T.M 36) (ybg T) (T.b 70) (ya yC yc))) (ycx (yR z_v (T.M 23) (yE T) (T.b 43) (ya yC yc))) (ybv (yct (i:=2) (ybW z_v (T.M 42) yfq (T.b 76) (ya z_v yc))) (yu (yR z_v (T.M 29) (yeG T 45).ycj (T.b 49) (ya z_v yc))) (yS (yfU (ybW z_v (T.M 36) (ybg T) (T.b 70) (ya yC yc)))))),
   yfn (T.F 78 r78) (sc 78) fun cdv Ar outer sh H E hr=>have nd:=(sc 78 (r:=r78)).nd;(ycI (yI yhp ypl z_v (yeJ T.m_MOST_AROUND)) (yS (ycD T.x_NoDeed T.m_NoDeed yC)) (ybv (yct (i:=2) (ybG z_v (T.M 35) (ycf T) (T.b 69))) (yu (yr z_v (T.M 22) (ybd T) (T.b 42))) (ycI (yI ycV ygh z_v yC) (yS (yfb (ybW z_v (T.M 45) yfY (T.b 79) (ya (ybP ycl ydv z_v ym) yc)))) (ycI (yI ycV ygh z_v yC) (yS (yfb (ybW z_v (T.M 46) yeI (T.b 80) (ya (ybP ycl ydv z_v ym) yc)))) (ycI (yI ycV ygh z_v yC) (yS (yfb (ybW z_v (T.M 47) yfE (T.b 81) (ya (ybP ycl ydv z_v ym) yc)))) (yS (yfb (ybW z_v (T.M 41) (yeH T) (T.b 75) (ya z_v yc))))))))),
   yfn (T.F 79 r79) (sc 79) fun cdv Ar outer sh H E hr=>have nd:=(sc 79 (r:=r79)).nd;(ybv (yct (i:=2) (ybG z_v (T.M 37) (yB T) (T.b 71))) (yu (yr z_v (T.M 24) (yj T) (T.b 44))) (ybv (yct (i:=3) (ybW z_v (T.M 43) ybh (T.b 77) (ya z_v yc))) (yu (yR z_v (T.M 30) (yeG T 45).yck (T.b 50) (ya z_v yc))) (ybv (yfU (ybW z_v (T.M 36) (ybg T) (T.b 70) (ya yC yc))) (ycx (yR z_v (T.M 23) (yE T) (T.b 43) (ya yC yc))) (yS (yct (i:=4) (ybW z_v (T.M 43) ybh (T.b 77) (ya z_v yc))))))),
   yfn (T.F 80 r80) (sc 80) fun cdv Ar outer sh H E hr=>have nd:=(sc 80 (r:=r80)).nd;(ybv (yct (i:=2) (ybW z_v (T.M 43) ybh (T.b 77) (ya z_v yc))) (yu (yR z_v (T.M 30) (yeG T 45).yck (T.b 50) (ya z_v yc))) (ybv (yfU (ybW z_v (T.M 36) (ybg T) (T.b 70) (ya yC yc))) (ycx (yR z_v (T.M 23) (yE T) (T.b 43) (ya yC yc))) (yS (yct (i:=3) (ybW z_v (T.M 43) ybh (T.b 77) (ya z_v yc)))))),
   yfn (T.F 81 r81) (sc 81) fun cdv Ar outer sh H E hr=>have nd:=(sc 81 (r:=r81)).nd;(ybv (yct (i:=2) (ybW z_v (T.M 43) ybh (T.b 77) (ya z_v yc))) (yu (yR z_v (T.M 30) (yeG T 45).yck (T.b 50) (ya z_v yc))) (ybv (yfU (ybW z_v (T.M 36) (ybg T) (T.b 70) (ya yC yc))) (ycx (yR z_v (T.M 23) (yE T) (T.b 43) (ya yC yc))) (ybv (yct (i:=3) (ybG z_v (T.M 38) (ydb T) (T.b 72))) (yu (yr z_v (T.M 25) (ycc T) (T.b 45))) (ybv (yct (i:=4) (ybG z_v (T.M 37) (yB T) (T.b 71))) (yu (yr z_v (T.M 24) (yj T) (T.b 44))) (yS (yct (i:=5) (ybW z_v (T.M 43) ybh (T.b 77) (ya z_v yc))))))))⟩
theorem yqB:‹(51+1,55,r55,1,ydU)›:=zfn (T.F 55 r55) (sc 55) fun cdv Ar outer sh H E hr=>have nd:=(sc 55 (r:=r55)).nd;(yd (yu (yeo (yeY (T.J 8) (yec T) (T.C 10) (T.b 39) (ya (yF (yhU T) (T.G 15) (T.k 40) (T.b 40) (ya z_v yc)) yc)))) (yd (yu (yR z_v (T.M 29) (yeG T 45).ycj (T.b 49) (ya ym yc))) (yd (ybl (yI yoD ytg (yr z_v (T.M 21) (ybc T) (T.b 41)) yeW) (yf ycs) yx) (yd (ybl (yI yhp ypl (ybP ycl ydv (yF (yhQ T 45).yeE (T.G 7) (T.k 28) (T.b 28) (ya z_v yc)) ym) (yeJ T.m_MOST_ROWS)) (yf ycs) yx) (yf (yk z_v))))))
theorem yqC:FnOk P w K mg base (CXr P w) (97+1) (t.a 82) (t.d 82) (FR.ps r82) (spR (yfL K t) 1 ydC):=yfn (T.F 82 r82) (sc 82) fun cdv Ar outer sh H E hr=>have nd:=(sc 82 (r:=r82)).nd;(ygJ (yu (yeo (yeY (T.J 8) (yec T) (T.C 10) (T.b 39) (ya (yF (yhU T) (T.G 15) (T.k 40) (T.b 40) (ya z_v yc)) yc)))) (ybv (yct (i:=2) (ybW z_v (T.M 42) (yqA T 45).yds (T.b 76) (ya ym yc))) (yu (yR z_v (T.M 29) (yeG T 45).ycj (T.b 49) (ya ym yc))) (ycI (yI yoD ytg (yr z_v (T.M 21) (ybc T) (T.b 41)) yeW) (yS (ycD T.x_NoDeed T.m_NoDeed yC)) (ycI (yI yhp ypl (ybP ycl ydv (yF (yhQ T 45).yeE (T.G 7) (T.k 28) (T.b 28) (ya z_v yc)) ym) (yeJ T.m_MOST_ROWS)) (yS (ycD T.x_NoDeed T.m_NoDeed yC)) ygk))))
theorem yhV:FnOk P w K mg base CX0 (0+1) (t.a 0) (t.d 0) (FR.ps r0) (spI (yfL K t) 0 11 yfI):=zin (T.F 0 r0) (sc 0) rfl (by decide) fun cdv Ar outer sh H E hr=>(ybu (ybK (T.N 0) (yeo (ybF (ya (yeo ypR) yc)))) (ydy (ybK (T.N 1) (yeo ypR))))
theorem yoi:‹(0+1,1,r1,1,ygl)›:=zfn (T.F 1 r1) (sc 1) fun cdv Ar outer sh H E hr=>(yf (yk (ybR (PXS.z_sortI (ybC (T.N 1) z_v) (T.Z 9)))))
theorem yhc:FnOk P w K mg base CX0 (2+1) (t.a 9) (t.d 9) (FR.ps r9) (spJ (yfL K t) 2 12 yff):=yBj (T.F 9 r9) (sc 9) rfl (by decide) fun cdv Ar outer sh H E hr=>(ybu (ybK (T.N 2) (yeo (ycX yM ybE (T.Z 7) (ya z_v yc)))) (ybu (ybK (T.N 3) z_v) (ydy (ybK (T.N 4) (yeo (yuL (T.J 9) (yhV T) (T.C 11) (T.b 0)))))))
theorem yhW:FnOk P w K mg base CX0 (4+1) (t.a 10) (t.d 10) (FR.ps r10) (spI (yfL K t) 3 12 yef):=zin (T.F 10 r10) (sc 10) rfl (by decide) fun cdv Ar outer sh H E hr=>(ybu (yuN T.cf_Doer (T.C 13) (yhc T) (T.b 9) (ya z_v (ya z_v yc))) (ybu (ybK (T.N 5) z_v) (ybu (ybK (T.N 6) ym) (ybu (ybK (T.N 7) (yeo ypR)) (ydy (ybK (T.N 8) (yeo (ybF yc))))))))
theorem yjB:‹(0+1,11,r11,1,ydT)›:=zfn (T.F 11 r11) (sc 11) fun cdv Ar outer sh H E hr=>(yd (ybl (yI ycV ygh (ybC (T.N 10) z_v) (ycM yn ybS (T.Z 6) (ya (ybC (T.N 9) z_v) yc))) (yf (yk yC)) yx) (yf (yk (yuF (ybr (ybC (T.N 11) z_v)) yC yC))))
theorem yhX:‹(6+1,12,r12,1,ydl)›:=zfn (T.F 12 r12) (sc 12) fun cdv Ar outer sh H E hr=>have nd:=(sc 12 (r:=r12)).nd;(yd (yu (yuF (yI ylr yuo (ybC (T.N 10) z_v) (ycM yn ybS (T.Z 6) (ya (ybC (T.N 9) z_v) yc))) (yfH ybz ydx (ybC (T.N 9) z_v) (ybC (T.N 10) z_v)) (ybR (ybF yc)))) (yf (yk (yeo (yeY (T.J 10) (yhW T) (T.C 12) (T.b 10) (ya z_v (ya (ybC (T.N 12) z_v) (ya (ybC (T.N 3) z_v) yc))))))))
theorem yeM:‹(7+1,13,r13,3,ybw)›:=zfn (T.F 13 r13) (sc 13) fun cdv Ar outer sh H E hr=>(yd (ydd (T.N 9) z_v (ybR (ycX yM ybE (T.Z 7) (ya z_v yc)))) (yd (ydd (T.N 3) z_v z_v) (yd (ydd (T.N 10) z_v ym) (yd (ydd (T.N 11) z_v ynU) (yd (ydd (T.N 12) z_v (ybR (ygj yjW ypo (ybR (ybF (ya ym yc))) (ycM ydP ymS (T.Z 6) (ya (ynf T.m_SLOTS) yc))))) (yf (ydd (T.N 13) z_v (yr z_v (T.M 11) (yhX T) (T.b 12)))))))))
theorem yfM:‹(2+1,56,r56,1,ych)›:=zfn (T.F 56 r56) (sc 56) fun cdv Ar outer sh H E hr=>(yd (ybl (ycm (ydS yew yew yjd yjd ym (ycM yn ybS (T.Z 6) (ya z_v yc)) (yeJ T.m_MOST_BOXES))) (yf ycs) yx) (yf (ybl (ycm (ybr (ycM (yhg rfl) yrz (T.Z 1) (ya (ybR (yfa [] z_v (fun _ _ _ _ _ _=>(yF (ygY T) (T.G 1) (T.k 3) (T.b 3) (ya z_v yc))))) yc)))) (yf ycs) yx)))
theorem yhd:FnOk P w K mg base (CXr P w) (2+1) (t.a 83) (t.d 83) (FR.ps r83) (spR (yfL K t) 1 ycY):=yfn (T.F 83 r83) (sc 83) fun cdv Ar outer sh H E hr=>(ycI (ycm (ydS yew yew yjd yjd ym (ycM yn ybS (T.Z 6) (ya z_v yc)) (yeJ T.m_MOST_BOXES))) (yS (ycD T.x_NoBoxes T.m_NoBoxes yC)) (ycI (ycm (ybr (ycM (yhg rfl) yrz (T.Z 1) (ya (ybR (yfa [] z_v (fun _ _ _ _ _ _=>(yF (ygY T) (T.G 1) (T.k 3) (T.b 3) (ya z_v yc))))) yc)))) (yS (ycD T.x_NoBoxes T.m_NoBoxes yC)) ygk))
theorem yeN:‹(93+1,57,r57,1,ybk)›:=zfn (T.F 57 r57) (sc 57) fun cdv Ar outer sh H E hr=>(yf (yk (ybR (yfa [] z_v (fun _ _ _ _ _ _=>(yF (ygO T) (T.G 14) (T.k 38) (T.b 38) (ya (yF (yqB T) (T.G 16) (T.k 55) (T.b 55) (ya z_v yc)) yc)))))))
theorem ygw:FnOk P w K mg base (CXr P w) (98+1) (t.a 84) (t.d 84) (FR.ps r84) (spR (yfL K t) 1 yce):=yfn (T.F 84 r84) (sc 84) fun cdv Ar outer sh H E hr=>(yS (yfb (ypT [] z_v (fun _ _ _ _ _ _ _ _=>(yF (ygO T) (T.G 14) (T.k 38) (T.b 38) (ya (yF (yqB T) (T.G 16) (T.k 55) (T.b 55) (ya z_v yc)) yc))) (fun _ _ _ _ _ _ _ _ hp=>(yuS (ygO T) (T.G 14) (T.k 38) (T.b 38) (yfV (y_call (yqC T) (T.G 20) (T.k 82) (T.b 82) (ya z_v yc) (hp:=hp))))))))
theorem yhe:‹(94+1,58,r58,1,yO)›:=zfn (T.F 58 r58) (sc 58) fun cdv Ar outer sh H E hr=>(yd (ybl (ycm (ydS yew yew yjd yjd ym (ycM yn ybS (T.Z 6) (ya z_v yc)) (yeJ T.m_MOST_HANDS))) (yf ycs) yx) (yd (ybl (ybr (ycM (ynk rfl) yxm (T.Z 2) (ya (ybR (yfa [] z_v (fun _ _ _ _ _ _=>(ymh yhp ypl (ycM yn ybS (T.Z 6) (ya z_v yc)) (yeJ T.m_MOST_DEEDS))))) yc))) (yf ycs) yx) (yf (yk (ybR (yfa [] z_v (fun _ _ _ _ _ _=>(yF (yeN T) (T.G 18) (T.k 57) (T.b 57) (ya z_v yc)))))))))
theorem ygx:FnOk P w K mg base (CXr P w) (99+1) (t.a 85) (t.d 85) (FR.ps r85) (spR (yfL K t) 1 yW):=yfn (T.F 85 r85) (sc 85) fun cdv Ar outer sh H E hr=>(ycI (ycm (ydS yew yew yjd yjd ym (ycM yn ybS (T.Z 6) (ya z_v yc)) (yeJ T.m_MOST_HANDS))) (yS (ycD T.x_NoHands T.m_NoHands yC)) (ycI (ybr (ycM (ynk rfl) yxm (T.Z 2) (ya (ybR (yfa [] z_v (fun _ _ _ _ _ _=>(ymh yhp ypl (ycM yn ybS (T.Z 6) (ya z_v yc)) (yeJ T.m_MOST_DEEDS))))) yc))) (yS (ycD T.x_NoHands T.m_NoHands yC)) (yS (yfb (ypT [] z_v (fun _ _ _ _ _ _ _ _=>(yF (yeN T) (T.G 18) (T.k 57) (T.b 57) (ya z_v yc))) (fun _ _ _ _ _ _ _ _ hp=>(y_call (ygw T) (T.G 22) (T.k 84) (T.b 84) (ya z_v yc) (hp:=hp))))))))
theorem yhf:‹(95+1,59,r59,3,ybb)›:=zfn (T.F 59 r59) (sc 59) fun cdv Ar outer sh H E hr=>(yd (ycx (yF (yfM T) (T.G 17) (T.k 56) (T.b 56) (ya z_v yc))) (yd (ydd (T.N 14) z_v (yeo (ycX yM ybE (T.Z 7) (ya z_v yc)))) (yd (ydd (T.N 15) z_v (yeo (ygj yjW ypo (ybR (ybF (ya ym yc))) (ycM yn ybS (T.Z 6) (ya z_v yc))))) (yd (ydd (T.N 16) z_v (yeo (ykI ["boxes"] (yfT (yF (yhe T) (T.G 19) (T.k 58) (T.b 58) (ya z_v yc))) (fun _ _ _ _ _ _=>(yml (T.J 12) (yeM T) (T.C 14) (T.b 13) (ya z_v (ya (ycM yn ybS (T.Z 6) (ya z_v yc)) yc))))))) (yf (ydd (T.N 17) z_v (yeo (ybF yc))))))))
theorem ygy:FnOk P w K mg base (CXr P w) (100+1) (t.a 86) (t.d 86) (FR.ps r86) (spR (yfL K t) 3 ybp):=yfn (T.F 86 r86) (sc 86) fun cdv Ar outer sh H E hr=>(ybv (yfU (y_call (yhd T) (T.G 21) (T.k 83) (T.b 83) (ya z_v yc))) (ycx (yF (yfM T) (T.G 17) (T.k 56) (T.b 56) (ya z_v yc))) (ygJ (ydd (T.N 14) z_v (yeo (ycX yM ybE (T.Z 7) (ya z_v yc)))) (ygJ (ydd (T.N 15) z_v (yeo (ygj yjW ypo (ybR (ybF (ya ym yc))) (ycM yn ybS (T.Z 6) (ya z_v yc))))) (yS (yxC (xa:=ye 0) (yuT (ix:=[1]) (xe:=ygi 14 ybw (yb (ye 0) (yb (xCB (ybD) (yb (ye 1) (yg))) (yg)))) ["boxes"] (y_call (ygx T) (T.G 23) (T.k 85) (T.b 85) (ya z_v yc)) (fun _ _ _ _ _ _=>(yml (T.J 12) (yeM T) (T.C 14) (T.b 13) (ya z_v (ya (ycM yn ybS (T.Z 6) (ya z_v yc)) yc))))) z_v)))))
theorem yjC:‹(0+1,60,r60,1,ydV)›:=zfn (T.F 60 r60) (sc 60) fun cdv Ar outer sh H E hr=>(yf (yk (ybR (ycX yM ybE (T.Z 7) (ya (ybC (T.N 14) z_v) yc)))))
theorem yii:‹(0+1,61,r61,1,ydB)›:=zfn (T.F 61 r61) (sc 61) fun cdv Ar outer sh H E hr=>(yf (yk (ybR (ycX yM ybE (T.Z 7) (ya (ybC (T.N 15) z_v) yc)))))
theorem yjD:‹(0+1,62,r62,1,ydW)›:=zfn (T.F 62 r62) (sc 62) fun cdv Ar outer sh H E hr=>(yf (yk (ycM yn ybS (T.Z 6) (ya (ybC (T.N 16) z_v) yc))))
theorem ycZ:‹(1+1,63,r63,2,ybX)›:=zfn (T.F 63 r63) (sc 63) fun cdv Ar outer sh H E hr=>(yd (ybl (yjM (yeX (ycm (ybr (yF (yhT T) (T.G 0) (T.k 2) (T.b 2) (ya z_v yc)))) (ydH (ycm (ydS yew ylr yjd yuo ym z_v (ycM yn ybS (T.Z 6) (ya (ybC (T.N 16) z_v) yc))))))) (yf ycs) yx) (yf (yk (yfH ybz ydx (ybC (T.N 16) z_v) z_v))))
theorem yjE:‹(2+1,64,r64,2,ydX)›:=zfn (T.F 64 r64) (sc 64) fun cdv Ar outer sh H E hr=>(yf (yk (yr (yR z_v (T.M 15) (ycZ T) (T.b 63) (ya z_v yc)) (T.M 10) (yjB T) (T.b 11))))
theorem yjF:‹(2+1,65,r65,2,ydY)›:=zfn (T.F 65 r65) (sc 65) fun cdv Ar outer sh H E hr=>(yf (yk (ybC (T.N 10) (yR z_v (T.M 15) (ycZ T) (T.b 63) (ya z_v yc)))))
theorem yjG:‹(2+1,66,r66,2,ydZ)›:=zfn (T.F 66 r66) (sc 66) fun cdv Ar outer sh H E hr=>(yf (yk (ybR (ycX yM ybE (T.Z 7) (ya (ybC (T.N 2) (ybC (T.N 13) (yR z_v (T.M 15) (ycZ T) (T.b 63) (ya z_v yc)))) yc)))))
theorem ymB:‹(2+1,67,r67,2,yfu)›:=zfn (T.F 67 r67) (sc 67) fun cdv Ar outer sh H E hr=>(yf (yk (yr (ybC (T.N 4) (ybC (T.N 13) (yR z_v (T.M 15) (ycZ T) (T.b 63) (ya z_v yc)))) (T.M 9) (yoi T) (T.b 1))))
theorem yhY:‹(0+1,68,r68,1,ydm)›:=zfn (T.F 68 r68) (sc 68) fun cdv Ar outer sh H E hr=>(yf (yk (ybR (yfa [] (ybC (T.N 17) z_v) (fun _ _ _ _ _ _=>(ydI (ya (yfH yin ynP z_v ym) (ya (yfH yin ynP z_v ym) (ya (yfH yin ynP z_v ym) (ya (ybR (ycX yM ybE (T.Z 7) (ya (yfH yin ynP z_v ym) yc))) (ya (ybR (ycX yM ybE (T.Z 7) (ya (yfH yin ynP z_v ym) yc))) (ya (ybR (ycX yM ybE (T.Z 7) (ya (yfH yin ynP z_v ym) yc))) yc))))))))))))
theorem yby:‹(0+1,87,r87,2,yL)›:=zfn (T.F 87 r87) (sc 87) fun cdv Ar outer sh H E hr=>(yd (ybl (yI ylr yuo z_v (ycM yn ybS (T.Z 6) (ya z_v yc))) (yf (yk (yfH ybz ydx z_v z_v))) yx) (yf (yk ym)))
theorem ygQ:‹(0+1,88,r88,1,ycn)›:=zfn (T.F 88 r88) (sc 88) fun cdv Ar outer sh H E hr=>have nd:=(sc 88 (r:=r88)).nd;(yd (yu (ybP ycK yfA z_v ym)) (yd (ybl (yI ycV ygh (ybP ycg ydo z_v ym) ym) (yf (yk (ybP ycg ydo z_v ym))) yx) (yd (ybl (yI ycV ygh (ybP ycg ydo z_v ym) ym) (yf (yk (ybP ymF yrx (ybP ymF yrx (ybP yjO ypk ym ym) ym) (ybP ycg ydo z_v ym)))) yx) (yf (yk (ybP ycg ydo z_v (ybP yjO ypk ym ym)))))))
theorem yhZ:‹(0+1,89,r89,1,ybY)›:=zfn (T.F 89 r89) (sc 89) fun cdv Ar outer sh H E hr=>have nd:=(sc 89 (r:=r89)).nd;(yd (yu (ybR (ybF (ya yC (ya yC (ya yC (ya yC (ya yC yc)))))))) (yd (yu (ybR (ygj ygd yje z_v (ybR (ybF (ya yC (ya yC yc))))))) (yd (yu (ybR (ygj ygd yje z_v (ybR (ybF (ya yC yc)))))) (yf (yk (yfH ybz ydx z_v (ybP ycg ydo z_v ym)))))))
theorem yfr:‹(0+1,90,r90,1,ybZ)›:=zfn (T.F 90 r90) (sc 90) fun cdv Ar outer sh H E hr=>have nd:=(sc 90 (r:=r90)).nd;(yd (yu (ybR (ybF (ya yC (ya yC (ya yC (ya yC (ya yC (ya yC (ya yC (ya yC (ya yC (ya yC yc))))))))))))) (yd (yu (ybR (ygj ygd yje z_v (ybR (ybF (ya yC (ya yC (ya yC (ya yC (ya yC yc)))))))))) (yf (yk (yfH ybz ydx z_v (ybP ycg ydo z_v ym))))))
theorem yjH:‹(1+1,91,r91,1,yea)›:=zfn (T.F 91 r91) (sc 91) fun cdv Ar outer sh H E hr=>have nd:=(sc 91 (r:=r91)).nd;(yd (yu (yfH ybz ydx (ybR (ybF (ya (ybP ycl ydv ym (ybP ycg ydo (ybP ycK yfA (yF (yby T) (T.G 24) (T.k 87) (T.b 87) (ya z_v (ya ym yc))) ym) ym)) (ya (ybP ycg ydo (ybP ycK yfA (yF (yby T) (T.G 24) (T.k 87) (T.b 87) (ya z_v (ya ym yc))) ym) ym) yc)))) (ybP ycK yfA (ybP ycg ydo (yF (yby T) (T.G 24) (T.k 87) (T.b 87) (ya z_v (ya ym yc))) ym) ym))) (yd (ysd ["_law_script"] (ygI (T.Z 8) (ya z_v yc)) (fun _ _ _ _ _ _=>(yF (ygQ T) (T.G 25) (T.k 88) (T.b 88) (ya (yF (yby T) (T.G 24) (T.k 87) (T.b 87) (ya z_v (ya (ybP ycl ydv ym z_v) yc))) yc)))) (yd (yu (ybP ycg ydo (ybP ygS ykq (yF (yby T) (T.G 24) (T.k 87) (T.b 87) (ya z_v (ya ym yc))) ym) ym)) (yd (ybl (yjM (ypO (yI yhp ypl z_v ym) (ymj (yI ycV ygh (ybP ycg ydo z_v ym) ym)))) (yd (yu (ybR (ybF (ya (yAM ysR ywC ym) (ya (ybP yjO ypk ym ym) (ya (ybP ymF yrx (yAM ysR ywC ym) z_v) (ya (ybP ycl ydv (ybP yjO ypk ym ym) (ybP ygS ykq z_v z_v)) (ya ynU (ya ynU (ya yeW (ya yC (ya (ydI (ya ym yc)) yc)))))))))))) (yf (ymk (yfH ybz ydx z_v (ybP ycg ydo (ybP ycK yfA z_v ym) ym)) z_v (ybP ycg ydo (ybP ycK yfA z_v ym) z_v)))) yx) (yf (yk z_v))))))
theorem yjI:‹(1+1,92,r92,1,yeb)›:=zfn (T.F 92 r92) (sc 92) fun cdv Ar outer sh H E hr=>have nd:=(sc 92 (r:=r92)).nd;(yd (yu (ybP ycg ydo (ybP ygS ykq (yF (yby T) (T.G 24) (T.k 87) (T.b 87) (ya z_v (ya ym yc))) ym) ym)) (yd (yu (yfH ybz ydx (ybR (ybF (ya (ybP ycl ydv ym (ybP ycg ydo (ybP ycK yfA z_v ym) ym)) (ya (ybP ycg ydo (ybP ycK yfA z_v ym) ym) yc)))) (ybP ycK yfA (ybP ycg ydo z_v ym) ym))) (yd (yjk (ybF yc)) (yd (ykJ (ygI (T.Z 8) (ya z_v yc)) yeZ (yd (yu (ybP ycg ydo (ybP ygS ykq (yF (yby T) (T.G 24) (T.k 87) (T.b 87) (ya z_v (ya (ybP ycl ydv ym (ybP ygS ykq ym z_v)) yc))) ym) ym)) (yd (yu (yfH ybz ydx (ybR (ybF (ya (ybP ycg ydo (ybP ycK yfA z_v ym) ym) (ya (ybP ycg ydo (ybP ycK yfA z_v ym) ym) yc)))) (ybP ycK yfA (ybP ycg ydo z_v ym) ym))) (yf (ypQ (yeo (ykI ["_law_k","_law_cell"] (ygI (T.Z 8) (ya z_v yc)) (fun _ _ _ _ _ _=>(yF (yhZ T) (T.G 26) (T.k 89) (T.b 89) (ya (ybP ycl ydv (ybP ycl ydv (ybP ycK yfA z_v ym) (ybP ygS ykq z_v z_v)) (ybP ygS ykq z_v z_v)) yc)))))))))) (yd (yu (ybP ycg ydo (ybP ygS ykq (yF (yby T) (T.G 24) (T.k 87) (T.b 87) (ya z_v (ya ym yc))) ym) ym)) (yd (ybl (yjM (ypO (yI yhp ypl z_v ym) (ymj (yI ycV ygh (ybP ycg ydo z_v ym) ym)))) (yjl (yd (yu (yfH ybz ydx z_v (ybP ycg ydo (ybP ycK yfA z_v ym) z_v))) (yf (ybl (yI yhp ypl (ycM yn ybS (T.Z 6) (ya z_v yc)) ym) (yf (ymk (yF (yfr T) (T.G 27) (T.k 90) (T.b 90) (ya (ybP ycK yfA z_v ym) yc)) z_v (ybP ycg ydo (ybP ycK yfA z_v ym) (ycM yn ybS (T.Z 6) (ya z_v yc))))) yx)))) yx) (yjl (yf (yk z_v)))))))))
theorem ygR:‹(0+1,93,r93,1,yco)›:=zfn (T.F 93 r93) (sc 93) fun cdv Ar outer sh H E hr=>(yf (yk (ynV (ycM yT (yen (K:=ckX _ _) T.isa) (T.Z 5) (ya z_v (ya (ykH (T.Z 4)) yc))) (ynV (yuE (ycM yT (yen (K:=ckX _ _) T.isa) (T.Z 5) (ya z_v (ya (ykH (T.Z 3)) yc)))) (ypN (ymi yew ylr yjd yuo ym z_v (ybP yjO ypk ym ym)))))))
theorem ymC:‹(1+1,94,r94,2,yfv)›:=zfn (T.F 94 r94) (sc 94) fun cdv Ar outer sh H E hr=>have nd:=(sc 94 (r:=r94)).nd;(yd (ybl (yjM (yeX (ycm (ydS yew yew yjd yjd ym (ycM yn ybS (T.Z 6) (ya z_v yc)) ym)) (ydH (ycm (ybr (ycM (yhg rfl) yrz (T.Z 1) (ya (ybR (yfa [] z_v (fun _ _ _ _ _ _=>(yF (ygR T) (T.G 30) (T.k 93) (T.b 93) (ya z_v yc))))) yc))))))) (yf (yk yC)) yx) (yd (ybl (yjM (yeX (ycm (ydS yew yew yjd yjd ym (ycM yn ybS (T.Z 6) (ya z_v yc)) ym)) (ydH (yI yhp ypl (ycM yn ybS (T.Z 6) (ya (ybR (yuK [] (yfT z_v) (fun _ _ _ _ _ _=>z_v) (fun _ _ _ _ _ _=>(yI yhp ypl (ycM yn ybS (T.Z 6) (ya z_v yc)) ym)))) yc)) ym)))) (yf (yk yC)) yx) (yd (ysc [] (ygI (T.Z 8) (ya ym yc)) (fun _ _ _ _ _ _=>(yF (yfr T) (T.G 27) (T.k 90) (T.b 90) (ya z_v yc)))) (yd (ykJ (yfT z_v) yeZ (yf (yuJ z_v yeZ (yf (ybl (yI yjV yxf z_v z_v) (yf (yk yC)) yx))))) (yf (yk yC))))))
theorem yjJ:‹(0+1,95,r95,1,yfg)›:=zfn (T.F 95 r95) (sc 95) fun cdv Ar outer sh H E hr=>have nd:=(sc 95 (r:=r95)).nd;(yd (yu (ybR (ybF (ya (ydI (ya yC (ya (ycM ycS (yiy (K:=ckX _ _) T.isa T.isx T.isy) (T.Z 5) (ya z_v (ya (ykM T.m_NoBoxes) yc))) yc))) (ya (ydI (ya yC (ya (ycM ycS (yiy (K:=ckX _ _) T.isa T.isx T.isy) (T.Z 5) (ya z_v (ya (ykM T.m_NoHands) yc))) yc))) (ya (ydI (ya yC (ya (ycM ycS (yiy (K:=ckX _ _) T.isa T.isx T.isy) (T.Z 5) (ya z_v (ya (ykM T.m_NoDeed) yc))) yc))) yc)))))) (yd (yu (ybR (ygj ygd yje z_v (ybR (ybF (ya (ydI (ya yC (ya (ycM ycS (yiy (K:=ckX _ _) T.isa T.isx T.isy) (T.Z 5) (ya z_v (ya (ykM T.m_NoHand) yc))) yc))) (ya (ydI (ya yC (ya (ycM ycS (yiy (K:=ckX _ _) T.isa T.isx T.isy) (T.Z 5) (ya z_v (ya (ykM T.m_NoRow) yc))) yc))) yc))))))) (yd (yu (ybR (ygj ygd yje z_v (ybR (ybF (ya (ydI (ya yC (ya (yuE (ycM ycS (yiy (K:=ckX _ _) T.isa T.isx T.isy) (T.Z 5) (ya z_v (ya (ykH (T.Z 0)) yc)))) yc))) yc)))))) (yf (yk (ybR (yuR [] (yfT z_v) (fun _ _ _ _ _ _=>z_v) (fun _ _ _ _ _ _=>(ybr z_v)))))))))
theorem ylk:‹(102+1,96,r96,2,ycy)›:=zfn (T.F 96 r96) (sc 96) fun cdv Ar outer sh H E hr=>have nd:=(sc 96 (r:=r96)).nd;(yd (yu yeW) (yd (yu yeW) (yd (yuP (yuQ (T.J 14) (ygy T) (T.C 15) (T.b 86) (fun _=>(ya z_v (ya z_v yc)))) (fun _=>(yf (yu (yml (T.J 13) (yhf T) (T.C 15) (T.b 59) (ya z_v (ya z_v yc)))))) (fun _ _=>(yf (yu z_v))) T.xs__law_made T.m_HallError) (yd (ybl (yI yhq ylX z_v yeW) (yf (yk (ydI (ya (ybR (ybF yc)) (ya z_v yc))))) yx) (yf (yk (ydI (ya (yF (yjJ T) (T.G 32) (T.k 95) (T.b 95) (ya z_v yc)) (ya yeW yc)))))))))
theorem ycz:‹(0+1,97,r97,2,yX)›:=zfn (T.F 97 r97) (sc 97) fun cdv Ar outer sh H E hr=>have nd:=(sc 97 (r:=r97)).nd;(yd (ybl (yjM (yeX (ycm (ybr (ycM yT (yen (K:=ckX _ _) T.isa) (T.Z 5) (ya z_v (ya (ykH (T.Z 7)) yc))))) (ydH (yI ylq yup (ycM yn ybS (T.Z 6) (ya z_v yc)) (ycM yn ybS (T.Z 6) (ya z_v yc)))))) (yf (yk ynU)) yx) (yd (ykJ (ygI (T.Z 8) (ya (ycM yn ybS (T.Z 6) (ya z_v yc)) yc)) yeZ (yf (ybl (yjM (yeX (ycm (ybr (ycM yT (yen (K:=ckX _ _) T.isa) (T.Z 5) (ya (yfH ybz ydx z_v z_v) (ya (ykH (T.Z 4)) yc))))) (yeX (ybr (ycM yT (yen (K:=ckX _ _) T.isa) (T.Z 5) (ya (yfH ybz ydx z_v z_v) (ya (ykH (T.Z 3)) yc)))) (ydH (yI ylq yup (yfH ybz ydx z_v z_v) (yfH ybz ydx z_v z_v)))))) (yf (yk ynU)) yx))) (yf (yk ynU))))
theorem yfN:‹(3+1,98,r98,3,ycG)›:=zfn (T.F 98 r98) (sc 98) fun cdv Ar outer sh H E hr=>have nd:=(sc 98 (r:=r98)).nd;(yd (ybl (yjM (yeX (ycm (ybr (yF (ycz T) (T.G 34) (T.k 97) (T.b 97) (ya (yr z_v (T.M 12) (yjC T) (T.b 60)) (ya z_v yc))))) (ydH (ycm (ybr (yF (ycz T) (T.G 34) (T.k 97) (T.b 97) (ya (yr z_v (T.M 13) (yii T) (T.b 61)) (ya (ybR (ygj yjW ypo (ybR (ybF (ya ym yc))) (ycM yn ybS (T.Z 6) (ya z_v yc)))) yc)))))))) (yf (yk ynU)) yx) (yd (ybl (yjM (yeX (ycm (ybr (yF (ycz T) (T.G 34) (T.k 97) (T.b 97) (ya (ybR (ybF (ya (yr z_v (T.M 14) (yjD T) (T.b 62)) yc))) (ya (ybR (ybF (ya (ycM yn ybS (T.Z 6) (ya z_v yc)) yc))) yc))))) (ydH (yI (ykK (yix hr)) ypA (yr z_v (T.M 20) (yhY T) (T.b 68)) (ybR (ybF yc)))))) (yf (yk ynU)) yx) (yd (ykJ (ygI (T.Z 8) (ya (ycM yn ybS (T.Z 6) (ya z_v yc)) yc)) yeZ (yd (yu yC) (yd (ybl (yI ycV ygh (ycM yn ybS (T.Z 6) (ya (yfH ybz ydx z_v z_v) yc)) ym) (yf (yu yC)) yx) (yd (ybl (yjM (yeX (yI ylq yup (yR z_v (T.M 16) (yjE T) (T.b 64) (ya z_v yc)) z_v) (ydH (ycm (ybr (yF (ycz T) (T.G 34) (T.k 97) (T.b 97) (ya (ybR (ybF (ya (yR z_v (T.M 17) (yjF T) (T.b 65) (ya z_v yc)) yc))) (ya (ybR (ybF (ya ym yc))) yc)))))))) (yf (yk ynU)) yx) (yf (ybl (yjM (yeX (ycm (ybr (yF (ycz T) (T.G 34) (T.k 97) (T.b 97) (ya (yR z_v (T.M 18) (yjG T) (T.b 66) (ya z_v yc)) (ya (ybR (ygj yjW ypo (ybR (ybF (ya ym yc))) ym)) yc))))) (ydH (yI (ykK (yix hr)) ypA (yR z_v (T.M 19) (ymB T) (T.b 67) (ya z_v yc)) (ybR (ybF yc)))))) (yf (yk ynU)) yx)))))) (yf (yk ynU)))))
theorem yyj:‹(103+1,99,r99,1,ysj)›:=zfn (T.F 99 r99) (sc 99) fun cdv Ar outer sh H E hr=>have nd:=(sc 99 (r:=r99)).nd;(yd (yu (yF (yjH T) (T.G 28) (T.k 91) (T.b 91) (ya z_v yc))) (yd (yu (yF (yjI T) (T.G 29) (T.k 92) (T.b 92) (ya z_v yc))) (yd (yu (ybR (ybF (ya (yeo (ycX yM ybE (T.Z 7) (ya z_v yc))) (ya (yeo (ykI [] (yfT z_v) (fun _ _ _ _ _ _=>(yeo (ycX yM ybE (T.Z 7) (ya z_v yc)))))) yc))))) (yd (yu (yF (ymC T) (T.G 31) (T.k 94) (T.b 94) (ya z_v (ya z_v yc)))) (yd (yxt (yF (ylk T) (T.G 33) (T.k 96) (T.b 96) (ya (yfH ybz ydx z_v ym) (ya (yfH ybz ydx z_v ym) yc))) (yxs (yng yeZ (yng yeZ yuH)))) (yd (ybl (yjM (yeX (yI (ykK (yix hr)) ypA (yfH ybz ydx z_v ym) z_v) (ydH (yI (ykK (yix hr)) ypA (yfH ybz ydx z_v ym) z_v)))) (yf (yk ynU)) yx) (yd (ybl (yI ylq yup z_v yC) (yf (yk (ymh (yxw (yix hr)) yzQ z_v (ybR (ybF (ya z_v yc)))))) yx) (yd (ybl (yjM (yeX (yI (ykK (yix hr)) ypA z_v (ybR (ybF yc))) (ydH (ycm (ybr (yF (yfN T) (T.G 35) (T.k 98) (T.b 98) (ya z_v (ya z_v (ya z_v yc))))))))) (yf (yk ynU)) yx) (yd (ycx (yyr plainAttrs_list PySem.F.slot_list_append PySem.F.type_list_append ycW ypu (yfH ybz ydx z_v ym) (ya ym yc))) (yd (ymk ym (yfH ybz ydx z_v ym) ym) (yd (ycx (yyr plainAttrs_list PySem.F.slot_list_append PySem.F.type_list_append ycW ypu (yfH ybz ydx (yfH ybz ydx z_v ym) ym) (ya yC yc))) (yd (ycx (yyr plainAttrs_list PySem.F.slot_list_append PySem.F.type_list_append ycW ypu (yfH ybz ydx z_v ym) (ya (ybR (ybF yc)) yc))) (yf (yk (yF (yfN T) (T.G 35) (T.k 98) (T.b 98) (ya z_v (ya z_v (ya z_v yc))))))))))))))))))
def ysK (K:PySem.W.Frag):Sp:=fun vs H Q _=>∃ (a:Addr) (ns:List Int),vs=[.ref a]/\SqL K H a (ns.map V.int)/\ns.length<=63/\∀ H',Q (.bl true) H'
theorem yyk {A:Nat->Addr}:∀ vs H Q E,ysK K vs H Q E->spE ⟨K,A⟩ 1 ysj vs H Q E:=by
 rintro _ H Q E ⟨a,ns,rfl,hS,hl,q⟩
 obtain ⟨h',e⟩:=yyh (h:=[]) ns hl
 exact ⟨⟨H,H,[],[]⟩,[.scr ns],.bl true,h',rfl,⟨Same.refl _,rfl,List.nodup_nil,fun n d a e=>by simp at e⟩,⟨.ref a,[],rfl,⟨a,rfl,hS⟩,rfl⟩,rfl,e,fun v W' _ _ rv=>by rw [show v=_ from rv];exact q _⟩
end
structure FB (K:PySem.W.Frag) (r:FR) (p:Addr×FuncData):Prop where
 F:Fun K r.1 r.2.1 r.2.2.1 p.1 p.2
 b:Binds K p.2 r.ps []
theorem FB.of {K:PySem.W.Frag}{x q:Str}{s:Stmt}{k:Nat}{n:List Str}{f:Addr}{d:FuncData}(F:Fun K x q s f d) (b:Binds K d (n.take k) []):FB K (fRw x q s k n) (f,d):=⟨F,b⟩
def All2 {α β:Type}(R:α->β->Prop):List α->List β->Prop
 | r::rs,p::ps=>R r p/\All2 R rs ps
 | [],[]=>True
 | _,_=>False
theorem All2.get {α β:Type}{R:α->β->Prop}{d:α}{e:β}(h:R d e):∀ {rs:List α}{ps:List β},All2 R rs ps->∀ n:Nat,R (rs.getD n d) (ps.getD n e)
 | [],[],_,_=>h
 | _::_,_::_,a,0=>a.1
 | _::_,_::_,a,n+1=>All2.get h a.2 n
abbrev Ns1 (K:PySem.W.Frag) (x:Str) (f:Addr):Prop:=nsIn K mainGlobals x=some (some (.ref f))
structure TyR (K:PySem.W.Frag) (C:Addr):Prop where
 ha:findIn K (.ref C) "__class__" = some (some (.builtin "object.__class__"))
 hm:mroIn K C (.type "object")=some true
 ty:typeIn K (.ref C)=some (.type "type")
structure NS2 (K:PySem.W.Frag) (c d:Addr):Prop where
 sb:subIn K (.ref c) (.ref d)=some false
 ne:(c == d)=false
noncomputable def NSx (K:PySem.W.Frag) (pre:List Addr):List Addr->Prop
 | []=>True
 | c::cs=>AllP (NS2 K c) pre/\AllP (NS2 K c) cs/\NSx K (c::pre) cs
theorem NSx.get {K:PySem.W.Frag}{A:Nat->Addr}:∀ {cs pre:List Nat},NSx K (pre.map A) (cs.map A)->∀ i∈cs,∀ j,j∈pre\/j∈cs->i≠j->NS2 K (A i) (A j)
 | c::cs,pre,a,i,hi,j,hj,ne=>by
  rcases mem_cons.mp hi with rfl|hi
  .rcases hj with hj|hj
   .exact a.1.mem _ (List.mem_map_of_mem hj)
   .rcases mem_cons.mp hj with rfl|hj
    .exact absurd rfl ne
    .exact a.2.1.mem _ (List.mem_map_of_mem hj)
  .refine NSx.get (pre:=c::pre) a.2.2 i hi j ?_ ne
   rcases hj with hj|hj
   .exact .inl (mem_cons_of_mem _ hj)
   .rcases mem_cons.mp hj with rfl|hj
    .exact .inl mem_cons_self
    .exact .inr hj
theorem yvu {K:PySem.W.Frag}{A:Nat->Addr}(CL:∀ k,Cls K (A k)) (hn:PySem.W.specialIn K (.builtin "object.__class__") "__get__" = some (some (.builtin "getset_descriptor.__get__"))) (htk:PySem.W.takesIn K (.builtin "object.__class__")=some true) (cs:List Nat) (ty:AllP (TyR K) (cs.map A)) (sb:NSx K [] (cs.map A)) :
  ∀ r∈tbO cs,∀ (H:Hp) (a dx:Addr) (fs:List (Str×V)),H a=some (.ins (A r.1) dx fs)->IsI K H (.ref a) (.ref (A r.2.1)) r.2.2:=by
 intro r hr H a dx fs e
 unfold tbO at hr
 obtain ⟨i,hi,hr⟩:=List.mem_flatMap.mp hr
 obtain ⟨j,hj,rfl⟩:=List.mem_map.mp hr
 have t:=ty.mem _ (List.mem_map_of_mem hi)
 have t':=ty.mem _ (List.mem_map_of_mem hj)
 refine ⟨_,_,.ins e (CL i) t.ha hn htk t.hm,rfl,?_⟩
 by_cases q:i=j
 .subst q
  show _=some (i == i)
  rw [beq_self_eq_true]
  exact yhh
 .have n:=NSx.get (pre:=[]) sb i hi j (.inr hj) q
  show _=some (i == j)
  rw [beq_eq_false_iff_ne.mpr q]
  exact ycA n.ne t'.hm t'.ty n.sb
theorem zip_get {K:PySem.W.Frag}{c0:Str}{C0:Addr}:∀ {cs:List Str}{as:List Addr},AllP (fun p:Str×Addr=>Ns1 K p.1 p.2) ((c0::cs).zip (C0::as))->cs.length=as.length->∀ n:Nat,Ns1 K ((c0::cs).getD n c0) ((C0::as).getD n C0):=fun {cs as} h hl n=>by
 have h0:=h.1
 have:∀ (cs:List Str) (as:List Addr),AllP (fun p:Str×Addr=>Ns1 K p.1 p.2) (cs.zip as)->cs.length=as.length->∀ n:Nat,Ns1 K (cs.getD n c0) (as.getD n C0):=by
  intro cs
  induction cs with
  | nil=>intro as _ e n;cases as with|nil=>exact h0|cons _ _=>cases e
  | cons c cs ih=>intro as h e n;cases as with|nil=>cases e|cons a as=>cases n with|zero=>exact h.1|succ n=>exact ih as h.2 (by simpa using e) n
 exact this _ _ h (by simpa using hl) n
theorem all_mk {l:PySem.W.OpenLaw}{w:World}{K:PySem.W.Frag}{h:Heap}{mg:Str->Option Value}{fa C0 C1 C2 C3 C4 C5 C6 C7 C8 C9 C10 C11 C12 C13 C14 C15 f0 f1 f2 f3 f4 f5 f6 f7 f8 f9 f10 f11 f12 f13 f14 f15 f16 f17 f18 f19 f20 f21 f22 f23 f24 f25 f26 f27 f28 f29 f30 f31 f32 f33 f34 f35 f36 f37 f38 f39 f40 f41 f42 f43 f44 f45 f46 f47 f48 f49 f50 f51 f52 f53 f54 f55 f56 f57 f58 f59 f60 f61 f62 f63 f64 f65 f66 f67 f68 f69 f70 f71 f72 f73 f74 f75 f76 f77 f78 f79 f80 f81 f82 f83 f84 f85 f86 f87 f88 f89 f90 f91 f92 f93 f94 f95 f96 f97 f98 f99 u10 X0 X1 X2 X3 X4 X5:Addr}{d0 d1 d2 d3 d4 d5 d6 d7 d8 d9 d10 d11 d12 d13 d14 d15 d16 d17 d18 d19 d20 d21 d22 d23 d24 d25 d26 d27 d28 d29 d30 d31 d32 d33 d34 d35 d36 d37 d38 d39 d40 d41 d42 d43 d44 d45 d46 d47 d48 d49 d50 d51 d52 d53 d54 d55 d56 d57 d58 d59 d60 d61 d62 d63 d64 d65 d66 d67 d68 d69 d70 d71 d72 d73 d74 d75 d76 d77 d78 d79 d80 d81 d82 d83 d84 d85 d86 d87 d88 d89 d90 d91 d92 d93 d94 d95 d96 d97 d98 d99:FuncData}{u1 u2 u3 u4 u5 u6 u7 u8 u9:Tok}(X:K.In h) (G:h.Ns mainGlobals mg) (hfa:mg "law" = some (.ref fa))
  {qd10:Option Addr}{qn10:Nat}{qs10:Array (Option Value)}{qt10_0 qt10_1 qt10_2 qt10_3 qt10_4:Tok}
  (hC:Ns1 K "Part" C0/\Ns1 K "Let" C1/\Ns1 K "Reckon" C2/\Ns1 K "Take" C3/\Ns1 K "Put" C4/\Ns1 K "If" C5/\Ns1 K "Either" C6/\Ns1 K "Try" C7/\Ns1 K "Throw" C8/\Ns1 K "Wait" C9/\Ns1 K "Reader" C10/\Ns1 K "Log" C11/\Ns1 K "Run" C12/\Ns1 K "Doer" C13/\Ns1 K "Hand" C14/\Ns1 K "Hall" C15/\True)
  (cl:AllP (Cls K) [C0,C1,C2,C3,C4,C5,C6,C7,C8,C9,C10,C11,C12,C13,C14,C15])
  (hK:Mk K C1 f14/\Mk K C2 f15/\Mk K C3 f16/\Mk K C4 f17/\Mk K C5 f18/\Mk K C6 f19/\Mk K C7 f20/\Mk K C8 f21/\Mk K C10 f39/\Mk K C11 f0/\Mk K C12 f10/\Mk K C13 f9/\Mk K C14 f13/\Mk K C15 f59/\Mk K C15 f86/\True)
  (mk0:makesIn K C0=true)
  (io0:findIn K (.ref C0) "__init__" = some (some (.builtin "object.__init__")))
  (kp0:keepIn K (.ref C0)=true)
  (mk9:makesIn K C9=true)
  (io9:findIn K (.ref C9) "__init__" = some (some (.builtin "object.__init__")))
  (kp9:keepIn K (.ref C9)=true)
  (hM:Meth K C1 "long" f22/\Meth K C2 "long" f23/\Meth K C3 "long" f24/\Meth K C4 "long" f25/\Meth K C5 "long" f29/\Meth K C6 "long" f30/\Meth K C7 "long" f31/\Meth K C8 "long" f26/\Meth K C9 "long" f27/\Meth K C11 "saw" f1/\Meth K C14 "state" f11/\Meth K C14 "new_run" f12/\Meth K C15 "boxes" f60/\Meth K C15 "stamps" f61/\Meth K C15 "hands" f62/\Meth K C15 "hand_at" f63/\Meth K C15 "state" f64/\Meth K C15 "which" f65/\Meth K C15 "slots" f66/\Meth K C15 "saw" f67/\Meth K C15 "journal" f68/\Meth K C10 "ahead" f41/\Meth K C10 "taken" f42/\Meth K C10 "pass_over" f43/\Meth K C10 "slot_taken" f44/\Meth K C10 "name_taken" f45/\Meth K C10 "number_taken" f46/\Meth K C10 "reckon_taken" f47/\Meth K C10 "plain_taken" f48/\Meth K C10 "list_taken" f49/\Meth K C10 "side_taken" f50/\Meth K C10 "part_taken" f51/\Meth K C10 "if_taken" f52/\Meth K C10 "either_taken" f53/\Meth K C10 "try_taken" f54/\Meth K C10 "taken" f69/\Meth K C10 "pass_over" f70/\Meth K C10 "slot_taken" f71/\Meth K C10 "name_taken" f72/\Meth K C10 "number_taken" f73/\Meth K C10 "reckon_taken" f74/\Meth K C10 "plain_taken" f75/\Meth K C10 "list_taken" f76/\Meth K C10 "side_taken" f77/\Meth K C10 "part_taken" f78/\Meth K C10 "if_taken" f79/\Meth K C10 "either_taken" f80/\Meth K C10 "try_taken" f81/\True)
  (cf13:yse K C13 "__init__" f9)
  (hG:Ns1 K "is_whole" f2/\Ns1 K "is_number" f3/\Ns1 K "is_made_of" f4/\Ns1 K "number_of" f5/\Ns1 K "is_word" f6/\Ns1 K "is_slot" f7/\Ns1 K "is_name" f8/\Ns1 K "list_long" f28/\Ns1 K "plain_rows" f32/\Ns1 K "first_row" f33/\Ns1 K "rows_between" f34/\Ns1 K "list_rows" f35/\Ns1 K "part_rows" f36/\Ns1 K "sided_rows" f37/\Ns1 K "rows_of" f38/\Ns1 K "words_of" f40/\Ns1 K "read" f55/\Ns1 K "check_boxes" f56/\Ns1 K "rows_of_deeds" f57/\Ns1 K "rows_of_hands" f58/\Ns1 K "read" f82/\Ns1 K "check_boxes" f83/\Ns1 K "rows_of_deeds" f84/\Ns1 K "rows_of_hands" f85/\Ns1 K "_law_cell_at" f87/\Ns1 K "_law_number_by" f88/\Ns1 K "_law_deed_by" f89/\Ns1 K "_law_no_deed" f90/\Ns1 K "_law_boxes" f91/\Ns1 K "_law_hands" f92/\Ns1 K "_law_is_number" f93/\Ns1 K "_law_due" f94/\Ns1 K "_law_names" f95/\Ns1 K "_law_made" f96/\Ns1 K "_law_numbers" f97/\Ns1 K "_law_stands" f98/\Ns1 K "law" f99/\True)
  (hF:All2 (FB K) fT [(f0,d0),(f1,d1),(f2,d2),(f3,d3),(f4,d4),(f5,d5),(f6,d6),(f7,d7),(f8,d8),(f9,d9),(f10,d10),(f11,d11),(f12,d12),(f13,d13),(f14,d14),(f15,d15),(f16,d16),(f17,d17),(f18,d18),(f19,d19),(f20,d20),(f21,d21),(f22,d22),(f23,d23),(f24,d24),(f25,d25),(f26,d26),(f27,d27),(f28,d28),(f29,d29),(f30,d30),(f31,d31),(f32,d32),(f33,d33),(f34,d34),(f35,d35),(f36,d36),(f37,d37),(f38,d38),(f39,d39),(f40,d40),(f41,d41),(f42,d42),(f43,d43),(f44,d44),(f45,d45),(f46,d46),(f47,d47),(f48,d48),(f49,d49),(f50,d50),(f51,d51),(f52,d52),(f53,d53),(f54,d54),(f55,d55),(f56,d56),(f57,d57),(f58,d58),(f59,d59),(f60,d60),(f61,d61),(f62,d62),(f63,d63),(f64,d64),(f65,d65),(f66,d66),(f67,d67),(f68,d68),(f69,d69),(f70,d70),(f71,d71),(f72,d72),(f73,d73),(f74,d74),(f75,d75),(f76,d76),(f77,d77),(f78,d78),(f79,d79),(f80,d80),(f81,d81),(f82,d82),(f83,d83),(f84,d84),(f85,d85),(f86,d86),(f87,d87),(f88,d88),(f89,d89),(f90,d90),(f91,d91),(f92,d92),(f93,d93),(f94,d94),(f95,d95),(f96,d96),(f97,d97),(f98,d98),(f99,d99)])
  (hN:(NoAttr K C11 "stack"/\True)/\(NoAttr K C11 "last_seen"/\True)/\(NoAttr K C12 "held"/\True)/\(NoAttr K C12 "width"/\NoAttr K C14 "width"/\True)/\(NoAttr K C12 "log"/\True)/\(NoAttr K C12 "rows"/\True)/\(NoAttr K C10 "at"/\NoAttr K C12 "at"/\True)/\(NoAttr K C12 "seen_stamps"/\True)/\(NoAttr K C12 "sides"/\True)/\(NoAttr K C14 "deeds"/\True)/\(NoAttr K C14 "nth"/\True)/\(NoAttr K C14 "sleeps"/\True)/\(NoAttr K C14 "before"/\True)/\(NoAttr K C14 "run"/\True)/\(NoAttr K C15 "numbers"/\True)/\(NoAttr K C15 "marks"/\True)/\(NoAttr K C15 "crew"/\True)/\(NoAttr K C15 "entries"/\True)/\(NoAttr K C10 "words"/\True)/\(NoAttr K C1 "slot"/\NoAttr K C2 "slot"/\NoAttr K C3 "slot"/\NoAttr K C4 "slot"/\NoAttr K C5 "slot"/\NoAttr K C7 "slot"/\NoAttr K C8 "slot"/\True)/\(NoAttr K C1 "number"/\True)/\(NoAttr K C3 "place"/\NoAttr K C4 "place"/\True)/\(NoAttr K C5 "parts"/\NoAttr K C6 "parts"/\NoAttr K C7 "parts"/\True)/\(NoAttr K C5 "others"/\NoAttr K C6 "others"/\NoAttr K C7 "others"/\True)/\(NoAttr K C7 "name"/\NoAttr K C8 "name"/\True)/\(NoAttr K C2 "word"/\True)/\(NoAttr K C2 "one"/\True)/\(NoAttr K C2 "other"/\True)/\True)
  (ty:AllP (TyR K) [C1,C2,C3,C4,C5,C6,C7,C8,C9])
  (sb:NSx K [] [C1,C2,C3,C4,C5,C6,C7,C8,C9])
  (hn:PySem.W.specialIn K (.builtin "object.__class__") "__get__" = some (some (.builtin "getset_descriptor.__get__")))
  (htk:PySem.W.takesIn K (.builtin "object.__class__")=some true)
  (hZ:AllP (fun b=>nsIn K mainGlobals b=some none) zT)
  (q1:nsIn K mainGlobals "FIGURES" = some (some (.str "0123456789" u1)))
  (q2:nsIn K mainGlobals "LETTERS" = some (some (.str "abcdefghijklmnopqrstuvwxyz" u2)))
  (q3:nsIn K mainGlobals "MOST_AROUND" = some (some (.int 8 u3)))
  (q4:nsIn K mainGlobals "MOST_BOXES" = some (some (.int 16 u4)))
  (q5:nsIn K mainGlobals "MOST_DEEDS" = some (some (.int 6 u5)))
  (q6:nsIn K mainGlobals "MOST_HANDS" = some (some (.int 8 u6)))
  (q7:nsIn K mainGlobals "MOST_ROWS" = some (some (.int 80 u7)))
  (q8:nsIn K mainGlobals "SLOTS" = some (some (.str "abcdefgh" u8)))
  (q9:nsIn K mainGlobals "WIDE" = some (some (.int 18446744073709551616 u9)))
  (q10:nsIn K mainGlobals "WORDS" = some (some (.ref u10)))
  (qk10:K.lookup u10=some ⟨.type "tuple",qd10,.seq #[.str "plus" qt10_0,.str "minus" qt10_1,.str "times" qt10_2,.str "less" qt10_3,.str "same" qt10_4] qn10,qs10⟩)
  (xn0:nsIn K mainGlobals "HallError" = some (some (.ref X0)))
  (xn1:nsIn K mainGlobals "NoHand" = some (some (.ref X1)))
  (xn2:nsIn K mainGlobals "NoHands" = some (some (.ref X2)))
  (xn3:nsIn K mainGlobals "NoBoxes" = some (some (.ref X3)))
  (xn4:nsIn K mainGlobals "NoDeed" = some (some (.ref X4)))
  (xn5:nsIn K mainGlobals "NoRow" = some (some (.ref X5)))
  (xk0:XKit K X0)
  (xk1:XKit K X1)
  (xk2:XKit K X2)
  (xk3:XKit K X3)
  (xk4:XKit K X4)
  (xk5:XKit K X5)
  (xm3_0:mroIn K X3 (.ref X0)=some true)
  (xm2_0:mroIn K X2 (.ref X0)=some true)
  (xm4_0:mroIn K X4 (.ref X0)=some true)
  (xv3:mroIn K X3 (.type "ValueError")=some true)
  (xb3_2:subIn K (.ref X3) (.ref X2)=some false)
  (xe3_2:(X3 == X2)=false)
  (xb3_4:subIn K (.ref X3) (.ref X4)=some false)
  (xe3_4:(X3 == X4)=false)
  (xb3_1:subIn K (.ref X3) (.ref X1)=some false)
  (xe3_1:(X3 == X1)=false)
  (xb3_5:subIn K (.ref X3) (.ref X5)=some false)
  (xe3_5:(X3 == X5)=false)
  (xv2:mroIn K X2 (.type "ValueError")=some true)
  (xb2_3:subIn K (.ref X2) (.ref X3)=some false)
  (xe2_3:(X2 == X3)=false)
  (xb2_4:subIn K (.ref X2) (.ref X4)=some false)
  (xe2_4:(X2 == X4)=false)
  (xb2_1:subIn K (.ref X2) (.ref X1)=some false)
  (xe2_1:(X2 == X1)=false)
  (xb2_5:subIn K (.ref X2) (.ref X5)=some false)
  (xe2_5:(X2 == X5)=false)
  (xv4:mroIn K X4 (.type "ValueError")=some true)
  (xb4_3:subIn K (.ref X4) (.ref X3)=some false)
  (xe4_3:(X4 == X3)=false)
  (xb4_2:subIn K (.ref X4) (.ref X2)=some false)
  (xe4_2:(X4 == X2)=false)
  (xb4_1:subIn K (.ref X4) (.ref X1)=some false)
  (xe4_1:(X4 == X1)=false)
  (xb4_5:subIn K (.ref X4) (.ref X5)=some false)
  (xe4_5:(X4 == X5)=false) :
  ∃ fd:FuncData,(∀ (s:Shared) (v:Value),BindsTo s fd ⟨[v],[]⟩ [("_law_script",v)])/\∀ base:Heap,K.In base->base.Ns mainGlobals mg->FnOk l.prog w K mg base CX0 104 fa fd ["_law_script"] (ysK K):=by
 let t:Ads:=⟨fun k=>[C0,C1,C2,C3,C4,C5,C6,C7,C8,C9,C10,C11,C12,C13,C14,C15].getD k C0,fun n=>[(f0,d0),(f1,d1),(f2,d2),(f3,d3),(f4,d4),(f5,d5),(f6,d6),(f7,d7),(f8,d8),(f9,d9),(f10,d10),(f11,d11),(f12,d12),(f13,d13),(f14,d14),(f15,d15),(f16,d16),(f17,d17),(f18,d18),(f19,d19),(f20,d20),(f21,d21),(f22,d22),(f23,d23),(f24,d24),(f25,d25),(f26,d26),(f27,d27),(f28,d28),(f29,d29),(f30,d30),(f31,d31),(f32,d32),(f33,d33),(f34,d34),(f35,d35),(f36,d36),(f37,d37),(f38,d38),(f39,d39),(f40,d40),(f41,d41),(f42,d42),(f43,d43),(f44,d44),(f45,d45),(f46,d46),(f47,d47),(f48,d48),(f49,d49),(f50,d50),(f51,d51),(f52,d52),(f53,d53),(f54,d54),(f55,d55),(f56,d56),(f57,d57),(f58,d58),(f59,d59),(f60,d60),(f61,d61),(f62,d62),(f63,d63),(f64,d64),(f65,d65),(f66,d66),(f67,d67),(f68,d68),(f69,d69),(f70,d70),(f71,d71),(f72,d72),(f73,d73),(f74,d74),(f75,d75),(f76,d76),(f77,d77),(f78,d78),(f79,d79),(f80,d80),(f81,d81),(f82,d82),(f83,d83),(f84,d84),(f85,d85),(f86,d86),(f87,d87),(f88,d88),(f89,d89),(f90,d90),(f91,d91),(f92,d92),(f93,d93),(f94,d94),(f95,d95),(f96,d96),(f97,d97),(f98,d98),(f99,d99)].getD n (f0,d0),u1,u2,u3,u4,u5,u6,u7,u8,u9,u10⟩
 have CL:∀ k,Cls K (t.A k):=fun k=>AllP.get cl.1 cl k
 have FF:∀ n,FB K (fR n) (t.fl n):=fun n=>All2.get hF.1 hF n
 have hC:AllP (fun p:Str×Addr=>Ns1 K p.1 p.2) (cT.zip [C0,C1,C2,C3,C4,C5,C6,C7,C8,C9,C10,C11,C12,C13,C14,C15]):=hC
 have hG:AllP (fun r:Str×Nat=>Ns1 K r.1 (t.a r.2)) gT:=hG
 have hK:AllP (fun r:Nat×Nat=>Mk K (t.A r.1) (t.a r.2)) kT:=hK
 have hM:AllP (fun r:Nat×Str×Nat=>Meth K (t.A r.1) r.2.1 (t.a r.2.2)) mT:=hM
 have hN:AllP (fun r:Str×List Nat=>AllP (fun k=>NoAttr K (t.A k) r.1) r.2) nT:=hN
 have T:Txt K mg t:=⟨fun n=>(FF n).F,fun n=>(FF n).b,fun n=>mg_of X G (AllP.get (p:=fun r:Str×Nat=>Ns1 K r.1 (t.a r.2)) hG.1 hG n),fun n=>mg_of X G (zip_get hC rfl n),fun n=>AllP.get (p:=fun r:Nat×Nat=>Mk K (t.A r.1) (t.a r.2)) hK.1 hK n,fun n=>AllP.get (p:=fun r:Nat×Str×Nat=>Meth K (t.A r.1) r.2.1 (t.a r.2.2)) hM.1 hM n,mk0,io0,kp0,mk9,io9,kp9,cf13,CL,fun n k hk=>⟨CL k,(AllP.get (p:=fun r:Str×List Nat=>AllP (fun k=>NoAttr K (t.A k) r.1) r.2) hN.1 hN n).mem k hk⟩,yvu CL hn htk [1,2,3,4,5,6,7,8,9] ty sb,fun n=>PySem.W.mg_none_of X G (AllP.get (p:=fun b=>nsIn K mainGlobals b=some none) hZ.1 hZ n),mg_of X G q1,mg_of X G q2,mg_of X G q3,mg_of X G q4,mg_of X G q5,mg_of X G q6,mg_of X G q7,mg_of X G q8,mg_of X G q9,mg_of X G q10,⟨_,_,_,qk10,rfl,rfl,(by show 5<=sizeLine;decide),.cons ⟨_,rfl⟩ (.cons ⟨_,rfl⟩ (.cons ⟨_,rfl⟩ (.cons ⟨_,rfl⟩ (.cons ⟨_,rfl⟩ (.nil)))))⟩,(by rw [yZ xn0];exact mg_of X G xn0),(by rw [yZ xn1];exact mg_of X G xn1),(by rw [yZ xn2];exact mg_of X G xn2),(by rw [yZ xn3];exact mg_of X G xn3),(by rw [yZ xn4];exact mg_of X G xn4),(by rw [yZ xn5];exact mg_of X G xn5),(by rw [yZ xn3];exact xk3.cls),(by rw [yZ xn2];exact xk2.cls),(by rw [yZ xn4];exact xk4.cls),(all_cons (by rw [yZ xn3,yZ xn0];exact ⟨xk3.cls,xk0.cls,xm3_0⟩) (all_cons (by rw [yZ xn2,yZ xn0];exact ⟨xk2.cls,xk0.cls,xm2_0⟩) (all_cons (by rw [yZ xn4,yZ xn0];exact ⟨xk4.cls,xk0.cls,xm4_0⟩) (fun k hk=>absurd hk (by simp))))),(all_cons (by simp only [yZ xn3];exact ⟨xk3.kit hn htk,yhh⟩) (all_cons (by simp only [yZ xn3,yZ xn2];exact ⟨xk3.kit hn htk,ycA xe3_2 xk2.mo xk2.ty xb3_2⟩) (all_cons (by simp only [yZ xn3,yZ xn4];exact ⟨xk3.kit hn htk,ycA xe3_4 xk4.mo xk4.ty xb3_4⟩) (all_cons (by simp only [yZ xn3,yZ xn1];exact ⟨xk3.kit hn htk,ycA xe3_1 xk1.mo xk1.ty xb3_1⟩) (all_cons (by simp only [yZ xn3,yZ xn5];exact ⟨xk3.kit hn htk,ycA xe3_5 xk5.mo xk5.ty xb3_5⟩) (all_cons (by simp only [yZ xn2,yZ xn3];exact ⟨xk2.kit hn htk,ycA xe2_3 xk3.mo xk3.ty xb2_3⟩) (all_cons (by simp only [yZ xn2];exact ⟨xk2.kit hn htk,yhh⟩) (all_cons (by simp only [yZ xn2,yZ xn4];exact ⟨xk2.kit hn htk,ycA xe2_4 xk4.mo xk4.ty xb2_4⟩) (all_cons (by simp only [yZ xn2,yZ xn1];exact ⟨xk2.kit hn htk,ycA xe2_1 xk1.mo xk1.ty xb2_1⟩) (all_cons (by simp only [yZ xn2,yZ xn5];exact ⟨xk2.kit hn htk,ycA xe2_5 xk5.mo xk5.ty xb2_5⟩) (all_cons (by simp only [yZ xn4,yZ xn3];exact ⟨xk4.kit hn htk,ycA xe4_3 xk3.mo xk3.ty xb4_3⟩) (all_cons (by simp only [yZ xn4,yZ xn2];exact ⟨xk4.kit hn htk,ycA xe4_2 xk2.mo xk2.ty xb4_2⟩) (all_cons (by simp only [yZ xn4];exact ⟨xk4.kit hn htk,yhh⟩) (all_cons (by simp only [yZ xn4,yZ xn1];exact ⟨xk4.kit hn htk,ycA xe4_1 xk1.mo xk1.ty xb4_1⟩) (all_cons (by simp only [yZ xn4,yZ xn5];exact ⟨xk4.kit hn htk,ycA xe4_5 xk5.mo xk5.ty xb4_5⟩) (fun k hk=>absurd hk (by simp))))))))))))))))),(all_cons (by simp only [yZ xn3];exact ⟨xk3.kit hn htk,ypS (by rfl') xv3⟩) (all_cons (by simp only [yZ xn2];exact ⟨xk2.kit hn htk,ypS (by rfl') xv2⟩) (all_cons (by simp only [yZ xn4];exact ⟨xk4.kit hn htk,ypS (by rfl') xv4⟩) (fun k hk=>absurd hk (by simp)))))⟩
 have e:=hfa.symm.trans (T.G 36)
 have e:fa=f99:=by injection e with e;injection e
 subst e
 refine ⟨d99,?_,fun base _ _=>(yyj T).imp (yyk T)⟩
 obtain ⟨_,_,_,_,_,_,_,_,_,e,_⟩:=(FF 99).F.ex
 have e:d99=_:=e
 subst e
 exact fun s v=>.of_eq rfl
theorem walk {l:PySem.W.OpenLaw}{q:Program}{loose:List Str}{XP:(Str->Option Value)->Heap->Prop}{YP:World->Heap->Prop}{d:DefRec}{K:Params->PySem.W.Frag}(hn:l.most=some 63) (hdf:d.params.defaults=[])
  (hY:∀ (w:World) (h:Heap),YP w h->(K w.params).In h)
  (F:∀ (w:World) (mg:Str->Option Value) (fa:Addr) (h:Heap),(K w.params).In h->h.Ns mainGlobals mg->mg d.name=some (.ref fa) ->
   ∃ fd:FuncData,(∀ (s:Shared) (u:Value),BindsTo s fd ⟨[u],[]⟩ [("_law_script",u)])/\∀ base:Heap,(K w.params).In base->base.Ns mainGlobals mg->FnOk l.prog w (K w.params) mg base CX0 104 fa fd ["_law_script"] (ysK (K w.params))) :
  PySem.W.WalkO q loose XP YP l.row.toRowW d [] (fun f vs=>PySem.call f vs) :=
 L2.walk_of (n:=63) (k:=104) (x:="_law_script") (CX:=fun _=>CX0) (sp:=fun w=>ysK (K w.params)) hn (by decide) hdf ⟨rfl,by decide,by decide⟩ hY F (fun _ _ a ns hl _ hS=>⟨a,ns,rfl,hS,hl,fun _=>rfl⟩) fun _ _ _ _ _ z=>z
end My
local macro_rules | `(tactic| walk_at "ka")=>`(tactic| first|exact True.intro|k_is|decide|((first|refine And.intro ?_ ?_|refine' L2.Cls.mk ?_ ?_ ?_ ?_|refine' My.TyR.mk ?_ ?_ ?_|refine' My.NS2.mk ?_ ?_)<;>walk_at "ka"))
local macro_rules | `(tactic| walk_at "kr")=>`(tactic| first|exact True.intro|(refine And.intro ?_ ?_<;>walk_at "kr")|walk_at "kx")
local macro_rules | `(tactic| walk_at "kx")=>`(tactic| first|(refine' L2.Meth.mk ?a ?b ?c;(case a=>k_is);(case b=>k_is);(case c=>k_is))|(refine' L2.Mk.mk ?a ?b ?c ?d;(case a=>k_is);(case b=>k_is);(case c=>k_is);(case d=>k_is))|(unfold L2.NoAttr;k_is)|(unfold My.Ns1;k_is)|k_is|(dsimp only;k_is))
local macro_rules | `(tactic| walk_at "kf")=>`(tactic| first|exact True.intro|(refine' And.intro (My.FB.of (L2.fun_mk ?a ?b ?c) ?d) ?e;(case a=>k_is);(case b=>k_is);(case c=>k_is);(case d=>first|exact L2.Binds.all (My.ml1 fun _=>rfl)|exact L2.Binds.all (My.ml2 fun _ _=>rfl)|exact L2.Binds.all (My.ml3 fun _ _ _=>rfl)|exact L2.Binds.all (My.ml4 fun _ _ _ _=>rfl)|exact L2.Binds.all (My.ml5 fun _ _ _ _ _=>rfl));(case e=>walk_at "kf")))
local macro_rules | `(tactic| walk_at "k4")=>`(tactic| (refine' ⟨?a,?b,?c,?d⟩;(case a=>k_is);(case b=>k_is);(case c=>k_is);(case d=>k_is)))
open PySem PySem.W PyProof.Rows
set_option maxRecDepth 100000 in
set_option maxHeartbeats 0 in
theorem PySem.Challenge.cw_retryhall_k21_hall_refused_holds : PySem.Challenge.rw_retryhall_k21_hall_refused.Holds := by
 refine hD_ ?_
 k_fill
 refine My.walk (l:=PySem.Challenge.rw_retryhall_k21_hall_refused) rfl rfl (fun w h Y=>Y) ?F
 case F =>
  intro w mg fa h KX G hmg
  refine' My.all_mk KX G hmg ?hC ?cl ?hK ?mk0 ?io0 ?kp0 ?mk9 ?io9 ?kp9 ?hM ?cf13 ?hG ?hF ?hN ?ty ?sb ?hn ?htk ?hZ ?q1 ?q2 ?q3 ?q4 ?q5 ?q6 ?q7 ?q8 ?q9 ?q10 ?qk10 ?xn0 ?xn1 ?xn2 ?xn3 ?xn4 ?xn5 ?xk0 ?xk1 ?xk2 ?xk3 ?xk4 ?xk5 ?xm3_0 ?xm2_0 ?xm4_0 ?xv3 ?xb3_2 ?xe3_2 ?xb3_4 ?xe3_4 ?xb3_1 ?xe3_1 ?xb3_5 ?xe3_5 ?xv2 ?xb2_3 ?xe2_3 ?xb2_4 ?xe2_4 ?xb2_1 ?xe2_1 ?xb2_5 ?xe2_5 ?xv4 ?xb4_3 ?xe4_3 ?xb4_2 ?xe4_2 ?xb4_1 ?xe4_1 ?xb4_5 ?xe4_5
  (case hC=>walk_at "kr")
  (case cl=>walk_at "ka")
  (case hK=>walk_at "kr")
  (case mk0=>k_is)
  (case io0=>k_is)
  (case kp0=>k_is)
  (case mk9=>k_is)
  (case io9=>k_is)
  (case kp9=>k_is)
  (case hM=>walk_at "kr")
  (case cf13=>walk_at "k4")
  (case hG=>walk_at "kr")
  (case hF=>walk_at "kf")
  (case hN=>walk_at "kr")
  (case ty=>walk_at "ka")
  (case sb=>walk_at "ka")
  (case hn=>k_is)
  (case htk=>k_is)
  (case hZ=>walk_at "kr")
  (case q1=>k_is)
  (case q2=>k_is)
  (case q3=>k_is)
  (case q4=>k_is)
  (case q5=>k_is)
  (case q6=>k_is)
  (case q7=>k_is)
  (case q8=>k_is)
  (case q9=>k_is)
  (case q10=>k_is)
  (case qk10=>k_is)
  (case xn0=>k_is)
  (case xn1=>k_is)
  (case xn2=>k_is)
  (case xn3=>k_is)
  (case xn4=>k_is)
  (case xn5=>k_is)
  (case xk0=>(refine' L2.XKit.mk ?a ?b ?c ?d ?e ?f ?g;(case a=>k_exc);(case b=>k_is);(case c=>k_is);(case d=>k_is);(case e=>k_is);(case f=>k_is);(case g=>k_is)))
  (case xk1=>(refine' L2.XKit.mk ?a ?b ?c ?d ?e ?f ?g;(case a=>k_exc);(case b=>k_is);(case c=>k_is);(case d=>k_is);(case e=>k_is);(case f=>k_is);(case g=>k_is)))
  (case xk2=>(refine' L2.XKit.mk ?a ?b ?c ?d ?e ?f ?g;(case a=>k_exc);(case b=>k_is);(case c=>k_is);(case d=>k_is);(case e=>k_is);(case f=>k_is);(case g=>k_is)))
  (case xk3=>(refine' L2.XKit.mk ?a ?b ?c ?d ?e ?f ?g;(case a=>k_exc);(case b=>k_is);(case c=>k_is);(case d=>k_is);(case e=>k_is);(case f=>k_is);(case g=>k_is)))
  (case xk4=>(refine' L2.XKit.mk ?a ?b ?c ?d ?e ?f ?g;(case a=>k_exc);(case b=>k_is);(case c=>k_is);(case d=>k_is);(case e=>k_is);(case f=>k_is);(case g=>k_is)))
  (case xk5=>(refine' L2.XKit.mk ?a ?b ?c ?d ?e ?f ?g;(case a=>k_exc);(case b=>k_is);(case c=>k_is);(case d=>k_is);(case e=>k_is);(case f=>k_is);(case g=>k_is)))
  (case xm3_0=>k_is)
  (case xm2_0=>k_is)
  (case xm4_0=>k_is)
  (case xv3=>k_is)
  (case xb3_2=>k_is)
  (case xe3_2=>decide)
  (case xb3_4=>k_is)
  (case xe3_4=>decide)
  (case xb3_1=>k_is)
  (case xe3_1=>decide)
  (case xb3_5=>k_is)
  (case xe3_5=>decide)
  (case xv2=>k_is)
  (case xb2_3=>k_is)
  (case xe2_3=>decide)
  (case xb2_4=>k_is)
  (case xe2_4=>decide)
  (case xb2_1=>k_is)
  (case xe2_1=>decide)
  (case xb2_5=>k_is)
  (case xe2_5=>decide)
  (case xv4=>k_is)
  (case xb4_3=>k_is)
  (case xe4_3=>decide)
  (case xb4_2=>k_is)
  (case xe4_2=>decide)
  (case xb4_1=>k_is)
  (case xe4_1=>decide)
  (case xb4_5=>k_is)
  (case xe4_5=>decide)
