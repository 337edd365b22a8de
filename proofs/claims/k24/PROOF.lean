import PyProof.Rows.All
import Wide.All
import OpenK.KLine
import KE.KIntText
import KE.KIsAll
import KE.KItemsList
import KE.KRevIter
import KE.KSortTup
import KE.LcSums
import KE.KPairComp
import Wide.FinOn
import Lean
import PyProof.EqAt
import PyProof.EqKinds
import PyProof.TupleCall
import PySem.Challenge.RW_retryhall_k24_sleep_and_wake
set_option Elab.async false
set_option linter.all false
set_option maxRecDepth 100000
set_option maxHeartbeats 4000000
namespace My
open PySem PySem.W
def lvO:Obj->Option Obj
 |⟨_,_,.freed,_⟩=>none
 |o=>some o
abbrev PkO:=List (Nat×Option Obj)
noncomputable def pkO (l:List Obj):Nat->List Nat->PkO:=l.rec (motive:=fun _=>Nat->List Nat->PkO) (fun _ _=>[]) fun o _ f i t=>match t with|[]=>[]|a::t=>bif Nat.beq a i then (a,lvO o)::f (i+1) t else f (i+1) (a::t)
theorem pk_m:∀ {l:List Obj}{i t},∀ p∈pkO l i t,i<=p.1/\p.2=(l[p.1-i]?).bind lvO
 |[],_,_,_,h=>nomatch h
 |_::_,_,[],_,h=>nomatch h
 |o::l,i,a::t,p,h=>by
  have h:p∈bif Nat.beq a i then (a,lvO o)::pkO l (i+1) t else pkO l (i+1) (a::t):=h
  have H:∀ t,p∈pkO l (i+1) t->i<=p.1/\p.2=((o::l)[p.1-i]?).bind lvO:=fun t h=>by
   have u:=pk_m p h
   rw [show p.1-i=p.1-(i+1)+1 by omega]
   exact ⟨by omega,u.2⟩
  cases e:Nat.beq a i<;>rw [e] at h
  .exact H _ h
  .rcases List.mem_cons.mp h with rfl|h
   .cases Nat.eq_of_beq_eq_true e;simp
   .exact H _ h
noncomputable def kHk (K:Params->Frag) (t:List Nat):Hook:=⟨PkO,fun s=>pkO s.heap.objs.toList 0 t,fun w=>(K w.params).map fun p=>(p.1,some p.2),InK K,fun w s x a o e=>by
 obtain ⟨_,_,e,_⟩:=List.lookup_eq_some_iff.mp e
 have m:some o=_:=(pk_m (a,some o) (x ▸ List.mem_map.mpr ⟨(a,o),by simp [e],rfl⟩)).2
 rw [m]
 simp
 unfold Heap.get?
 cases s.heap.objs[a]? with
 |none=>rfl
 |some o=>obtain ⟨_,_,d,_⟩:=o;cases d<;>rfl,InK.keeps⟩
end My
local macro_rules|`(tactic|o_head $H)=>do
 let r:=H.raw[1]
 if r[0].getId.eraseMacroScopes != `kHook then Lean.Macro.throwUnsupported
 `(tactic|o_head (My.kHk $(⟨r[1][0]⟩) $(⟨r[1][1]⟩)))
namespace PySem.W.Fast
local macro_rules|`(command|universe $xs*)=>do return Lean.mkNullNode (<-(xs.flatMap fun x=>#[`hD_++x.getId,`PySem.Challenge++x.getId]).append ((Array.range 1417).map fun i=>`hD_++.mkSimple ("o_"++toString i)) |>.mapM fun n=>`(command|theorem $(Lean.mkIdent (.mkSimple ("tw"++toString n.hash))) : True:=True.intro))
universe heap_39 heap_46 heap_1417 tree_47 tree_70 tree_85 tree_100 tree_115 tree_130 tree_216 tree_280 tree_359 tree_368 tree_458 tree_516 tree_551 tree_587 tree_623 tree_659 tree_695 tree_731 tree_767 tree_803 tree_839 tree_889 tree_933 tree_1054 tree_1139 tree_1159 tree_1276 tree_1359 tree_1416 view_39 sts_49 sts_71 sts_86 sts_101 sts_116 sts_131 sts_217 sts_281 sts_360 sts_369 sts_459 sts_517 sts_552 sts_588 sts_624 sts_660 sts_696 sts_732 sts_768 sts_804 sts_840 sts_890 sts_934 sts_1143 sts_1160 sts_1363 env_41 pw_retryhall_k24_sleep_and_wake rw_retryhall_k24_sleep_and_wake
end PySem.W.Fast
set_option maxHeartbeats 0 in
open_top hD_ for PySem.Challenge.rw_retryhall_k24_sleep_and_wake
open PySem.W (fnOf findIn keepIn subIn codeIn nsIn isFn mg_of plainGet hasDictIn makesIn instObj typeIn emptyDict mroIn kia_one)
local macro_rules | `(tactic| rfl')=>`(tactic| decide +kernel)
open List (mem_cons_self mem_cons_of_mem mem_append_left getElem?_set_self getElem?_set_ne mem_append_right length_cons map_cons length_map append_nil of_mem_zip replicate length length_take getElem?_append_right getElem?_replicate getElem?_append_left getElem?_map mem_of_getElem? length_append map_nil length_drop size_toArray length_set any_cons getElem_of_mem idxOf map_append lookup_cons prefix_refl getElem?_eq_none length_zip find?_cons length_nil zip_cons_cons getD map_map toArray getElem_mem mem_cons not_mem_nil getD_eq_getElem?_getD map_set append_assoc)
open Nat (lt_of_lt_of_le lt_irrefl ne_of_lt le_of_lt le_of_eq zero_le sub_self)
open Option (map_some isSome_map bind_some)
open Bool (and_eq_true)
open PySem.F (plainAttrs_list slot_list_pop type_list_pop)
noncomputable section
namespace L2
open PySem PySem.Spec PyProof.Rows
abbrev Key:=Sum Int Str
def ymw:Key->Value->Bool
 | .inl k,v=>Value.isInt k v
 | .inr x,v=>Value.isStrOf x v
def yFH (w:World):Key->Int
 | .inl k=>hashInt k
 | .inr x=>hashStr w x
theorem ybi:∀ {k:Key}{v:Value},ymw k v=true->(∃ i t,k=Sum.inl i/\v=Value.int i t)\/(∃ x t,k=Sum.inr x/\v=Value.str x t)
 | .inl i,v,h=>by
  obtain ⟨t,e⟩:=Value.isInt_shape (k:=i) (v:=v) h
  exact .inl ⟨i,t,rfl,e⟩
 | .inr x,v,h=>by
  obtain ⟨t,e⟩:=Value.isStrOf_shape (x:=x) (v:=v) h
  exact .inr ⟨x,t,rfl,e⟩
theorem yqd (i:Int) (t:Tok):ymw (.inl i) (.int i t)=true:=by simp [ymw,Value.isInt]
theorem yqe (x:Str) (t:Tok):ymw (.inr x) (.str x t)=true:=by simp [ymw,Value.isStrOf]
theorem yzg (a b:Int):decide ((Sum.inl a:Key)=Sum.inl b)=(a == b):=by
 by_cases e:a=b
 .subst e;simp
 .have h:¬ (Sum.inl a:Key)=Sum.inl b:=fun q=>e (Sum.inl.inj q)
  rw [decide_eq_false h]
  exact (beq_eq_false_iff_ne.mpr e).symm
theorem yzh (a b:Str):decide ((Sum.inr a:Key)=Sum.inr b)=decide (a=b):=by
 by_cases e:a=b
 .subst e;simp
 .have h:¬ (Sum.inr a:Key)=Sum.inr b:=fun q=>e (Sum.inr.inj q)
  rw [decide_eq_false h,decide_eq_false e]
theorem yzi (a:Int) (b:Str):decide ((Sum.inl a:Key)=Sum.inr b)=false:=decide_eq_false (fun q=>nomatch q)
theorem yzj (a:Str) (b:Int):decide ((Sum.inr a:Key)=Sum.inl b)=false:=decide_eq_false (fun q=>nomatch q)
noncomputable def ycB (prog:Program) (w:World):PySem.KeyKind prog w Key where
 is:=ymw
 hash:=yFH w
 inj:=fun v a b ha hb=>by
  rcases ybi ha with ⟨i,t,rfl,rfl⟩|⟨x,t,rfl,rfl⟩
  .rcases ybi hb with ⟨j,u,rfl,e⟩|⟨y,u,rfl,e⟩
   .injection e with e1 _;rw [e1]
   .exact nomatch e
  .rcases ybi hb with ⟨j,u,rfl,e⟩|⟨y,u,rfl,e⟩
   .exact nomatch e
   .injection e with e1 _;rw [e1]
 byValue:=fun k v h=>by
  rcases ybi h with ⟨i,t,rfl,rfl⟩|⟨x,t,rfl,rfl⟩<;>rfl
 pyHash:=fun hv h=>by
  rcases ybi hv with ⟨i,t,rfl,rfl⟩|⟨x,t,rfl,rfl⟩
  .exact wpAny_pyHash_int h
  .exact wpAny_pyHash_str h
 eqBool:=fun hu hv h=>by
  rcases ybi hu with ⟨i,t,rfl,rfl⟩|⟨x,t,rfl,rfl⟩
  .rcases ybi hv with ⟨j,u,rfl,rfl⟩|⟨y,u,rfl,rfl⟩
   .rw [yzg] at h;exact wpAny_eqBool_int h
   .rw [yzi] at h;exact SeqAt.EqAt.int_str i t y u _ _ _ _ h
  .rcases ybi hv with ⟨j,u,rfl,rfl⟩|⟨y,u,rfl,rfl⟩
   .rw [yzj] at h;exact SeqAt.EqAt.str_int x t j u _ _ _ _ h
   .rw [yzh] at h;exact wpAny_eqBool_str h
 «strs»:=fun k x t v h=>by
  rcases ybi h with ⟨i,u,rfl,e⟩|⟨y,u,rfl,e⟩
  .exact nomatch e
  .injection e with e1 _
   subst e1
   cases v<;>rfl
theorem ymx (prog:Program) (w:World) (i:Int) (t:Tok):(ycB prog w).is (.inl i) (.int i t)=true:=yqd i t
theorem ymy (prog:Program) (w:World) (x:Str) (t:Tok):(ycB prog w).is (.inr x) (.str x t)=true:=yqe x t
end L2
namespace L2
open PySem PySem.Spec PyProof.Rows
inductive V where
 | non|bl (b:Bool)|int (i:Int)|str (x:Str)|byt (b:Array UInt8)|flt (b:UInt64)|ref (a:Addr)|ty (n:String)
 deriving DecidableEq
noncomputable def RelV:V->Value->Prop
 | .non,u=>u=Value.none
 | .bl b,u=>u=Value.bool b
 | .int i,u=>∃ t,u=Value.int i t
 | .str x,u=>∃ t,u=Value.str x t
 | .byt b,u=>∃ t,u=Value.bytes b t
 | .flt b,u=>∃ t,u=Value.float b t
 | .ref a,u=>u=Value.ref a
 | .ty n,u=>u=Value.type n
abbrev Vals:List V->List Value->Prop:=Paired RelV
theorem Vals.length {xs:List V}{us:List Value}(r:Vals xs us):xs.length=us.length:=Paired.length r
theorem Vals.get:∀ {xs:List V}{us:List Value}{i:Nat}{x:V},Vals xs us->xs[i]?=some x->∃ u,us[i]?=some u/\RelV x u
 | _,_,_,_,.nil,e=>by simp at e
 | _,_,0,_,.cons r _,e=>by simp at e;subst e;exact ⟨_,rfl,r⟩
 | _,_,i+1,x,.cons _ t,e=>by
  obtain ⟨u,h1,h2⟩:=Vals.get (i:=i) (x:=x) t (by simpa using e)
  exact ⟨u,by simpa using h1,h2⟩
theorem Vals.set {x:V}{u:Value}(r:RelV x u):∀ {xs:List V}{us:List Value}(i:Nat),Vals xs us->Vals (xs.set i x) (us.set i u)
 | _,_,_,.nil=>.nil
 | _,_,0,.cons _ t=>.cons r t
 | _,_,i+1,.cons q t=>.cons q (Vals.set r i t)
theorem Vals.append:∀ {xs ys:List V}{us ws:List Value},Vals xs us->Vals ys ws->Vals (xs++ys) (us++ws)
 | _,_,_,_,.nil,s=>s
 | _,_,_,_,.cons r t,s=>.cons r (Vals.append t s)
theorem Vals.take:∀ {xs:List V}{us:List Value}(n:Nat),Vals xs us->Vals (xs.take n) (us.take n)
 | _,_,0,_=>.nil
 | _,_,_+1,.nil=>.nil
 | _,_,n+1,.cons r t=>.cons r (Vals.take n t)
theorem Vals.drop:∀ {xs:List V}{us:List Value}(n:Nat),Vals xs us->Vals (xs.drop n) (us.drop n)
 | _,_,0,r=>r
 | _,_,_+1,.nil=>.nil
 | _,_,n+1,.cons _ t=>Vals.drop n t
def RelO:Option V->Option Value->Prop
 | some v,some u=>RelV v u
 | none,none=>True
 | _,_=>False
def KV {κ:Type}:List (κ×V)->List (κ×Value)->Prop:=Paired fun (p:κ×V) (q:κ×Value)=>p.1=q.1/\RelV p.2 q.2
def kV:Key->V
 | .inl i=>.int i
 | .inr x=>.str x
inductive HO where
 | lst (xs:List V)
 | tup (xs:List V)
 | dK (kvs:List (Key×V))|dT (kvs:List (List Key×V))
 | set (S:Int->Bool) (n:Nat)
 | ins (C dx:Addr) (fs:List (Str×V))
 | own (x:Addr)
 | xd (fs:List (Str×V))
 | met (f x:Addr)
 | rng (lo hi:Int)
 | frz (o:Obj) (u:HO)
 | tbl (ps:Array Value)
 | ext (φ:Heap->Prop)
abbrev Hp:=Addr->Option HO
def upd (H:Hp) (a:Addr) (o:HO):Hp:=fun b=>if b=a then some o else H b
theorem yx {H:Hp}{a:Addr}{o:HO}:upd H a o a=some o:=by unfold upd;rw [if_pos rfl]
theorem yF {H:Hp}{a b:Addr}{o:HO}(h:b≠a):upd H a o b=H b:=by unfold upd;rw [if_neg h]
theorem yCt {H:Hp}{a b:Addr}{o u:HO}(h:H a=some o) (h':H b=some u) (d:o≠u):a≠b:=by
 intro e;subst e;rw [h] at h';exact d (Option.some.inj h')
theorem ybr {H:Hp}{a b:Addr}{o:HO}(h:H a=some o) (h':H b=none):a≠b:=by
 intro e;subst e;rw [h] at h';cases h'
section
variable (P:Program) (w:World)
def ObjOk (H:Hp) (h:Heap) (a:Addr):HO->Prop
 | .lst xs=>xs.length<=sizeLine/\∃ (its:List Value) (n:Nat),Vals xs its/\h.get? a=some { cls:=.type "list",data:=.seq its.toArray n }
 | .tup xs=>xs.length<=sizeLine/\∃ its:List Value,Vals xs its/\IsTup h a its.toArray
 | .dK kvs=>kvs.length<=sizeLine/\(a == sysModules)=false/\∃ vs,KV kvs vs/\h.DictOf (ycB P w) a vs
 | .dT kvs=>kvs.length<=sizeLine/\(a == sysModules)=false/\∃ xs:List (List Key×Addr×Value),
   Paired (fun (p:List Key×V) (q:List Key×Addr×Value)=>p.1=q.1/\H q.2.1=some (.tup (p.1.map kV))/\RelV p.2 q.2.2) kvs xs /\
   ∃ o es ep,h.get? a=some o/\o.ExactDict/\o.data=.dict es ep/\es.toList=xs.map (entryOfKey (tupleKind (ycB P w)))/\(xs.map (·.1)).Nodup
 | .set S n=>h.SetOf (intKind P w) a S n
 | .ins C dx fs=>H dx=some (.own a)/\fs.length<=1000/\dx≠a/\h.get? a=some (instObj C dx) /\
   ∃ mA,h.Ns1 dx mA/\(∀ f,RelO (fs.lookup f) (mA f))/\PySem.Within mA (fs.map (·.1))
 | .own _=>∃ o,h.get? a=some o
 | .xd fs=>∃ mA,h.Ns1 a mA/\∀ f,RelO (fs.lookup f) (mA f)
 | .rng lo hi=>∃ t u v,h.get? a=some { cls:=.type "range",data:=.fields #[.int lo t,.int hi u,.int 1 v] }
 | .frz o u=>h.get? a=some o/\ObjOk H h a u
 | .tbl ps=>h.get? a=some { cls:=.none,data:=.fields ps }
 | .met f x=>h.get? a=some (PySem.W.methodObj (.ref f) (.ref x))
 | .ext φ=>φ h/\(∃ o,h.get? a=some o)/\∀ h1 h2:Heap,φ h1->(∀ o,h1.get? a=some o->h2.get? a=some o)->φ h2
def HOk (H:Hp) (h:Heap):Prop:=∀ a o,H a=some o->ObjOk P w H h a o
end
section
variable {P:Program}{w:World}{H H':Hp}{h h':Heap}{a:Addr}{o:HO}
theorem ObjOk.lt (x:ObjOk P w H h a o):a<h.objs.size:=by
 cases o with
 | lst xs=>obtain ⟨_,_,_,_,e⟩:=x;exact Heap.lt_size e
 | tup xs=>obtain ⟨_,_,_,p⟩:=x;exact p.lt
 | dK kvs=>obtain ⟨_,_,_,_,o,_,_,e,_⟩:=x;exact Heap.lt_size e
 | dT kvs=>obtain ⟨_,_,_,_,o,_,_,e,_⟩:=x;exact Heap.lt_size e
 | set S n=>obtain ⟨o,_,_,_,e,_⟩:=x;exact Heap.lt_size e
 | ins C dx fs=>obtain ⟨_,_,_,e,_⟩:=x;exact Heap.lt_size e
 | own y=>obtain ⟨_,e⟩:=x;exact Heap.lt_size e
 | xd fs=>obtain ⟨_,⟨_,_,_,e,_⟩,_⟩:=x;exact Heap.lt_size e
 | rng lo hi=>obtain ⟨_,_,_,e⟩:=x;exact Heap.lt_size e
 | frz ob u=>obtain ⟨e,_⟩:=x;exact Heap.lt_size e
 | tbl ps=>exact Heap.lt_size (show h.get? a=some _ from x)
 | met f y=>exact Heap.lt_size (show h.get? a=some _ from x)
 | ext φ=>obtain ⟨_,⟨_,e⟩,_⟩:=x;exact Heap.lt_size e
theorem Paired.mapP {α β:Type}{F G:α->β->Prop}:∀ {l₁:List α}{l₂:List β},Paired F l₁ l₂->(∀ a b,F a b->G a b)->Paired G l₁ l₂
 | _,_,.nil,_=>.nil
 | _,_,.cons r t,f=>.cons (f _ _ r) (Paired.mapP t f)
theorem ObjOk.stay (x:ObjOk P w H h a o) (k:∀ b u,(b=a\/H b=some (.own a))->h.get? b=some u->h'.get? b=some u)
  (ho:∀ b,H b=some (.own a)->H' b=some (.own a)) (ht:∀ b xs,H b=some (.tup xs)->H' b=some (.tup xs)):ObjOk P w H' h' a o:=by
 induction o with
 | lst xs=>obtain ⟨z,its,n,r,e⟩:=x;exact ⟨z,its,n,r,k _ _ (.inl rfl) e⟩
 | tup xs=>obtain ⟨z,its,r,ob,e,c⟩:=x;exact ⟨z,its,r,ob,k _ _ (.inl rfl) e,c⟩
 | dK kvs=>obtain ⟨z,y,vs,r,ob,es,ep,e,c⟩:=x;exact ⟨z,y,vs,r,ob,es,ep,k _ _ (.inl rfl) e,c⟩
 | dT kvs =>
  obtain ⟨z,y,xs,r,ob,es,ep,e,c⟩:=x
  exact ⟨z,y,xs,Paired.mapP r fun p q z=>⟨z.1,ht _ _ z.2.1,z.2.2⟩,ob,es,ep,k _ _ (.inl rfl) e,c⟩
 | set S n=>obtain ⟨ob,es,ep,t,e,c⟩:=x;exact ⟨ob,es,ep,t,k _ _ (.inl rfl) e,c⟩
 | ins C dx fs =>
  obtain ⟨d,z,ne,e,mA,⟨od,es,ep,e2,c⟩,r⟩:=x
  exact ⟨ho _ d,z,ne,k _ _ (.inl rfl) e,mA,⟨od,es,ep,k _ _ (.inr d) e2,c⟩,r⟩
 | own y=>obtain ⟨ob,e⟩:=x;exact ⟨ob,k _ _ (.inl rfl) e⟩
 | xd fs=>obtain ⟨mA,⟨od,es,ep,e,c⟩,r⟩:=x;exact ⟨mA,⟨od,es,ep,k _ _ (.inl rfl) e,c⟩,r⟩
 | rng lo hi=>obtain ⟨t,u,v,e⟩:=x;exact ⟨t,u,v,k _ _ (.inl rfl) e⟩
 | frz ob u ih=>obtain ⟨e,q⟩:=x;exact ⟨k _ _ (.inl rfl) e,ih q⟩
 | tbl ps =>
  have e:h.get? a=some { cls:=.none,data:=.fields ps }:=x
  show h'.get? a=some { cls:=.none,data:=.fields ps }
  exact k a _ (.inl rfl) e
 | met f y =>
  have e:h.get? a=some (PySem.W.methodObj (.ref f) (.ref y)):=x
  show h'.get? a=some (PySem.W.methodObj (.ref f) (.ref y))
  exact k a _ (.inl rfl) e
 | ext φ=>obtain ⟨p,⟨o,e⟩,st⟩:=x;exact ⟨st _ _ p fun o q=>k _ _ (.inl rfl) q,⟨o,k _ _ (.inl rfl) e⟩,st⟩
theorem HOk.lt (x:HOk P w H h) (e:H a=some o):a<h.objs.size:=(x a o e).lt
theorem HOk.fresh (x:HOk P w H h) (e:h.objs.size<=a):H a=none:=by
 cases q:H a with
 | none=>rfl
 | some u=>exact absurd (lt_of_lt_of_le (x.lt q) e) (lt_irrefl _)
theorem HOk.kept (x:HOk P w H h) (k:∀ b u,h.get? b=some u->h'.get? b=some u):HOk P w H h':=fun a o e =>
 (x a o e).stay (fun b u _ q=>k b u q) (fun _ q=>q) fun _ _ q=>q
theorem HOk.laid (x:HOk P w H h) (k:∀ b u,h.get? b=some u->h'.get? b=some u) (hp:h.objs.size<=a) (new:ObjOk P w (upd H a o) h' a o):HOk P w (upd H a o) h':=fun b u e=>by
 have hn:=x.fresh hp
 by_cases hb:b=a
 .subst hb;rw [yx] at e;cases e;exact new
 .rw [yF hb] at e
  exact (x b u e).stay (fun c v _ q=>k c v q) (fun c q=>by rw [yF (ybr q hn)];exact q) fun c xs q=>by rw [yF (ybr q hn)];exact q
end
def Rd (H:Hp) (a:Addr) (u:HO):Prop:=H a=some u\/∃ o,H a=some (.frz o u)
theorem Rd.ok {P:Program}{w:World}{H:Hp}{h:Heap}{a:Addr}{u:HO}(r:Rd H a u) (x:HOk P w H h):ObjOk P w H h a u:=by
 rcases r with r|⟨o,r⟩
 .exact x a u r
 .obtain ⟨_,q⟩:=x a _ r
  exact q
noncomputable def Mut:Option HO->Prop
 | some (.lst _)=>True
 | some (.dK _)=>True
 | some (.dT _)=>True
 | some (.set _ _)=>True
 | some (.ins _ _ _)=>True
 | some (.ext _)=>True
 | _=>False
section
variable {P:Program}{w:World}{H:Hp}{h h':Heap}{x e:Addr}{o':HO}
theorem HOk.write (ok:HOk P w H h) (mu:Mut (H x)) (he:e=x\/H e=some (.own x)) (k:∀ b u,b≠e->h.get? b=some u->h'.get? b=some u) (heo:∃ u,h'.get? e=some u)
  (new:ObjOk P w (upd H x o') h' x o'):HOk P w (upd H x o') h':=fun b u q=>by
 have nown:∀ c y,H c=some (.own y)->c≠x:=fun c y r z=>by subst z;rw [r] at mu;exact mu
 have ntup:∀ c xs,H c=some (.tup xs)->c≠x:=fun c xs r z=>by subst z;rw [r] at mu;exact mu
 by_cases hb:b=x
 .subst hb;rw [yx] at q;cases q;exact new
 .rw [yF hb] at q
  by_cases hbe:b=e
  .have q':H b=some (.own x):=by
    rcases he with z|z
    .exact absurd (hbe.trans z) hb
    .rw [hbe];exact z
   rw [q] at q';cases q'
   obtain ⟨v,hv⟩:=heo
   exact ⟨v,by rw [hbe];exact hv⟩
  .refine (ok b u q).stay (fun c v hc r=>k c v ?_ r) (fun c r=>by rw [yF (nown c b r)];exact r) fun c xs r=>by rw [yF (ntup c xs r)];exact r
   rcases hc with rfl|hc
   .exact hbe
   .rintro rfl
    rcases he with z|z
    .exact nown c b hc z
    .rw [hc] at z;cases z;exact hb rfl
end
structure Un (fs ex:List Addr) (H H':Hp) (h h':Heap):Prop where
 keep:∀ b o,h.get? b=some o->H b=none->b∉fs->b∉ex->h'.get? b=some o
 slot:∀ b o,h.get? b=some o->H b=none->b∈fs->b∉ex->∃ sl,h'.get? b=some { o with slots:=sl }
 free:∀ b o,h.get? b=some o->H b=none->b∉ex->H' b=none
 there:∀ b o,h.get? b=some o->b∉ex->∃ o',h'.get? b=some o'
 tups:∀ b xs,H b=some (.tup xs)->H' b=some (.tup xs)
 frzs:∀ b o u,H b=some (.frz o u)->H' b=some (.frz o u)
 tbls:∀ b ps,H b=some (.tbl ps)->∃ more,H' b=some (.tbl (ps++more))
section
variable {fs fs' ex ex':List Addr}{H H1 H2:Hp}{h h1 h2 h':Heap}{a x e:Addr}{o:HO}
theorem Un.any (u:Un fs ex H H1 h h1) {b:Addr}{ob:Obj}(q:h.get? b=some ob) (n:H b=none) (hx:b∉ex):∃ sl,h1.get? b=some { ob with slots:=sl }:=by
 by_cases hb:b∈fs
 .exact u.slot b ob q n hb hx
 .exact ⟨ob.slots,u.keep b ob q n hb hx⟩
theorem Un.kept (k:∀ b u,h.get? b=some u->h'.get? b=some u):Un fs ex H H h h' :=
 ⟨fun b ob q _ _ _=>k b ob q,fun b ob q _ _ _=>⟨ob.slots,k b ob q⟩,fun _ _ _ n _=>n,fun b ob q _=>⟨ob,k b ob q⟩,fun _ _ q=>q,fun _ _ _ q=>q,fun _ ps q=>⟨#[],by rw [q];simp⟩⟩
theorem Un.refl:Un fs ex H H h h:=Un.kept fun _ _ q=>q
theorem Un.laid (k:∀ b u,h.get? b=some u->h'.get? b=some u) (hp:h.objs.size<=a) (hn:H a=none):Un fs ex H (upd H a o) h h' where
 keep:=fun b u q _ _ _=>k b u q
 slot:=fun b u q _ _ _=>⟨u.slots,k b u q⟩
 free:=fun b u q n _=>by rw [yF (ne_of_lt (lt_of_lt_of_le (Heap.lt_size q) hp))];exact n
 there:=fun b u q _=>⟨u,k b u q⟩
 tups:=fun b xs q=>by rw [yF (ybr q hn)];exact q
 frzs:=fun b u xs q=>by rw [yF (ybr q hn)];exact q
 tbls:=fun b ps q=>⟨#[],by rw [yF (ybr q hn),q];simp⟩
theorem Un.write (mu:Mut (H x)) (he:e=x\/H e=some (.own x)) (k:∀ b u,b≠e->h.get? b=some u->h'.get? b=some u) (heo:∃ u,h'.get? e=some u):Un fs ex H (upd H x o) h h':=by
 have hx:∀ b,H b=none->b≠x:=fun b n z=>by subst z;rw [n] at mu;exact mu
 have hb:∀ b,H b=none->b≠e:=fun b n z=>by
  subst z
  rcases he with r|r
  .exact hx b n r
  .rw [n] at r;cases r
 have hm:∀ b u,H b=some u->¬ Mut (some u)->b≠x:=fun b u q nm z=>by subst z;rw [q] at mu;exact nm mu
 refine ⟨fun b u q n _ _=>k b u (hb b n) q,fun b u q n _ _=>⟨u.slots,k b u (hb b n) q⟩,fun b u q n _=>by rw [yF (hx b n)];exact n,fun b u q _=>?_,
  fun b xs q=>by rw [yF (hm b _ q fun z=>z)];exact q,fun b u xs q=>by rw [yF (hm b _ q fun z=>z)];exact q,fun b ps q=>⟨#[],by rw [yF (hm b _ q fun z=>z),q];simp⟩⟩
 by_cases hbe:b=e
 .subst hbe;exact heo
 .exact ⟨u,k b u hbe q⟩
end
def trk (h:Heap) (H:Hp):List Addr:=(List.range h.objs.size).filter fun a=>(H a).isSome
def ysY (h:Heap) (H:Hp):Heap:=PySem.W.hideAll h (trk h H)
theorem yqf (h:Heap) (H:Hp):(ysY h H).objs.size=h.objs.size:=PySem.W.hideAll_size _ _
theorem ysZ {h:Heap}{H:Hp}{b:Addr}{o:Obj}(e:h.get? b=some o) (n:H b=none):(ysY h H).get? b=some o :=
 PySem.W.hideAll_get _ e fun hm=>by
  have q:(H b).isSome=true:=(List.mem_filter.mp hm).2
  rw [n] at q;simp at q
theorem ywt {h:Heap}{H:Hp}{b:Addr}{o:Obj}(e:(ysY h H).get? b=some o):h.get? b=some o/\H b=none:=by
 have e':h.get? b=some o:=PySem.W.of_hideAll (trk h H) e
 refine ⟨e',?_⟩
 cases q:H b with
 | none=>rfl
 | some x =>
  have hm:b∈trk h H:=List.mem_filter.mpr ⟨List.mem_range.mpr (Heap.lt_size e'),by simp [q]⟩
  have z:(ysY h H).get? b=none:=PySem.W.hideAll_none (trk h H) hm
  rw [z] at e;cases e
noncomputable def ywu (g h:Heap) (L:Addr):List (Addr×Obj):=(List.range h.objs.size).filterMap fun a=>if a=L\/(g.get? a).isSome=true then none else (h.get? a).map fun o=>(a,o)
def rest (g h:Heap) (L d:Addr):List (Addr×Obj):=(ywu g h L).filter fun p=>decide (p.1≠d)
end L2
namespace L2
open PySem PySem.Spec PyProof.Rows
structure Mod (K:PySem.W.Frag) (mg:Str->Option Value) (base:Heap):Prop where
 kin:K.In base
 glob:base.Ns mainGlobals mg
 blt:∃ mb,base.Ns builtinsNs mb/\∀ x:Str,x≠"__name__"->mb x=bootBuiltins x
 nolimit:base.NoLimit
structure Cx where
 prog:Program
 w:World
 K:PySem.W.Frag
 mg:Str->Option Value
 base:Heap
 A:Around
 N:List Str
 s₀:Shared
 H₀:Hp
 env:Env
 outer:List Env
 stack:List Env
 ex:List Addr
 fn:Str->Bool
 calm:Bool
 pn:List (Addr×Obj)
 xe:Value->Shared->Prop
def frs (l:List Env):List Addr:=l.filterMap (·.frame)
abbrev Cx.fs (X:Cx):List Addr:=frs X.outer
noncomputable def Vis (sc:Scope) (x:Str):Prop:=sc.names.lookup x=some .local \/ sc.names.lookup x=some .cell\/sc.names.lookup x=some .free
def Loc (sc:Scope) (x:Str):Prop:=sc.names.lookup x=some .local \/ sc.names.lookup x=some .cell
noncomputable def Look (env:Env) (h:Heap) (m:Str->Option Value) (x:Str) (u:Value):Prop :=
 (env.kindOf x=some .local/\m x=some u)\/((env.kindOf x=some .cell\/env.kindOf x=some .free)/\∃ c,env.cells.lookup x=some c/\h.IsCell c (some u))
structure Cx.Ok (X:Cx):Prop where
 mod:Mod X.K X.mg X.base
 kind:X.env.scope.kind=.function
 glob:X.env.globals=mainGlobals
 blt:X.env.builtins=builtinsNs
 above:X.s₀.heap.objs.size<=X.env.locals
 inj:∀ x y c,X.env.cells.lookup x=some c->X.env.cells.lookup y=some c->x=y
 has:∀ x,(X.env.kindOf x=some .cell\/X.env.kindOf x=some .free)->∃ c,X.env.cells.lookup x=some c
 cab:∀ x c,X.fn x=true->X.env.cells.lookup x=some c->X.s₀.heap.objs.size<=c
 hd:X.calm=true->X.A.handled=none
 frames:X.A.frames=some X.stack
 stk:X.stack=X.outer\/(X.stack=X.env::X.outer/\X.env.frame=some X.env.locals)
 exf:∀ b∈X.ex,b≠X.env.locals/\∀ x c,X.env.cells.lookup x=some c->c≠b
 bs:∀ b o,X.base.get? b=some o->X.s₀.heap.get? b=some o/\X.H₀ b=none
 bsz:X.base.objs.size<=X.s₀.heap.objs.size
 noex:∀ b o,X.base.get? b=some o->b∉X.ex
 exfs:∀ b∈X.ex,b∉X.fs
 funs:X.s₀.heap.FunFrames X.base X.outer
 frf:∀ b∈X.fs,X.H₀ b=none
structure Inv (X:Cx) (pins:List (Addr×Obj)) (σ:List (Option V)) (H:Hp) (s:Shared):Prop where
 ok:X.Ok
 os:s.os=X.s₀.os
 bare:AllBare s.gens
 base:Un X.fs X.ex X.H₀ H X.s₀.heap s.heap
 loc:∃ m,s.heap.Ns X.env.locals m/\∀ (i:Nat) (x:Str) (v:V),X.N[i]?=some x->σ[i]?=some (some v)->Vis X.env.scope x->∃ u,RelV v u/\Look X.env s.heap m x u
 cell:∀ x c,X.env.cells.lookup x=some c->∃ v,s.heap.IsCell c v
 free:H X.env.locals=none
 freeC:∀ x c,X.env.cells.lookup x=some c->H c=none
 pin:∀ p∈X.pn++pins,s.heap.get? p.1=some p.2/\H p.1=none/\p.1≠X.env.locals/\p.1∉X.fs/\∀ v,p.2.data≠.cell v
 hok:HOk X.prog X.w H s.heap
 len:σ.length=X.N.length
section
variable {X:Cx}{pins:List (Addr×Obj)}{σ:List (Option V)}{H H':Hp}{s:Shared}{h':Heap}
theorem Cx.Ok.nofr (ok:X.Ok) {b:Addr}{o:Obj}(e:X.base.get? b=some o):b∉X.fs:=fun hb=>by
 have:=(ok.funs.mem hb).1
 rw [e] at this;cases this
theorem Inv.bs (I:Inv X pins σ H s):∀ b o,X.base.get? b=some o->s.heap.get? b=some o/\H b=none:=fun b o e =>
 ⟨I.base.keep b o (I.ok.bs b o e).1 (I.ok.bs b o e).2 (I.ok.nofr e) (I.ok.noex b o e),I.base.free b o (I.ok.bs b o e).1 (I.ok.bs b o e).2 (I.ok.noex b o e)⟩
theorem Inv.bk (I:Inv X pins σ H s):∀ b o,X.base.get? b=some o->s.heap.get? b=some o:=fun b o e=>(I.bs b o e).1
theorem Inv.mod (I:Inv X pins σ H s):Mod X.K X.mg X.base:=I.ok.mod
theorem Inv.kIn (I:Inv X pins σ H s):X.K.In s.heap:=I.ok.mod.kin.keeps I.bk
theorem Inv.lt (I:Inv X pins σ H s):X.env.locals<s.heap.objs.size:=let ⟨_,hn,_⟩:=I.loc;hn.lt
theorem Inv.sz (I:Inv X pins σ H s):X.s₀.heap.objs.size<=s.heap.objs.size:=Nat.le_trans I.ok.above (le_of_lt I.lt)
theorem Inv.nofs (I:Inv X pins σ H s) {a:Addr}(h:s.heap.objs.size<=a):a∉X.fs:=fun hb=>by
 obtain ⟨_,o,ho,_⟩:=I.ok.funs.mem hb
 exact absurd (lt_of_lt_of_le (Heap.lt_size ho) (Nat.le_trans I.sz h)) (lt_irrefl _)
theorem Inv.cne (I:Inv X pins σ H s):∀ x c,X.env.cells.lookup x=some c->c≠X.env.locals:=fun x c e z=>by
 obtain ⟨v,o,ho,hd⟩:=I.cell x c e
 obtain ⟨m,⟨o',es,ep,ho',hd',_⟩,_⟩:=I.loc
 rw [z,ho'] at ho;cases ho;rw [hd'] at hd;cases hd
theorem Inv.funs (I:Inv X pins σ H s):s.heap.FunFrames X.base X.outer:=by
 have all:∀ (l:List Env),(∀ b∈frs l,b∈X.fs)->X.s₀.heap.FunFrames X.base l->s.heap.FunFrames X.base l:=by
  intro l
  induction l with
  | nil=>intro _ _;trivial
  | cons env r ih =>
   intro hs hl
   obtain ⟨hk,⟨L,o,hf,hn,ho,hd⟩,hr⟩:=hl
   have hL:L∈X.fs:=hs L (by unfold frs;rw [List.filterMap_cons,hf];exact mem_cons_self)
   obtain ⟨sl,e⟩:=I.base.slot L o ho (I.ok.frf L hL) hL fun z=>I.ok.exfs L z hL
   exact ⟨hk,⟨L,_,hf,hn,e,hd⟩,ih (fun b hb=>hs b (by unfold frs;rw [List.filterMap_cons,hf];exact mem_cons_of_mem _ hb)) hr⟩
 exact all X.outer (fun _ hb=>hb) I.ok.funs
theorem Inv.stack (I:Inv X pins σ H s):s.heap.FunFrames X.base X.stack:=by
 rcases I.ok.stk with e|⟨e,hf⟩
 .rw [e];exact I.funs
 .rw [e]
  obtain ⟨m,hn,_⟩:=I.loc
  refine .cons (by rw [I.ok.kind];decide) hf hn ?_ I.funs
  exact Heap.get?_none_of_le (Nat.le_trans I.ok.bsz I.ok.above)
theorem Inv.stkSub (I:Inv X pins σ H s):∀ b∈frs X.stack,b∈X.env.locals::X.fs:=fun b hb=>by
 rcases I.ok.stk with e|⟨e,hf⟩
 .rw [e] at hb;exact mem_cons_of_mem _ hb
 .rw [e] at hb
  unfold frs at hb
  rw [List.filterMap_cons,hf] at hb
  exact hb
theorem Inv.stkFree (I:Inv X pins σ H s):∀ b∈frs X.stack,H b=none:=fun b hb=>by
 rcases mem_cons.mp (I.stkSub b hb) with e|hb
 .rw [e];exact I.free
 .obtain ⟨_,o,ho,_⟩:=I.ok.funs.mem hb
  exact I.base.free b o ho (I.ok.frf b hb) fun z=>I.ok.exfs b z hb
theorem Inv.step {g':Array GenState}{t':Nat}{d':Drawn}{ch:List Addr}(I:Inv X pins σ H s)
  (hch:∀ b∈ch,(b∈X.ex\/X.s₀.heap.objs.size<=b)/\b≠X.env.locals/\(∀ x c,X.env.cells.lookup x=some c->c≠b)/\∀ p∈X.pn++pins,p.1≠b)
  (keep:∀ b o,b≠X.env.locals->b∉X.fs->b∉ch->s.heap.get? b=some o->H b=none->h'.get? b=some o)
  (slot:∀ b o,b≠X.env.locals->b∈X.fs->b∉ch->s.heap.get? b=some o->H b=none->∃ sl,h'.get? b=some { o with slots:=sl }) (free:∀ b o,b∉ch->s.heap.get? b=some o->H b=none->H' b=none)
  (there:∀ b o,b∉ch->s.heap.get? b=some o->∃ o',h'.get? b=some o')
  (tups:∀ b xs,H b=some (.tup xs)->H' b=some (.tup xs)) (frzs:∀ b o u,H b=some (.frz o u)->H' b=some (.frz o u)) (tbls:∀ b ps,H b=some (.tbl ps)->∃ more,H' b=some (.tbl (ps++more)))
  (ns:∀ m,s.heap.Ns X.env.locals m->h'.Ns X.env.locals m) (hok:HOk X.prog X.w H' h') (hg:AllBare g') :
  Inv X pins σ H' { s with heap:=h',gens:=g',drawn:=d',toks:=t' }:=by
 have neL:∀ b o,X.s₀.heap.get? b=some o->b≠X.env.locals:=fun b o e=>ne_of_lt (lt_of_lt_of_le (Heap.lt_size e) I.ok.above)
 have neC:∀ b o,X.s₀.heap.get? b=some o->b∉X.ex->b∉ch:=fun b o e hx hb=>by
  rcases (hch b hb).1 with z|z
  .exact hx z
  .exact absurd (lt_of_lt_of_le (Heap.lt_size e) z) (lt_irrefl _)
 have cellK:∀ x c,X.env.cells.lookup x=some c->∀ v,s.heap.IsCell c v->h'.IsCell c v:=fun x c e v ⟨o,ho,hd⟩=>by
  have nch:c∉ch:=fun z=>(hch c z).2.2.1 x c e rfl
  by_cases hc:c∈X.fs
  .obtain ⟨sl,q⟩:=slot c o (I.cne x c e) hc nch ho (I.freeC x c e)
   exact ⟨_,q,hd⟩
  .exact ⟨o,keep c o (I.cne x c e) hc nch ho (I.freeC x c e),hd⟩
 refine ⟨I.ok,I.os,hg,⟨fun b o e n hb hx=>?_,fun b o e n hb hx=>?_,fun b o e n hx=>?_,fun b o e hx=>?_,fun b xs e=>tups b xs (I.base.tups b xs e),fun b o xs e=>frzs b o xs (I.base.frzs b o xs e),fun b ps e=>?_⟩,?_,fun x c e=>?_,?_,fun x c e=>?_,fun p hp=>?_,hok,I.len⟩
 .exact keep b o (neL b o e) hb (neC b o e hx) (I.base.keep b o e n hb hx) (I.base.free b o e n hx)
 .obtain ⟨sl,e1⟩:=I.base.slot b o e n hb hx
  obtain ⟨sl',e2⟩:=slot b _ (neL b o e) hb (neC b o e hx) e1 (I.base.free b o e n hx)
  exact ⟨sl',e2⟩
 .obtain ⟨o',e1⟩:=I.base.there b o e hx
  exact free b o' (neC b o e hx) e1 (I.base.free b o e n hx)
 .obtain ⟨o',e1⟩:=I.base.there b o e hx
  exact there b o' (neC b o e hx) e1
 .obtain ⟨m1,e1⟩:=I.base.tbls b ps e
  obtain ⟨m2,e2⟩:=tbls b _ e1
  exact ⟨m1++m2,by rw [e2,Array.append_assoc]⟩
 .obtain ⟨m,hn,hl⟩:=I.loc
  refine ⟨m,ns m hn,fun i x v e1 e2 e3=>?_⟩
  obtain ⟨u,r,l⟩:=hl i x v e1 e2 e3
  refine ⟨u,r,?_⟩
  rcases l with l|⟨k,c,e,z⟩
  .exact .inl l
  .exact .inr ⟨k,c,e,cellK x c e _ z⟩
 .obtain ⟨v,z⟩:=I.cell x c e
  exact ⟨v,cellK x c e v z⟩
 .obtain ⟨m,⟨o,_,_,ho,_⟩,_⟩:=I.loc
  exact free _ o (fun z=>(hch _ z).2.1 rfl) ho I.free
 .obtain ⟨v,o,ho,hd⟩:=I.cell x c e
  exact free c o (fun z=>(hch c z).2.2.1 x c e rfl) ho (I.freeC x c e)
 .obtain ⟨e,n,ne,nf,d⟩:=I.pin p hp
  have nch:p.1∉ch:=fun z=>(hch p.1 z).2.2.2 p hp rfl
  exact ⟨keep p.1 p.2 ne nf nch e n,free p.1 p.2 nch e n,ne,nf,d⟩
theorem Inv.un {t':Nat}(I:Inv X pins σ H s) (u:Un X.fs [] H H' s.heap h') (hok:HOk X.prog X.w H' h'):Inv X pins σ H' { s with heap:=h',toks:=t' }:=by
 obtain ⟨m,⟨o,es,ep,ho,r⟩,_⟩:=id I.loc
 obtain ⟨sl,hL⟩:=u.any ho I.free (by simp)
 exact I.step (g':=s.gens) (d':=s.drawn) (ch:=[]) (fun _ z=>nomatch z) (fun b o _ hb _ e n=>u.keep b o e n hb (by simp)) (fun b o _ hb _ e n=>u.slot b o e n hb (by simp)) (fun b o _ e n=>u.free b o e n (by simp)) (fun b o _ e=>u.there b o e (by simp)) u.tups u.frzs u.tbls (fun m' hm=>by
  obtain ⟨o',es',ep',ho',r'⟩:=hm
  rw [ho] at ho';cases ho'
  exact ⟨_,es',ep',hL,r'⟩) hok I.bare
theorem Inv.call {g':Array GenState}{t':Nat}{d':Drawn}{ch:List Addr}(I:Inv X pins σ H s) (u:Un (frs X.stack) ch H H' s.heap h') (hok:HOk X.prog X.w H' h') (hg:AllBare g')
  (hch:∀ b∈ch,(b∈X.ex\/X.s₀.heap.objs.size<=b)/\b≠X.env.locals/\(∀ x c,X.env.cells.lookup x=some c->c≠b)/\∀ p∈X.pn++pins,p.1≠b) :
  Inv X pins σ H' { s with heap:=h',gens:=g',drawn:=d',toks:=t' }:=by
 obtain ⟨m,⟨o,es,ep,ho,r⟩,_⟩:=id I.loc
 obtain ⟨sl,hL⟩:=u.any ho I.free fun z=>(hch _ z).2.1 rfl
 exact I.step (ch:=ch) hch (fun b o hL hb hc e n=>u.keep b o e n (fun z=>(mem_cons.mp (I.stkSub b z)).elim hL hb) hc) (fun b o _ _ hc e n=>u.any e n hc) (fun b o hc e n=>u.free b o e n hc) (fun b o hc e=>u.there b o e hc) u.tups u.frzs u.tbls (fun m' hm=>by
  obtain ⟨o',es',ep',ho',r'⟩:=hm
  rw [ho] at ho';cases ho'
  exact ⟨_,es',ep',hL,r'⟩) hok hg
theorem Inv.turned {t':Nat}{it:Addr}(I:Inv X pins σ H s) (k:∀ b o,b≠it->s.heap.get? b=some o->h'.get? b=some o) (hn:H it=none) (hL:it≠X.env.locals)
  (h1:it∈X.ex\/X.s₀.heap.objs.size<=it) (h2:∀ x c,X.env.cells.lookup x=some c->c≠it) (h3:∀ p∈X.pn++pins,p.1≠it):Inv X pins σ H { s with heap:=h',toks:=t' }:=by
 have nit:∀ b u,H b=some u->b≠it:=fun b u e z=>by rw [z,hn] at e;cases e
 refine I.step (g':=s.gens) (d':=s.drawn) (ch:=[it]) (fun b hb=>?_) (fun b o _ _ hc e _=>k b o (fun z=>hc (by simp [z])) e) (fun b o _ _ hc e _=>⟨o.slots,k b o (fun z=>hc (by simp [z])) e⟩) (fun _ _ _ _ n=>n)
  (fun b o hc e=>⟨o,k b o (fun z=>hc (by simp [z])) e⟩) (fun _ _ e=>e) (fun _ _ _ e=>e) (fun b ps e=>⟨#[],by rw [e];simp⟩) (fun m hm=>?_) (fun b u e=>?_) I.bare
 .have e:b=it:=by simpa using hb
  subst e
  exact ⟨h1,hL,h2,h3⟩
 .obtain ⟨o,es,ep,ho,r⟩:=hm
  exact ⟨o,es,ep,k _ o (Ne.symm hL) ho,r⟩
 .refine (I.hok b u e).stay (fun c v hc q=>k c v ?_ q) (fun _ q=>q) fun _ _ q=>q
  rcases hc with z|z
  .rw [z];exact nit b u e
  .exact nit c _ z
theorem Inv.tok (I:Inv X pins σ H s) (t:Nat):Inv X pins σ H { s with toks:=t }:=I.un (h':=s.heap) (t':=t) Un.refl I.hok
theorem Inv.kept {t':Nat}(I:Inv X pins σ H s) (k:∀ b u,s.heap.get? b=some u->h'.get? b=some u):Inv X pins σ H { s with heap:=h',toks:=t' }:=I.un (Un.kept k) (I.hok.kept k)
theorem Inv.laid {a:Addr}{o:HO}{t':Nat}(I:Inv X pins σ H s) (k:∀ b u,s.heap.get? b=some u->h'.get? b=some u) (hp:s.heap.objs.size<=a) (new:ObjOk X.prog X.w (upd H a o) h' a o) :
  Inv X pins σ (upd H a o) { s with heap:=h',toks:=t' }:=I.un (Un.laid k hp (I.hok.fresh hp)) (I.hok.laid k hp new)
theorem Inv.write {x e:Addr}{o:HO}{t':Nat}(I:Inv X pins σ H s) (mu:Mut (H x)) (he:e=x\/H e=some (.own x)) (k:∀ b u,b≠e->s.heap.get? b=some u->h'.get? b=some u) (heo:∃ u,h'.get? e=some u)
  (new:ObjOk X.prog X.w (upd H x o) h' x o):Inv X pins σ (upd H x o) { s with heap:=h',toks:=t' }:=I.un (Un.write mu he k heo) (I.hok.write mu he k heo new)
theorem Inv.pins_of {pins':List (Addr×Obj)}(I:Inv X pins σ H s) (h:∀ p∈pins',s.heap.get? p.1=some p.2/\H p.1=none/\p.1≠X.env.locals/\p.1∉X.fs/\∀ v,p.2.data≠.cell v):Inv X pins' σ H s :=
 ⟨I.ok,I.os,I.bare,I.base,I.loc,I.cell,I.free,I.freeC,fun p hp=>(List.mem_append.mp hp).elim (fun z=>I.pin p (mem_append_left _ z)) (h p),I.hok,I.len⟩
theorem ynR {N:List Str}(hN:N.Nodup) {i j:Nat}{x:Str}(a:N[i]?=some x) (b:N[j]?=some x):i=j:=by
 obtain ⟨h1,e1⟩:=List.getElem?_eq_some_iff.mp a
 obtain ⟨h2,e2⟩:=List.getElem?_eq_some_iff.mp b
 exact (List.getElem_inj hN).mp (e1.trans e2.symm)
theorem yqg {M:Model}{A:Around}{E:Value->Shared->Prop}{i:Nat}{x:Str}{v:V}{u:Value}{Q:Unit->Shared->Prop}(I:Inv X pins σ H s) (hN:X.N.Nodup) (hi:X.N[i]?=some x) (hx:Loc X.env.scope x) (r:RelV v u)
  (h:∀ s',Inv X pins (σ.set i (some v)) H s'->(∃ a,Heap.SameBut a s.heap s'.heap/\(a=X.env.locals\/X.env.cells.lookup x=some a))->Q () s') (hf:X.fn x=true\/X.env.scope.names.lookup x=some .local:=by first|exact .inl rfl|exact .inr rfl|assumption):wpAny M A (storeName X.env x u) Q E s:=by
 obtain ⟨m,hn,hl⟩:=id I.loc
 have hcls:(X.env.scope.kind == .class || (X.env.scope.kind == .module && X.env.locals != X.env.globals))=false:=by rw [I.ok.kind];rfl
 have hiσ:i<σ.length:=by rw [I.len];exact (List.getElem?_eq_some_iff.mp hi).1
 have cne:=I.cne
 have tracked:∀ {a:Addr}{h':Heap},(∃ o,s.heap.get? a=some o/\H a=none)->Heap.SameBut a s.heap h'->HOk X.prog X.w H h':=fun {a h'} ha hs b ob e=>by
  obtain ⟨_,_,hfree⟩:=ha
  refine (I.hok b ob e).stay (fun c w' hc q=>(hs.2 c ?_).trans q) (fun _ q=>q) fun _ _ q=>q
  rintro rfl
  rcases hc with rfl|hc
  .rw [hfree] at e;cases e
  .rw [hfree] at hc;cases hc
 rcases hx with hk|hk
 .refine wpAny_storeName_local hk hn (fun h' hn' hs=>?_) hcls
  obtain ⟨oL,_,_,hoL,_⟩:=id hn
  refine h _ ⟨I.ok,I.os,I.bare,⟨fun b o e n hb hx=>?_,fun b o e n hb hx=>?_,I.base.free,fun b o e hx=>?_,I.base.tups,I.base.frzs,I.base.tbls⟩,⟨_,hn',fun j y v' e1 e2 e3=>?_⟩,fun y c e=>?_,I.free,I.freeC,fun p hp=>?_,tracked ⟨oL,hoL,I.free⟩ hs,by simpa using I.len⟩ ⟨_,hs,.inl rfl⟩
  .exact (hs.2 b (ne_of_lt (lt_of_lt_of_le (Heap.lt_size e) I.ok.above))).trans (I.base.keep b o e n hb hx)
  .obtain ⟨sl,e1⟩:=I.base.slot b o e n hb hx
   exact ⟨sl,(hs.2 b (ne_of_lt (lt_of_lt_of_le (Heap.lt_size e) I.ok.above))).trans e1⟩
  .obtain ⟨o',e1⟩:=I.base.there b o e hx
   exact ⟨o',(hs.2 b (ne_of_lt (lt_of_lt_of_le (Heap.lt_size e) I.ok.above))).trans e1⟩
  .by_cases hj:j=i
   .subst hj
    rw [hi] at e1;cases e1
    rw [getElem?_set_self hiσ] at e2
    cases e2
    exact ⟨u,r,.inl ⟨hk,by simp⟩⟩
   .rw [getElem?_set_ne (Ne.symm hj)] at e2
    obtain ⟨u',r',q⟩:=hl j y v' e1 e2 e3
    refine ⟨u',r',?_⟩
    rcases q with ⟨k,e⟩|⟨k,c,e,z⟩
    .refine .inl ⟨k,?_⟩
     have:y≠x:=fun e=>hj (ynR hN e1 (e ▸ hi))
     simp [this,e]
    .exact .inr ⟨k,c,e,z.sameBut hs (cne y c e)⟩
  .obtain ⟨w',z⟩:=I.cell y c e
   exact ⟨w',z.sameBut hs (cne y c e)⟩
  .obtain ⟨e,n,ne,nf,d⟩:=I.pin p hp
   exact ⟨(hs.2 p.1 ne).trans e,n,ne,nf,d⟩
 .have hfn:X.fn x=true:=by
   rcases hf with z|z
   .exact z
   .rw [z] at hk;cases hk
  obtain ⟨c,hc⟩:=I.ok.has x (.inl hk)
  obtain ⟨w',z⟩:=I.cell x c hc
  refine wpAny_storeName_cell I.ok.kind hk hc z (fun h' hc' hs=>?_)
  obtain ⟨oc,hoc,hocd⟩:=id z
  refine h { s with heap:=h' } ⟨I.ok,I.os,I.bare,⟨fun b o e n hb hx=>?_,fun b o e n hb hx=>?_,I.base.free,fun b o e hx=>?_,I.base.tups,I.base.frzs,I.base.tbls⟩,⟨m,hn.sameBut hs (Ne.symm (cne x c hc)),fun j y v' e1 e2 e3=>?_⟩,fun y c' e=>?_,I.free,I.freeC,fun p hp=>?_,tracked ⟨oc,hoc,I.freeC x c hc⟩ hs,by simpa using I.len⟩ ⟨c,hs,.inr hc⟩
  .exact (hs.2 b (ne_of_lt (lt_of_lt_of_le (Heap.lt_size e) (I.ok.cab x c hfn hc)))).trans (I.base.keep b o e n hb hx)
  .obtain ⟨sl,e1⟩:=I.base.slot b o e n hb hx
   exact ⟨sl,(hs.2 b (ne_of_lt (lt_of_lt_of_le (Heap.lt_size e) (I.ok.cab x c hfn hc)))).trans e1⟩
  .obtain ⟨o',e1⟩:=I.base.there b o e hx
   exact ⟨o',(hs.2 b (ne_of_lt (lt_of_lt_of_le (Heap.lt_size e) (I.ok.cab x c hfn hc)))).trans e1⟩
  .by_cases hj:j=i
   .subst hj
    rw [hi] at e1;cases e1
    rw [getElem?_set_self hiσ] at e2
    cases e2
    exact ⟨u,r,.inr ⟨.inl hk,c,hc,hc'⟩⟩
   .rw [getElem?_set_ne (Ne.symm hj)] at e2
    obtain ⟨u',r',q⟩:=hl j y v' e1 e2 e3
    refine ⟨u',r',?_⟩
    rcases q with q|⟨k,c',e,z'⟩
    .exact .inl q
    .refine .inr ⟨k,c',e,z'.sameBut hs ?_⟩
     rintro rfl
     exact hj (ynR hN e1 (I.ok.inj _ _ _ e hc ▸ hi))
  .by_cases hcc:c'=c
   .subst hcc;exact ⟨_,hc'⟩
   .obtain ⟨w2,z2⟩:=I.cell y c' e
    exact ⟨w2,z2.sameBut hs hcc⟩
  .obtain ⟨e,n,ne,nf,d⟩:=I.pin p hp
   refine ⟨(hs.2 p.1 ?_).trans e,n,ne,nf,d⟩
   intro q
   rw [q,hoc] at e
   have q':oc=p.2:=Option.some.inj e
   exact d w' (by rw [<- q'];exact hocd)
theorem ynS {M:Model}{A:Around}{E:Value->Shared->Prop}{i:Nat}{x:Str}{v:V}{u:Value}{Q:Unit->Shared->Prop}(I:Inv X pins σ H s) (hN:X.N.Nodup) (hi:X.N[i]?=some x) (hx:Loc X.env.scope x) (r:RelV v u)
  (h:∀ s',Inv X pins (σ.set i (some v)) H s'->Q () s') (hf:X.fn x=true\/X.env.scope.names.lookup x=some .local:=by first|exact .inl rfl|exact .inr rfl|assumption):wpAny M A (storeName X.env x u) Q E s :=
 yqg I hN hi hx r (fun s' I' _=>h s' I') hf
theorem Inv.call' {s':Shared}{ch:List Addr}(I:Inv X pins σ H s) (ho:s'.os=s.os) (u:Un (frs X.stack) ch H H' s.heap s'.heap) (hok:HOk X.prog X.w H' s'.heap) (hg:AllBare s'.gens)
  (hch:∀ b∈ch,(b∈X.ex\/X.s₀.heap.objs.size<=b)/\b≠X.env.locals/\(∀ x c,X.env.cells.lookup x=some c->c≠b)/\∀ p∈X.pn++pins,p.1≠b):Inv X pins σ H' s':=by
 obtain ⟨h',g',d',t',o'⟩:=s'
 have e:o'=s.os:=ho
 subst e
 exact I.call (g':=g') (t':=t') (d':=d') u hok hg hch
end
abbrev XK:=Value->Option Addr->Hp->Prop
abbrev St:=List (Option V)
abbrev VK:=V->Hp->Prop
abbrev TE:=St->Hp->VK->Prop
abbrev TT:=St->Hp->(Bool->Hp->Prop)->Prop
abbrev TA:=St->Hp->(List V->Hp->Prop)->Prop
structure Ends where
 nx:St->Hp->Prop
 rt:VK
 bk:St->Hp->Prop:=fun _ _=>False
 ct:St->Hp->Prop:=fun _ _=>False
abbrev TS:=Ends->St->Hp->Prop
def EP (X:Cx) (pins:List (Addr×Obj)) (σ:St) (Q:VK) (u:Value) (s':Shared):Prop:=∃ v H',Inv X pins σ H' s'/\RelV v u/\Q v H'
noncomputable def TP (X:Cx) (pins:List (Addr×Obj)) (σ:St) (Q:Bool->Hp->Prop) (b:Bool) (s':Shared):Prop:=∃ H',Inv X pins σ H' s'/\Q b H'
def AP (X:Cx) (pins:List (Addr×Obj)) (σ:St) (Q:List V->Hp->Prop) (us:List Value) (s':Shared):Prop:=∃ vs H',Inv X pins σ H' s'/\Vals vs us/\Q vs H'
def SP (X:Cx) (pins:List (Addr×Obj)) (D:Ends) (f:Flow) (s':Shared):Prop :=
 match f with
 | .next=>∃ σ' H',Inv X pins σ' H' s'/\D.nx σ' H'
 | .brk=>∃ σ' H',Inv X pins σ' H' s'/\D.bk σ' H'
 | .cont=>∃ σ' H',Inv X pins σ' H' s'/\D.ct σ' H'
 | .ret u=>∃ v σ' H',Inv X pins σ' H' s'/\RelV v u/\D.rt v H'
def PE (X:Cx) (e:Expr) (t:TE):Prop :=
 ∀ (pins:List (Addr×Obj)) (s:Shared) (σ:St) (H:Hp) (Q:VK),Inv X pins σ H s->t σ H Q->wpAny (model X.prog X.w) X.A (eval e X.env) (EP X pins σ Q) X.xe s
def PT (X:Cx) (e:Expr) (t:TT):Prop :=
 ∀ (pins:List (Addr×Obj)) (s:Shared) (σ:St) (H:Hp) (Q:Bool->Hp->Prop),Inv X pins σ H s->t σ H Q->wpAny (model X.prog X.w) X.A (isTrue e X.env (eval e X.env)) (TP X pins σ Q) X.xe s
def PW (X:Cx) (e:Expr) (t:TT):Prop :=
 ∀ (whole:Sem Value) (pins:List (Addr×Obj)) (s:Shared) (σ:St) (H:Hp) (Q:Bool->Hp->Prop),Inv X pins σ H s->t σ H Q->wpAny (model X.prog X.w) X.A (isTrue e X.env whole) (TP X pins σ Q) X.xe s
theorem PW.pt {X:Cx}{e:Expr}{t:TT}(h:PW X e t):PT X e t:=h _
def PA (X:Cx) (es:List Expr) (t:TA):Prop :=
 ∀ (pos:Pos) (pins:List (Addr×Obj)) (s:Shared) (σ:St) (H:Hp) (Q:List V->Hp->Prop),Inv X pins σ H s->t σ H Q->wpAny (model X.prog X.w) X.A (spliced (backTo pos (starEach es X.env))) (AP X pins σ Q) X.xe s
def PS (X:Cx) (st:Stmt) (t:TS):Prop :=
 ∀ (pins:List (Addr×Obj)) (s:Shared) (σ:St) (H:Hp) (D:Ends),Inv X pins σ H s->t D σ H->wpAny (model X.prog X.w) X.A (exec st X.env) (SP X pins D) X.xe s
def PSs (X:Cx) (st:List Stmt) (t:TS):Prop :=
 ∀ (pins:List (Addr×Obj)) (s:Shared) (σ:St) (H:Hp) (D:Ends),Inv X pins σ H s->t D σ H->wpAny (model X.prog X.w) X.A (execs st X.env) (SP X pins D) X.xe s
theorem thn {α:Type}{t:Sem α}{Q Q':α->Shared->Prop}{M:Model}{A:Around}{E:Value->Shared->Prop}{s:Shared}(h:wpAny M A t Q E s) (hQ:∀ a s,Q a s->Q' a s):wpAny M A t Q' E s:=wpAny_mono h hQ fun _ _ x=>x
end L2
namespace L2
open PySem PySem.Spec PyProof.Rows
section
variable {X:Cx}
def ypW (i:Nat):TE:=fun σ H Q=>∃ v,σ[i]?=some (some v)/\Q v H
def tC (v:V):TE:=fun _ H Q=>Q v H
theorem yjk {i:Nat}{x:Str}{pos:Pos}(hN:X.N[i]?=some x) (hv:Vis X.env.scope x) (hd:(x == ("__debug__":Str))=false:=by decide) (hcd:(x == ("__classdict__":Str))=false:=by decide):PE X (.Name x pos) (ypW i):=by
 intro pins s σ H Q I h
 obtain ⟨v,e,h⟩:=h
 obtain ⟨m,hn,hl⟩:=I.loc
 obtain ⟨u,r,l⟩:=hl i x v hN e hv
 have fin:EP X pins σ Q u s:=⟨v,H,I,r,h⟩
 rcases l with ⟨hk,hm⟩|⟨hk,c,hc,hcell⟩
 .exact wpAny_Name (wpAny_loadName_local I.ok.kind hk hn hm fin) hd
 .rcases hk with hk|hk
  .exact wpAny_Name (wpAny_loadName_cell I.ok.kind hk hc hcell fin) hd
  .exact wpAny_Name (wpAny_loadName_free I.ok.kind hk hc hcell fin hcd) hd
theorem yzk {i j pos}:PE X (.Constant (.int i) j pos) (tC (.int i)):=fun _ _ _ H _ I h=>wpAny_Constant_int ⟨.int i,H,I.tok _,⟨_,rfl⟩,h⟩
theorem yCu {b j pos}:PE X (.Constant (.bool b) j pos) (tC (.bl b)):=fun _ _ _ H _ I h=>Constant_bool ⟨.bl b,H,I,rfl,h⟩
theorem yzl {j pos}:PE X (.Constant .none j pos) (tC .non):=fun _ _ _ H _ I h=>Constant_none ⟨.non,H,I,rfl,h⟩
theorem yzm {x j pos}:PE X (.Constant (.str x) j pos) (tC (.str x)):=fun _ _ _ H _ I h=>Calls.Constant_str ⟨.str x,H,I.tok _,⟨_,rfl⟩,h⟩
def Gl (X:Cx) (x:Str):Prop:=X.env.kindOf x=some .globalImplicit
theorem yhG {E:Value->Shared->Prop}{pins:List (Addr×Obj)}{s:Shared}{σ:St}{H:Hp}{x:Str}{u:Value}{pos:Pos}{Q:Value->Shared->Prop}(I:Inv X pins σ H s) (hg:Gl X x) (hm:X.mg x=some u) (h:Q u s)
  (hd:(x == ("__debug__":Str))=false:=by decide):wpAny (model X.prog X.w) X.A (eval (.Name x pos) X.env) Q E s :=
 Calls.Name_function_global I.ok.kind hg (Calls.loadGlobal_global (by rw [I.ok.glob];exact I.mod.glob.keeps I.bk) hm h) hd
theorem ykY {E:Value->Shared->Prop}{pins:List (Addr×Obj)}{s:Shared}{σ:St}{H:Hp}{x:Str}{u:Value}{pos:Pos}{Q:Value->Shared->Prop}(I:Inv X pins σ H s) (hg:Gl X x) (hm:X.mg x=none) (hv:bootBuiltins x=some u) (h:Q u s)
  (hn:x≠"__name__":=by decide) (hd:(x == ("__debug__":Str))=false:=by decide):wpAny (model X.prog X.w) X.A (eval (.Name x pos) X.env) Q E s:=by
 obtain ⟨mb,h1,h2⟩:=I.mod.blt
 exact Calls.Name_function_global I.ok.kind hg (Calls.loadGlobal_builtin (by rw [I.ok.glob];exact I.mod.glob.keeps I.bk) hm (by rw [I.ok.blt];exact h1.keeps I.bk) ((h2 x hn).trans hv) h) hd
theorem ymz {x:Str}{v:V}{u:Value}{pos:Pos}(hg:Gl X x) (hm:X.mg x=some u) (r:RelV v u) (hd:(x == ("__debug__":Str))=false:=by decide):PE X (.Name x pos) (tC v) :=
 fun _ _ _ H _ I h=>yhG I hg hm ⟨v,H,I,r,h⟩ hd
theorem ywv {x:Str}{v:V}{u:Value}{pos:Pos}(hg:Gl X x) (hm:X.mg x=none) (hv:bootBuiltins x=some u) (r:RelV v u) (hn:x≠"__name__":=by decide) (hd:(x == ("__debug__":Str))=false:=by decide):PE X (.Name x pos) (tC v) :=
 fun _ _ _ H _ I h=>ykY I hg hm hv ⟨v,H,I,r,h⟩ hn hd
variable {a b:Expr}{ta tb:TE}{pos:Pos}
def PC (X:Cx) (op:CmpOp) (a b:Expr) (t:TE):Prop :=
 ∀ (pins:List (Addr×Obj)) (s:Shared) (σ:St) (H:Hp) (Q:VK),Inv X pins σ H s->t σ H Q ->
  wpAny (model X.prog X.w) X.A (eval a X.env) (fun v s₁=>wpAny (model X.prog X.w) X.A (eval b X.env) (fun u s₂=>wpAny (model X.prog X.w) X.A (compareOp op v u) (EP X pins σ Q) X.xe s₂) X.xe s₁) X.xe s
theorem yta (b:Expr) {op:CmpOp}(h:op≠.In) (h2:op≠.NotIn):behindInMarks op b=false:=by
 have e1:(op == CmpOp.In)=false:=by cases op<;>first|rfl|exact absurd rfl h
 have e2:(op == CmpOp.NotIn)=false:=by cases op<;>first|rfl|exact absurd rfl h2
 cases b<;>simp [behindInMarks,e1,e2]
def tB (t:TE):TT:=fun σ H Q=>t σ H fun x H1=>∃ c,x=.bl c/\Q c H1
theorem yzn {op:CmpOp}{t:TE}(h:PC X op a b t) (h1:behindInMarks op b=false:=by first|exact yta _ (by decide) (by decide)|rfl):PT X (.Compare a [op] [b] pos) (tB t):=by
 intro pins s σ H Q I hw
 refine wpAny_isTrue_Compare1 (thn (h pins s σ H _ I hw) fun v s1 h1=>thn h1 fun u s2 h2=>thn h2 fun c s3 ⟨x,H1,I1,r1,q1⟩=>?_) h1
 obtain ⟨d,rfl,q⟩:=q1
 cases r1
 exact wpAny_truthy_bool ⟨H1,I1,q⟩
theorem yzo {e:Expr}{t:TE}(h:PE X e t) (he:∀ whole,isTrue e X.env whole=(do let v <- whole;standAt e.pos;holding [v] (truthy v)):=by intro _;rfl):PT X e (tB t):=by
 intro pins s σ H Q I hw
 refine isTrue_plain (thn (h pins s σ H _ I hw) fun v s1 ⟨x,H1,I1,r1,q1⟩=>?_) (he _)
 obtain ⟨d,rfl,q⟩:=q1
 cases r1
 exact wpAny_truthy_bool ⟨H1,I1,q⟩
variable {tA tB':TT}{rest:List Expr}
def yEW (t u:TT):TT:=fun σ H Q=>t σ H fun c H1=>if c=true then u σ H1 Q else Q false H1
def tOr (t u:TT):TT:=fun σ H Q=>t σ H fun c H1=>if c=true then Q true H1 else u σ H1 Q
def yCv (t:TT):TT:=fun σ H Q=>t σ H fun c H1=>Q (!c) H1
theorem yww (ha:PT X a tA):PW X (.BoolOp .And [a] pos) tA:=by
 intro wh pins s σ H Q I h
 refine isTrue_and (thn (ha pins s σ H Q I h) fun c s1 e=>?_)
 cases c with
 | true=>exact isTrue_and_nil e
 | false=>exact e
theorem yzp (ha:PT X a tA):PW X (.BoolOp .Or [a] pos) tA:=by
 intro wh pins s σ H Q I h
 refine isTrue_or (thn (ha pins s σ H Q I h) fun c s1 e=>?_)
 cases c with
 | false=>exact isTrue_or_nil e
 | true=>exact e
theorem yzq (ha:PT X a tA) (hb:PW X (.BoolOp .And (b::rest) pos) tB'):PW X (.BoolOp .And (a::b::rest) pos) (yEW tA tB'):=by
 intro wh pins s σ H Q I h
 refine isTrue_and (thn (ha pins s σ H _ I h) fun c s1 ⟨H1,I1,q1⟩=>?_)
 cases c with
 | true=>exact hb wh pins s1 σ H1 Q I1 q1
 | false=>exact ⟨H1,I1,q1⟩
theorem yCw (ha:PT X a tA) (hb:PW X (.BoolOp .Or (b::rest) pos) tB'):PW X (.BoolOp .Or (a::b::rest) pos) (tOr tA tB'):=by
 intro wh pins s σ H Q I h
 refine isTrue_or (thn (ha pins s σ H _ I h) fun c s1 ⟨H1,I1,q1⟩=>?_)
 cases c with
 | true=>exact ⟨H1,I1,q1⟩
 | false=>exact hb wh pins s1 σ H1 Q I1 q1
theorem yzr (ha:PT X a tA):PT X (.UnaryOp .Not a pos) (yCv tA):=by
 intro pins s σ H Q I h
 exact isTrue_not (ha pins s σ H (fun c H1=>Q (!c) H1) I h)
def yzs (ta tb:TE):TE:=fun σ H Q=>ta σ H fun x H1=>∃ c,x=.bl c/\if c=true then tb σ H1 Q else Q (.bl false) H1
def yzt (ta:TE):TE:=fun σ H Q=>ta σ H fun x H1=>∃ c,x=.bl c/\Q (.bl (!c)) H1
theorem yzu {op} {t:TE}(h:PE X a t):PE X (.BoolOp op [a] pos) t:=fun pins s σ H Q I hw=>BoolOp_one (h pins s σ H Q I hw)
theorem yzv (ha:PE X a ta) (hb:PE X (.BoolOp .And (b::rest) pos) tb):PE X (.BoolOp .And (a::b::rest) pos) (yzs ta tb):=by
 intro pins s σ H Q I h
 refine BoolOp_and (thn (ha pins s σ H _ I h) fun v s1 ⟨x,H1,I1,r1,q1⟩=>?_)
 obtain ⟨c,rfl,q1⟩:=q1
 cases r1
 refine wpAny_truthy_bool ?_
 cases c with
 | true=>exact hb pins s1 σ H1 Q I1 q1
 | false=>exact ⟨.bl false,H1,I1,rfl,q1⟩
theorem yzw (ha:PE X a ta):PE X (.UnaryOp .Not a pos) (yzt ta):=by
 intro pins s σ H Q I h
 refine UnaryOp_ (thn (ha pins s σ H _ I h) fun v s1 ⟨x,H1,I1,r1,q1⟩=>?_)
 obtain ⟨c,rfl,q1⟩:=q1
 cases r1
 exact not_of (wpAny_truthy_bool ⟨.bl (!c),H1,I1,rfl,q1⟩)
def tIf (t:TT) (ta tb:TE):TE:=fun σ H Q=>t σ H fun c H1=>if c=true then ta σ H1 Q else tb σ H1 Q
theorem ytb {c:Expr}(hc:PT X c tA) (ha:PE X a ta) (hb:PE X b tb):PE X (.IfExp c a b pos) (tIf tA ta tb):=by
 intro pins s σ H Q I h
 refine wpAny_IfExp (thn (hc pins s σ H _ I h) fun d s1 ⟨H1,I1,q1⟩=>?_)
 cases d with
 | true=>exact ha pins s1 σ H1 Q I1 q1
 | false=>exact hb pins s1 σ H1 Q I1 q1
end
end L2
namespace L2
open PySem PySem.Spec PyProof.Rows
def SqL (K:PySem.W.Frag) (H:Hp) (a:Addr) (xs:List V):Prop :=
 Rd H a (.lst xs) \/
  ∃ (o:Obj) (its:Array Value) (n:Nat),K.lookup a=some o/\o.cls=.type "list"/\o.dict=none/\o.data=.seq its n/\its.size<=sizeLine/\Vals xs its.toList
def SqT (K:PySem.W.Frag) (H:Hp) (a:Addr) (xs:List V):Prop :=
 Rd H a (.tup xs) \/
  ∃ (o:Obj) (its:Array Value) (n:Nat),K.lookup a=some o/\o.cls=.type "tuple"/\o.data=.seq its n/\its.size<=sizeLine/\Vals xs its.toList
noncomputable def yFI:Value->Option V
 | .none=>some .non
 | .bool b=>some (.bl b)
 | .int i _=>some (.int i)
 | .str x _=>some (.str x)
 | .bytes b _=>some (.byt b)
 | .float b _=>some (.flt b)
 | .ref a=>some (.ref a)
 | .type n=>some (.ty n)
 | _=>none
theorem RelV.abs {x:V}{u:Value}(r:RelV x u):yFI u=some x:=by
 cases x with
 | non=>cases r;rfl
 | bl _=>cases r;rfl
 | int _=>obtain ⟨t,rfl⟩:=r;rfl
 | str _=>obtain ⟨t,rfl⟩:=r;rfl
 | byt _=>obtain ⟨t,rfl⟩:=r;rfl
 | flt _=>obtain ⟨t,rfl⟩:=r;rfl
 | ref _=>cases r;rfl
 | ty _=>cases r;rfl
theorem RelV.inj {x y:V}{u:Value}(r:RelV x u) (q:RelV y u):x=y:=Option.some.inj (r.abs.symm.trans q.abs)
theorem Vals.inj:∀ {xs ys:List V}{us:List Value},Vals xs us->Vals ys us->xs=ys
 | _,_,_,.nil,.nil=>rfl
 | _,_,_,.cons r t,.cons r' t'=>by rw [r.inj r',Vals.inj t t']
section
variable {X:Cx}{pins:List (Addr×Obj)}{σ:St}{H:Hp}{s:Shared}{a:Addr}{xs ys:List V}
theorem SqL.of {K:PySem.W.Frag}(h:H a=some (.lst xs)):SqL K H a xs:=.inl (.inl h)
theorem SqT.of {K:PySem.W.Frag}(h:H a=some (.tup xs)):SqT K H a xs:=.inl (.inl h)
theorem Inv.list (I:Inv X pins σ H s) (h:SqL X.K H a xs):∃ its:List Value,Vals xs its/\PlainL s.heap a its.toArray/\xs.length<=sizeLine:=by
 rcases h with h|⟨o,its,n,hk,hc,hd,hs,hz,r⟩
 .obtain ⟨z,its,n,r,e⟩:=h.ok I.hok
  exact ⟨its,r,⟨_,n,e,rfl,rfl,rfl⟩,z⟩
 .refine ⟨its.toList,r,⟨o,n,I.kIn a o hk,hc,hd,by simpa using hs⟩,?_⟩
  have e:=r.length
  simp only [Array.length_toList] at e
  omega
theorem Inv.tuple (I:Inv X pins σ H s) (h:SqT X.K H a xs):∃ its:List Value,Vals xs its/\IsTup s.heap a its.toArray/\xs.length<=sizeLine:=by
 rcases h with h|⟨o,its,n,hk,hc,hs,hz,r⟩
 .obtain ⟨z,its,r,p⟩:=h.ok I.hok
  exact ⟨its,r,p,z⟩
 .refine ⟨its.toList,r,⟨o,I.kIn a o hk,hc,n,by simpa using hs⟩,?_⟩
  have e:=r.length
  simp only [Array.length_toList] at e
  omega
theorem Inv.list_inj (I:Inv X pins σ H s) (h:SqL X.K H a xs) (h':SqL X.K H a ys):xs=ys:=by
 obtain ⟨its,r,⟨o,n,e,_,_,d⟩,_⟩:=I.list h
 obtain ⟨its',r',⟨o',n',e',_,_,d'⟩,_⟩:=I.list h'
 rw [e] at e';cases e'
 rw [d] at d'
 injection d' with d1 _
 have:its=its':=by simpa using congrArg Array.toList d1
 subst this
 exact r.inj r'
end
abbrev Cx.wish (X:Cx) (E:Value->Shared->Prop):Cx:={ X with xe:=E }
abbrev Cx.nox (X:Cx):Cx:=X.wish fun _ _=>False
theorem Cx.Ok.wish {X:Cx}(ok:X.Ok) (E:Value->Shared->Prop):(X.wish E).Ok :=
 ⟨ok.mod,ok.kind,ok.glob,ok.blt,ok.above,ok.inj,ok.has,ok.cab,ok.hd,ok.frames,ok.stk,ok.exf,ok.bs,ok.bsz,ok.noex,ok.exfs,ok.funs,ok.frf⟩
theorem Cx.Ok.unwish {X:Cx}{E:Value->Shared->Prop}(ok:(X.wish E).Ok):X.Ok :=
 ⟨ok.mod,ok.kind,ok.glob,ok.blt,ok.above,ok.inj,ok.has,ok.cab,ok.hd,ok.frames,ok.stk,ok.exf,ok.bs,ok.bsz,ok.noex,ok.exfs,ok.funs,ok.frf⟩
section
variable {X:Cx}{pins:List (Addr×Obj)}{σ:St}{H:Hp}{s:Shared}{E:Value->Shared->Prop}
theorem Inv.wish (I:Inv X pins σ H s) (E:Value->Shared->Prop):Inv (X.wish E) pins σ H s:=⟨I.ok.wish E,I.os,I.bare,I.base,I.loc,I.cell,I.free,I.freeC,I.pin,I.hok,I.len⟩
theorem Inv.unwish (I:Inv (X.wish E) pins σ H s):Inv X pins σ H s:=⟨I.ok.unwish,I.os,I.bare,I.base,I.loc,I.cell,I.free,I.freeC,I.pin,I.hok,I.len⟩
theorem SP.unwish {D:Ends}{f:Flow}{s':Shared}(h:SP (X.wish E) pins D f s'):SP X pins D f s':=by
 cases f with
 | next=>obtain ⟨σ',H',I,q⟩:=h;exact ⟨σ',H',I.unwish,q⟩
 | brk=>obtain ⟨σ',H',I,q⟩:=h;exact ⟨σ',H',I.unwish,q⟩
 | cont=>obtain ⟨σ',H',I,q⟩:=h;exact ⟨σ',H',I.unwish,q⟩
 | ret u=>obtain ⟨v,σ',H',I,r,q⟩:=h;exact ⟨v,σ',H',I.unwish,r,q⟩
theorem PSs.nox {st:List Stmt}{t:TS}(h:PSs X.nox st t):PSs X st t:=fun pins s σ H D I hw =>
 wpAny_mono (h pins s σ H D (I.wish _) hw) (fun _ _ q=>q.unwish) fun _ _ z=>False.elim z
end
section
variable {X:Cx}{st:Stmt}{rest:List Stmt}{t u:TS}{e:Expr}{te:TE}{pos:Pos}
def yzx:TS:=fun D σ H=>D.nx σ H
def yCx (t u:TS):TS:=fun D σ H=>t { D with nx:=u D } σ H
theorem ywx:PSs X [] yzx:=fun _ _ σ H _ I h=>wpAny_execs_nil ⟨σ,H,I,h⟩
theorem ynT (h1:PS X st t) (h2:PSs X rest u):PSs X (st::rest) (yCx t u):=by
 intro pins s σ H D I h
 refine wpAny_execs_cons (thn (h1 pins s σ H { D with nx:=u D } I h) fun f s1 q=>?_)
 cases f with
 | next =>
  obtain ⟨σ',H',I',q⟩:=q
  exact h2 pins s1 σ' H' D I' q
 | ret v=>exact q
 | brk=>exact q
 | cont=>exact q
theorem yqh (h1:PS X st t):PSs X [st] t:=by
 intro pins s σ H D I h
 refine wpAny_execs_cons (thn (h1 pins s σ H D I h) fun f s1 q=>?_)
 cases f with
 | next=>exact wpAny_execs_nil q
 | ret v=>exact q
 | brk=>exact q
 | cont=>exact q
theorem Inv.quiet {pins:List (Addr×Obj)}{σ:St}{H:Hp}{s:Shared}(I:Inv X pins σ H s):interactive X.env=false:=by simp [interactive,I.ok.kind]
def yqi (te:TE):TS:=fun D σ H=>te σ H fun _ H1=>D.nx σ H1
theorem yjN (he:PE X e te) (hs:swapsWith e none pos.line X.env=pure false:=by rfl):PS X (.Expr e pos) (yqi te):=by
 intro pins s σ H D I h
 exact wpAny_Expr_any (thn (he pins s σ H _ I h) fun v s1 ⟨x,H1,I1,r1,q1⟩=>⟨σ,H1,I1,q1⟩) I.quiet hs
def yEX (te:TE):TS:=fun D σ H=>te σ H D.rt
theorem yzy (he:PE X e te):PS X (.Return (some e) pos) (yEX te):=by
 intro pins s σ H D I h
 exact wpAny_Return_some (thn (he pins s σ H _ I h) fun v s1 ⟨x,H1,I1,r1,q1⟩=>⟨x,σ,H1,I1,r1,q1⟩)
def yEY (c:TT) (t u:TS):TS:=fun D σ H=>c σ H fun b H1=>if b=true then t D σ H1 else u D σ H1
theorem yCy {c:Expr}{a b:List Stmt}{tc:TT}(hc:PT X c tc) (ha:PSs X a t) (hb:PSs X b u):PS X (.If c a b pos) (yEY tc t u):=by
 intro pins s σ H D I h
 refine wpAny_If (thn (hc pins s σ H _ I h) fun d s1 ⟨H1,I1,q1⟩=>?_)
 cases d with
 | true=>exact ha pins s1 σ H1 D I1 q1
 | false=>exact hb pins s1 σ H1 D I1 q1
def yvs:TS:=fun _ _ _=>False
theorem ytc:PS X st yvs:=fun _ _ _ _ _ _ h=>h.elim
end
abbrev TG:=V->St->Hp->(St->Hp->Prop)->Prop
def PG (X:Cx) (target:Expr) (t:TG):Prop :=
 ∀ (pins:List (Addr×Obj)) (s:Shared) (σ:St) (H:Hp) (v:V) (u:Value) (Q:St->Hp->Prop),Inv X pins σ H s->RelV v u->t v σ H Q ->
  wpAny (model X.prog X.w) X.A (assign target X.env u) (fun _ s'=>∃ σ' H',Inv X pins σ' H' s'/\Q σ' H') X.xe s
abbrev yCz:=V->V->V->Hp->(Hp->Prop)->Prop
def yEZ (X:Cx) (t:yCz):Prop :=
 ∀ (pins:List (Addr×Obj)) (s:Shared) (σ:St) (H:Hp) (o i v:V) (ov iv u:Value) (Q:Hp->Prop),Inv X pins σ H s->RelV o ov->RelV i iv->RelV v u->t o i v H Q ->
  wpAny (model X.prog X.w) X.A (setItem ov iv u) (fun _ s'=>∃ H',Inv X pins σ H' s'/\Q H') X.xe s
section
variable {X:Cx}{pos:Pos}
def ypj (i:Nat):TG:=fun v σ H Q=>Q (σ.set i (some v)) H
theorem yjO {i:Nat}{x:Str}(hN:X.N.Nodup) (hi:X.N[i]?=some x) (hx:Loc X.env.scope x) (hf:X.fn x=true\/X.env.scope.names.lookup x=some .local:=by first|exact .inl rfl|exact .inr rfl|assumption):PG X (.Name x pos) (ypj i):=by
 intro pins s σ H v u Q I r h
 exact wpAny_assign_Name (ynS I hN hi hx r (fun s' I'=>⟨_,H,I',h⟩) hf)
def yFa (to ti:TE) (t:yCz):TG:=fun v σ H Q=>to σ H fun o H1=>ti σ H1 fun i H2=>t o i v H2 fun H3=>Q σ H3
theorem yzz {o i:Expr}{to ti:TE}{t:yCz}(ho:PE X o to) (hi:PE X i ti) (hs:yEZ X t)
  (ha:∀ v,assign (.Subscript o i pos) X.env v=(do
   let ov <- holding [v] (eval o X.env)
   let iv <- holding [v,ov] (eval i X.env)
   standAt pos
   holding [v,ov,iv] (setItem ov iv v)
   release [v,ov,iv] []):=by intro _;rfl):PG X (.Subscript o i pos) (yFa to ti t):=by
 intro pins s σ H v u Q I r h
 rw [ha]
 refine wpAny_bind (wpAny_holding (thn (ho pins s σ H _ I h) fun ov s1 ⟨x,H1,I1,r1,q1⟩=>?_))
 refine wpAny_bind (wpAny_holding (thn (hi pins s1 σ H1 _ I1 q1) fun iv s2 ⟨y,H2,I2,r2,q2⟩=>?_))
 refine wpAny_bind (wpAny_standAt (wpAny_bind (wpAny_holding (thn (hs pins s2 σ H2 x y v ov iv u _ I2 r1 r2 r q2) fun _ s3 ⟨H3,I3,q3⟩=>?_))))
 exact wpAny_release ⟨σ,H3,I3,q3⟩
def yvt (te:TE) (g:TG):TS:=fun D σ H=>te σ H fun x H1=>g x σ H1 D.nx
theorem yzA {tg e:Expr}{te:TE}{g:TG}(he:PE X e te) (hg:PG X tg g) (hs:swapsWithSole [tg] e pos.line X.env=pure false:=by rfl) (hw:swappedStores [tg] e X.env=pure none:=by rfl)
  (h1:(assignEach [tg] X.env).map (·.2)=[assign tg X.env]:=by rfl):PS X (.Assign [tg] e pos) (yvt te g):=by
 intro pins s σ H D I h
 refine wpAny_Assign_stores (thn (he pins s σ H _ I h) fun v s1 ⟨x,H1,I1,r1,q1⟩=>?_) hs hw
 rw [h1]
 exact thn (hg pins s1 σ H1 x v _ I1 r1 q1) fun _ s2 q=>q
theorem yvu {i:Nat}{x:Str}{e:Expr}{te:TE}{pos':Pos}(hN:X.N.Nodup) (hi:X.N[i]?=some x) (hx:Loc X.env.scope x) (he:PE X e te) (hs:swapsWith e (some (.Name x pos')) pos.line X.env=pure false:=by rfl) (hf:X.fn x=true\/X.env.scope.names.lookup x=some .local:=by first|exact .inl rfl|exact .inr rfl|assumption) :
  PS X (.Assign [.Name x pos'] e pos) (yvt te (ypj i)):=by
 intro pins s σ H D I h
 refine wpAny_Assign_Name (thn (he pins s σ H _ I h) fun v s1 ⟨y,H1,I1,r1,q1⟩=>?_) hs
 exact ynS I1 hN hi hx r1 (fun s2 I2=>⟨_,H1,I2,q1⟩) hf
end
section
variable {X:Cx}{pos:Pos}
noncomputable def yvv (c:TT) (tb:TS):TS:=fun D σ H=>∃ W:Nat->St->Hp->Prop,(∃ m,W m σ H)/\∀ m σ H,W m σ H ->
 c σ H fun b H1=>if b=true then ∃ N:St->Hp->Prop,(∀ σ' H',N σ' H'->∃ m',m'<m/\W m' σ' H')/\tb { D with nx:=N,ct:=N,bk:=D.nx } σ H1 else D.nx σ H1
theorem ytd {c:Expr}{body:List Stmt}{tc:TT}{tb:TS}(hp:PassesOwn (model X.prog X.w) X.A X.env X.xe) (hc:PT X c tc) (hb:PSs X body tb):PS X (.While c body [] pos) (yvv tc tb):=by
 intro pins s σ H D I h
 obtain ⟨W,⟨m0,w0⟩,turn⟩:=h
 refine wpAny_While (codeAny_whileLoop (fun n s'=>∃ σ' H',Inv X pins σ' H' s'/\W n σ' H') ?_ m0 ⟨σ,H,I,w0⟩)
 rintro n s1 ⟨σ1,H1,I1,w1⟩
 refine wpAny_passesOwn hp (thn (hc pins s1 σ1 H1 _ I1 (turn n σ1 H1 w1)) fun b s2 ⟨H2,I2,q2⟩=>?_)
 cases b with
 | true =>
  obtain ⟨N,hN,q2⟩:=q2
  rw [if_pos rfl]
  refine wpAny_passesOwn hp (thn (hb pins s2 σ1 H2 _ I2 q2) fun f s3 q3=>?_)
  cases f with
  | next =>
   obtain ⟨σ3,H3,I3,n3⟩:=q3
   obtain ⟨m',hm,w3⟩:=hN σ3 H3 n3
   exact ⟨m',hm,σ3,H3,I3,w3⟩
  | cont =>
   obtain ⟨σ3,H3,I3,n3⟩:=q3
   obtain ⟨m',hm,w3⟩:=hN σ3 H3 n3
   exact ⟨m',hm,σ3,H3,I3,w3⟩
  | brk=>exact q3
  | ret v=>exact q3
 | false =>
  rw [if_neg Bool.false_ne_true]
  exact wpAny_execs_nil ⟨σ1,H2,I2,q2⟩
end
structure It where
 go:Nat->Hp->Prop
 yld:Nat->Hp->V->Hp->Prop
 stop:Nat->Hp->Prop
noncomputable def yqj (X:Cx) (pins:List (Addr×Obj)) (H:Hp) (b:Addr):Prop :=
 H b=none/\b≠X.env.locals/\b∉X.fs/\(b∈X.ex\/X.s₀.heap.objs.size<=b)/\(∀ x c,X.env.cells.lookup x=some c->c≠b)/\∀ p∈X.pn++pins,p.1≠b
theorem Inv.fpOk {X:Cx}{pins:List (Addr×Obj)}{σ:St}{H H':Hp}{s:Shared}{b:Addr}(I:Inv X pins σ H s) (hb:s.heap.objs.size<=b) (hn:H' b=none):yqj X pins H' b:=by
 refine ⟨hn,Nat.ne_of_gt (lt_of_lt_of_le I.lt hb),I.nofs hb,.inr (Nat.le_trans I.sz hb),fun x c e z=>?_,fun p hp z=>?_⟩
 .obtain ⟨v,q⟩:=I.cell x c e
  exact absurd (lt_of_lt_of_le q.lt (by rw [z];exact hb)) (lt_irrefl _)
 .exact absurd (lt_of_lt_of_le (Heap.lt_size (I.pin p hp).1) (by rw [z];exact hb)) (lt_irrefl _)
structure Turn (P:Program) (w:World) (K:PySem.W.Frag) (tg:Expr) (J:It) (fp:List Addr) (it:Addr) (tn:Nat->Heap->Prop):Prop where
 mem:it∈fp
 obj:∀ i h,tn i h->∀ b∈fp,∃ o,h.get? b=some o/\∀ v,o.data≠.cell v
 keep:∀ i h h',tn i h->(∀ b∈fp,∀ o,h.get? b=some o->h'.get? b=some o)->tn i h'
 item:∀ (X:Cx),X.prog=P->X.w=w->X.K=K->X.calm=true->∀ (i:Nat) (pins:List (Addr×Obj)) (s:Shared) (σ:St) (H:Hp) (E:Value->Shared->Prop),Inv X pins σ H s->(∀ b∈fp,yqj X pins H b)->tn i s.heap->J.go i H ->
  wpAny (model P w) X.A (pyNext (.ref it)) (fun r s1=>∃ u,r=some u /\
   wpAny (model P w) X.A (letOwnedTupleGo tg (.ref it) u) (fun _ s2=>∃ x H',Inv X pins σ H' s2/\RelV x u/\J.yld i H x H'/\tn (i+1) s2.heap/\∀ b∈fp,H' b=none) E s1) E s
 done:∀ (X:Cx),X.prog=P->X.w=w->X.K=K->X.calm=true->∀ (i:Nat) (pins:List (Addr×Obj)) (s:Shared) (σ:St) (H:Hp) (E:Value->Shared->Prop),Inv X pins σ H s->(∀ b∈fp,yqj X pins H b)->tn i s.heap->J.stop i H ->
  wpAny (model P w) X.A (pyNext (.ref it)) (fun r s1=>r=none/\Inv X pins σ H s1) E s
 self:∀ (A:Around) (i:Nat) (s:Shared) (Q:Value->Shared->Prop) (E:Value->Shared->Prop),tn i s.heap->Q (.ref it) s->wpAny (model P w) A (pyIter (.ref it)) Q E s
abbrev TI:=St->Hp->(It->Hp->Prop)->Prop
def PIE (X:Cx) (pins:List (Addr×Obj)) (σ:St) (tg:Expr) (R:It->Hp->Prop) (itv:Value) (s2:Shared):Prop :=
 ∃ (it:Addr) (fp:List Addr) (tn:Nat->Heap->Prop) (J:It) (H':Hp),itv=.ref it/\Inv X pins σ H' s2/\Turn X.prog X.w X.K tg J fp it tn/\tn 0 s2.heap/\(∀ b∈fp,yqj X pins H' b)/\R J H'
def PI (X:Cx) (tg iter:Expr) (wi:TI):Prop :=
 ∀ (pins:List (Addr×Obj)) (s:Shared) (σ:St) (H:Hp) (R:It->Hp->Prop),Inv X pins σ H s->wi σ H R ->
  wpAny (model X.prog X.w) X.A (eval iter X.env) (fun v s1=>wpAny (model X.prog X.w) X.A (pyIter v) (PIE X pins σ tg R) X.xe s1) X.xe s
theorem yqk {M:Model}{A:Around}{E:Value->Shared->Prop}{s:Shared}{tg:Expr}{it:Addr}{u:Value}{o:Obj}{n:String}{vs:Array Value}{Q:Unit->Shared->Prop}(ho:s.heap.get? it=some o) (hc:o.cls=.type n) (hd:o.data=.fields vs)
    (hn:["enumerate","zip","dict_itemiterator","dict_reverseitemiterator","odict_iterator","itertools.zip_longest","itertools.pairwise"].contains n=false) (hQ:Q () s):wpAny M A (letOwnedTupleGo tg (.ref it) u) Q E s:=by
  unfold letOwnedTupleGo
  cases tg<;>first
    | exact wpAny_pure hQ
    | (cases u<;>first
        | exact wpAny_pure hQ
        | (refine wpAny_bind (wpAny_load ho ?_)
           rw [hc,hd]
           show wpAny M A (if (["enumerate","zip","dict_itemiterator","dict_reverseitemiterator","odict_iterator","itertools.zip_longest","itertools.pairwise"].contains n && vs[0]? == some (rawInt _))=true then _ else _) Q E s
           rw [if_neg (by intro h;rw [hn,Bool.false_and] at h;cases h)]
           exact wpAny_pure hQ))
def Itl (K:PySem.W.Frag) (a:Addr):It :=
 ⟨fun i H=>∃ xs x,SqL K H a xs/\xs[i]?=some x,fun i H x H'=>H'=H/\∀ xs,SqL K H a xs->xs[i]?=some x,fun i H=>∃ xs,SqL K H a xs/\xs.length<=i⟩
def Itr (lo:Int) (n:Nat):It:=⟨fun i _=>i<n,fun i H x H'=>H'=H/\x=.int (lo+i),fun i _=>n<=i⟩
theorem yql {P:Program}{w:World}{K:PySem.W.Frag}{tg:Expr}(a it:Addr):Turn P w K tg (Itl K a) [it] it (fun i h=>h.IsListIter it a i) where
 mem:=by simp
 obj:=fun i h st b hb=>by
  have e:b=it:=by simpa using hb
  subst e
  obtain ⟨o,e,c,d⟩:=st
  exact ⟨o,e,fun v z=>by rw [d] at z;cases z⟩
 keep:=fun i h h' st k=>st.at fun o e=>k it (by simp) o e
 item:=by
  intro X hP hw hK hc i pins s σ H E I hf st hg
  subst hP hw hK
  obtain ⟨xs,x,hq,hx⟩:=hg
  obtain ⟨its,rv,p,hz⟩:=I.list hq
  obtain ⟨u,hu,ru⟩:=rv.get hx
  obtain ⟨f0,f1,f2,f3,f4,f5⟩:=hf it (by simp)
  refine wpAny_pyNext_list_item st p.isList (x:=u) (by simpa using hu) fun h' st' sb=>?_
  have I1:Inv X pins σ H { s with heap:=h' }:=I.turned (t':=s.toks) (fun b o hb e=>(sb.2 b hb).trans e) f0 f1 f3 f4 f5
  obtain ⟨o,e,c,d⟩:=id st'
  exact ⟨u,rfl,yqk (s:={ s with heap:=h' }) e c d (by decide) ⟨x,H,I1,ru,⟨rfl,fun ys hy=>by rw [I.list_inj hy hq];exact hx⟩,st',fun b hb=>(hf b hb).1⟩⟩
 done:=by
  intro X hP hw hK hc i pins s σ H E I hf st hg
  subst hP hw hK
  obtain ⟨xs,hq,hx⟩:=hg
  obtain ⟨its,rv,p,hz⟩:=I.list hq
  obtain ⟨f0,f1,f2,f3,f4,f5⟩:=hf it (by simp)
  have hl:=rv.length
  exact wpAny_pyNext_list_end (I.ok.hd hc) st p.isList (by simp;omega) fun h' eb=>⟨rfl,I.turned (t':=s.toks) (fun b o hb e=>eb b o hb e) f0 f1 f3 f4 f5⟩
 self:=fun _ _ _ _ _ st h=>wpAny_pyIter_listiter st h
theorem ypk {P:Program}{w:World}{K:PySem.W.Frag}{tg:Expr}(it:Addr) (lo:Int) (n:Nat):Turn P w K tg (Itr lo n) [it] it (fun i h=>IsRangeIter h it (lo+(i:Nat)*1) ((n:Int)-(i:Nat)) 1) where
 mem:=by simp
 obj:=fun i h st b hb=>by
  have e:b=it:=by simpa using hb
  subst e
  exact ⟨_,st,fun v z=>by
   have z':Data.fields _=Data.cell v:=z
   cases z'⟩
 keep:=fun i h h' st k=>k it (by simp) _ st
 item:=by
  intro X hP hw hK hc i pins s σ H E I hf st hg
  subst hP hw hK
  obtain ⟨f0,f1,f2,f3,f4,f5⟩:=hf it (by simp)
  have W:=Walks.range (prog:=X.prog) (w:=X.w) (I.ok.hd hc) it lo 1 n
  refine W.item i s _ _ hg st fun v h' tk hv st' kk=>?_
  obtain ⟨t,rfl⟩:=hv
  have I1:Inv X pins σ H { s with heap:=h',toks:=tk }:=I.turned (fun b o hb e=>kk b o (by simpa using hb) e) f0 f1 f3 f4 f5
  refine ⟨_,rfl,yqk (s:={ s with heap:=h',toks:=tk }) (n:="range_iterator") st' rfl rfl (by decide) ⟨.int (lo+i),H,I1,⟨t,?_⟩,⟨rfl,rfl⟩,st',fun b hb=>(hf b hb).1⟩⟩
  rw [Int.mul_one]
 done:=by
  intro X hP hw hK hc i pins s σ H E I hf st hg
  subst hP hw hK
  obtain ⟨f0,f1,f2,f3,f4,f5⟩:=hf it (by simp)
  exact wpAny_pyNext_range_end (I.ok.hd hc) st (by have:n<=i:=hg;omega) fun h' eb=>⟨rfl,I.turned (t':=s.toks) (fun b o hb e=>eb b o hb e) f0 f1 f3 f4 f5⟩
 self:=fun _ _ _ _ _ st h=>wpAny_pyIter_rangeiter st h
end L2
namespace L2
open PySem PySem.Spec PyProof.Rows
section
variable {X:Cx}{tg:Expr}
def yte (K:PySem.W.Frag) (tl:TE):TI:=fun σ H R=>tl σ H fun x H1=>∃ a,x=.ref a/\(∃ xs,SqL K H1 a xs)/\R (Itl K a) H1
theorem ymA {l:Expr}{tl:TE}(hl:PE X l tl):PI X tg l (yte X.K tl):=by
 intro pins s σ H R I h
 refine thn (hl pins s σ H _ I h) fun v s1 ⟨x,H1,I1,r1,q1⟩=>?_
 obtain ⟨a,e,⟨xs,hq⟩,q⟩:=q1
 subst e
 cases r1
 obtain ⟨its,rv,p,hz⟩:=I1.list hq
 refine wpAny_pyIter_list p.isList ?_
 refine ⟨s1.heap.objs.size,[s1.heap.objs.size],_,_,H1,rfl,I1.kept (t':=s1.toks) fun b o e=>Heap.get?_push_of_some _ e,yql a _,⟨_,Heap.get?_push_size _ rfl,rfl,rfl⟩,fun b hb=>?_,q⟩
 have e:b=s1.heap.objs.size:=by simpa using hb
 subst e
 exact I1.fpOk (Nat.le_refl _) (I1.hok.fresh (Nat.le_refl _))
theorem ytf {pins:List (Addr×Obj)}{σ:St}{H:Hp}{s:Shared}{R:It->Hp->Prop}{E:Value->Shared->Prop}{lo hi:Int}{t u v:Tok}{tk:Nat}(I:Inv X pins σ H s) (h1:-(2 ^ 62)<=lo) (h2:lo<2 ^ 62) (h3:-(2 ^ 62)<=hi) (h4:hi<2 ^ 62)
  (q:R (Itr lo (hi-lo).toNat) H):wpAny (model X.prog X.w) X.A (pyIter (.ref s.heap.objs.size)) (PIE X pins σ tg R) E { s with heap:=s.heap.push { cls:=.type "range",data:=.fields #[.int lo t,.int hi u,.int 1 v] },toks:=tk }:=by
 refine wpAny_pyIter_range (IsRange.new ..) (small_one h1 h2 h3 h4) ?_
 have I1:Inv X pins σ H { s with heap:=s.heap.push { cls:=.type "range",data:=.fields #[.int lo t,.int hi u,.int 1 v] },toks:=tk }:=I.kept fun b o e=>Heap.get?_push_of_some _ e
 refine ⟨(s.heap.push { cls:=.type "range",data:=.fields #[.int lo t,.int hi u,.int 1 v] }).objs.size,[(s.heap.push { cls:=.type "range",data:=.fields #[.int lo t,.int hi u,.int 1 v] }).objs.size],_,_,H,rfl,
  I1.kept (t':=tk) fun b o e=>Heap.get?_push_of_some _ e,ypk _ lo (hi-lo).toNat,?_,fun b hb=>?_,q⟩
 .have e1:lo+((0:Nat):Int)*1=lo:=by simp
  have e2:(((hi-lo).toNat:Nat):Int)-((0:Nat):Int)=Builtin.Range.rangeSize lo hi 1:=by rw [rangeSize_one];split<;>omega
  show IsRangeIter _ _ (lo+((0:Nat):Int)*1) ((((hi-lo).toNat:Nat):Int)-((0:Nat):Int)) 1
  rw [e1,e2]
  exact Heap.get?_push_size _ rfl
 .have e:b=(s.heap.push { cls:=.type "range",data:=.fields #[.int lo t,.int hi u,.int 1 v] }).objs.size:=by simpa using hb
  subst e
  exact I1.fpOk (Nat.le_refl _) (I1.hok.fresh (Nat.le_refl _))
def yzB (ta:TA):TI:=fun σ H R=>ta σ H fun vs H1=>∃ j:Int,vs=[.int j]/\-(2 ^ 62)<=j/\j<2 ^ 62/\R (Itr 0 j.toNat) H1
theorem yqm {a:Expr}{ta:TA}{p pos:Pos}(hg:Gl X "range") (hm:X.mg "range" = none) (ha:PA X [a] ta) (hs:starEach [a] X.env=[(false,eval a X.env)]:=by rfl):PI X tg (.Call (.Name "range" p) [a] [] pos) (yzB ta):=by
 intro pins s σ H R I h
 refine Call_ (ykY I hg hm boot_range (PyProof.Rows.callWith_type1 (thn (ha pos pins s σ H _ I h) fun us s1 ⟨vs,H1,I1,r1,q1⟩=>?_) hs rfl))
 obtain ⟨j,e,q1,q2,q⟩:=q1
 subst e
 cases r1 with
 | cons r rr =>
  cases rr
  obtain ⟨t,rfl⟩:=r
  exact call_range_1 (ytf I1 (by omega) (by omega) q1 q2 (by simpa using q))
noncomputable def yCm (wi:TI) (g:TG) (tb:TS):TS:=fun D σ H=>wi σ H fun J H1=>∃ W:Nat->Nat->St->Hp->Prop,(∃ m,W 0 m σ H1)/\∀ i m σ H,W i m σ H ->
 (J.stop i H/\D.nx σ H)\/(J.go i H/\∃ N:St->Hp->Prop,(∀ σ' H',N σ' H'->∃ m',m'<m/\W (i+1) m' σ' H')/\∀ x H',J.yld i H x H'->g x σ H' fun σ2 H2=>tb { D with nx:=N,ct:=N,bk:=D.nx } σ2 H2)
def ynU (fp:List Addr) (h:Heap):List (Addr×Obj):=fp.filterMap fun b=>(h.get? b).map fun o=>(b,o)
theorem ybJ {fp:List Addr}{h:Heap}{b:Addr}{o:Obj}(hb:b∈fp) (e:h.get? b=some o):(b,o)∈ynU fp h:=List.mem_filterMap.mpr ⟨b,hb,by rw [e];rfl⟩
theorem yqn {fp:List Addr}{h:Heap}{p:Addr×Obj}(hp:p∈ynU fp h):p.1∈fp/\h.get? p.1=some p.2:=by
 obtain ⟨b,hb,e⟩:=List.mem_filterMap.mp hp
 cases q:h.get? b with
 | none=>rw [q] at e;cases e
 | some o =>
  rw [q] at e
  have e':(b,o)=p:=Option.some.inj e
  subst e'
  exact ⟨hb,q⟩
theorem Inv.pinned {pins:List (Addr×Obj)}{σ:St}{H:Hp}{s:Shared}{fp:List Addr}(I:Inv X pins σ H s) (hf:∀ b∈fp,yqj X pins H b) (ho:∀ b∈fp,∃ o,s.heap.get? b=some o/\∀ v,o.data≠.cell v):Inv X (pins++ynU fp s.heap) σ H s :=
 I.pins_of fun p hp=>(List.mem_append.mp hp).elim (fun z=>I.pin p (mem_append_right _ z)) fun z=>by
  obtain ⟨hb,e⟩:=yqn z
  obtain ⟨f0,f1,f2,_⟩:=hf p.1 hb
  obtain ⟨o,e',d⟩:=ho p.1 hb
  rw [e] at e';cases e'
  exact ⟨e,f0,f1,f2,d⟩
theorem Inv.unpinned {pins pl:List (Addr×Obj)}{σ:St}{H:Hp}{s:Shared}(I:Inv X (pins++pl) σ H s):Inv X pins σ H s:=I.pins_of fun p hp=>I.pin p (mem_append_right _ (mem_append_left _ hp))
theorem yqo {iter:Expr}{body:List Stmt}{wi:TI}{g:TG}{tb:TS}{pos:Pos}(hp:PassesOwn (model X.prog X.w) X.A X.env X.xe) (hc:X.calm=true) (hi:PI X tg iter wi) (hg:PG X tg g) (hb:PSs X body tb)
  (hs:∀ x,foldedSetIterable iter X.env x=pure x:=by intro _;rfl):PS X (.For tg iter body [] pos) (yCm wi g tb):=by
 intro pins s σ H D I h
 refine wpAny_For (thn (hi pins s σ H _ I h) fun v s1 h1=>thn h1 fun itv s2 h2=>?_) hs
 obtain ⟨it,fp,tn,J,H2,e,I2,T,st2,f2,W,⟨m0,w0⟩,turn⟩:=h2
 subst e
 have stat:∀ {H':Hp},(∀ b∈fp,H' b=none)->∀ b∈fp,yqj X pins H' b:=fun hn b hb=>⟨hn b hb,(f2 b hb).2⟩
 refine codeAny_forLoop_any (fun n s'=>∃ i σ' H',Inv X pins σ' H' s'/\tn i s'.heap/\(∀ b∈fp,H' b=none)/\W i n σ' H') ?_ m0 ⟨0,σ,H2,I2,st2,fun b hb=>(f2 b hb).1,w0⟩
 rintro n s3 ⟨i,σ3,H3,I3,st3,fr3,w3⟩
 rcases turn i n σ3 H3 w3 with ⟨stop,qn⟩|⟨go,N,hN,step⟩
 .refine wpAny_passesOwn hp (thn (T.done X rfl rfl rfl hc i pins s3 σ3 H3 X.xe I3 (stat fr3) st3 stop) fun r s4 ⟨hr,I4⟩=>?_)
  subst hr
  exact wpAny_execs_nil ⟨σ3,H3,I4,qn⟩
 .refine wpAny_passesOwn hp (thn (T.item X rfl rfl rfl hc i pins s3 σ3 H3 X.xe I3 (stat fr3) st3 go) fun r s4 ⟨u,hr,h4⟩=>?_)
  subst hr
  refine wpAny_passesOwn hp (thn h4 fun _ s5 ⟨x,H5,I5,r5,y5,st5,fr5⟩=>?_)
  have I5':=I5.pinned (stat fr5) (T.obj _ _ st5)
  refine wpAny_passesOwn hp (thn (hg _ s5 σ3 H5 x u _ I5' r5 (step x H5 y5)) fun _ s6 ⟨σ6,H6,I6,q6⟩=>?_)
  refine wpAny_passesOwn hp (thn (hb _ s6 σ6 H6 _ I6 q6) fun f s7 q7=>?_)
  have again:∀ {σ7:St}{H7:Hp},Inv X (pins++ynU fp s5.heap) σ7 H7 s7->N σ7 H7->∃ m,m<n/\∃ i σ' H',Inv X pins σ' H' s7/\tn i s7.heap/\(∀ b∈fp,H' b=none)/\W i m σ' H':=fun {σ7 H7} I7 n7=>by
   obtain ⟨m',hm,w7⟩:=hN σ7 H7 n7
   refine ⟨m',hm,i+1,σ7,H7,I7.unpinned,T.keep _ _ _ st5 fun b hb o e=>(I7.pin (b,o) (mem_append_right _ (mem_append_right _ (ybJ hb e)))).1,fun b hb=>?_,w7⟩
   obtain ⟨o,e,d⟩:=T.obj _ _ st5 b hb
   exact (I7.pin (b,o) (mem_append_right _ (mem_append_right _ (ybJ hb e)))).2.1
  cases f with
  | next=>obtain ⟨σ7,H7,I7,n7⟩:=q7;exact again I7 n7
  | cont=>obtain ⟨σ7,H7,I7,n7⟩:=q7;exact again I7 n7
  | brk=>obtain ⟨σ7,H7,I7,q7⟩:=q7;exact ⟨σ7,H7,I7.unpinned,q7⟩
  | ret v=>obtain ⟨x7,σ7,H7,I7,r7,q7⟩:=q7;exact ⟨x7,σ7,H7,I7.unpinned,r7,q7⟩
end
end L2
namespace L2
open PySem PySem.Spec PyProof.Rows
abbrev R2:=V->V->Hp->VK->Prop
def OpR (X:Cx) (f:Value->Value->Sem Value) (r:R2):Prop :=
 ∀ (pins:List (Addr×Obj)) (s:Shared) (σ:St) (H:Hp) (x y:V) (v u:Value) (Q:VK),Inv X pins σ H s->RelV x v->RelV y u->r x y H Q ->
  wpAny (model X.prog X.w) X.A (f v u) (EP X pins σ Q) X.xe s
def UnR (X:Cx) (f:Value->Sem Value) (r:V->Hp->VK->Prop):Prop :=
 ∀ (pins:List (Addr×Obj)) (s:Shared) (σ:St) (H:Hp) (x:V) (v:Value) (Q:VK),Inv X pins σ H s->RelV x v->r x H Q ->
  wpAny (model X.prog X.w) X.A (f v) (EP X pins σ Q) X.xe s
def yfK (X:Cx) (f:Value) (r:List V->Hp->VK->Prop):Prop :=
 ∀ (pins:List (Addr×Obj)) (s:Shared) (σ:St) (H:Hp) (xs:List V) (us:List Value) (Q:VK),Inv X pins σ H s->Vals xs us->r xs H Q ->
  wpAny (model X.prog X.w) X.A (call f us) (EP X pins σ Q) X.xe s
def tOp (r:R2) (ta tb:TE):TE:=fun σ H Q=>ta σ H fun x H1=>tb σ H1 fun y H2=>r x y H2 Q
def tUn (r:V->Hp->VK->Prop) (ta:TE):TE:=fun σ H Q=>ta σ H fun x H1=>r x H1 Q
def rI (C:Int->Int->Prop) (g:Int->Int->V):R2:=fun x y H Q=>∃ i j,x=.int i/\y=.int j/\C i j/\Q (g i j) H
def rI0 (g:Int->Int->V):R2:=fun x y H Q=>∃ i j,x=.int i/\y=.int j/\Q (g i j) H
def rU (g:Int->V):V->Hp->VK->Prop:=fun x H Q=>∃ i,x=.int i/\Q (g i) H
section
variable {X:Cx}{a b c:Expr}{ta tb tc:TE}{pos:Pos}
theorem yCA (ha:PE X a ta) (hb:PE X b tb) {pins:List (Addr×Obj)}{s:Shared}{σ:St}{H:Hp}{R:V->V->Hp->Prop}(I:Inv X pins σ H s)
  (h:ta σ H fun x H1=>tb σ H1 fun y H2=>R x y H2) {Q:Value->Shared->Prop}{f:Value->Value->Sem Value}
  (hf:∀ v u s2 x y H2,Inv X pins σ H2 s2->RelV x v->RelV y u->R x y H2->wpAny (model X.prog X.w) X.A (f v u) Q X.xe s2) :
  wpAny (model X.prog X.w) X.A (eval a X.env) (fun v s₁=>wpAny (model X.prog X.w) X.A (eval b X.env) (fun u s₂=>wpAny (model X.prog X.w) X.A (f v u) Q X.xe s₂) X.xe s₁) X.xe s:=by
 refine thn (ha pins s σ H _ I h) fun v s1 ⟨x,H1,I1,r1,q1⟩=>?_
 refine thn (hb pins s1 σ H1 _ I1 q1) fun u s2 ⟨y,H2,I2,r2,q2⟩=>?_
 exact hf v u s2 x y H2 I2 r1 r2 q2
theorem yzC {op:Operator}{r:R2}(ho:OpR X (binaryOp op) r) (ha:PE X a ta) (hb:PE X b tb):PE X (.BinOp a op b pos) (tOp r ta tb):=by
 intro pins s σ H Q I h
 exact wpAny_BinOp (yCA ha hb I h fun v u s2 x y H2 I2 rx ry q=>ho pins s2 σ H2 x y v u Q I2 rx ry q)
theorem yCB {op:UnaryOp}{r:V->Hp->VK->Prop}(ho:UnR X (unaryOp op) r) (ha:PE X a ta):PE X (.UnaryOp op a pos) (tUn r ta):=by
 intro pins s σ H Q I h
 exact UnaryOp_ (thn (ha pins s σ H _ I h) fun v s1 ⟨x,H1,I1,r1,q1⟩=>ho pins s1 σ H1 x v Q I1 r1 q1)
theorem opI {f:Value->Value->Sem Value}{C:Int->Int->Prop}{g:Int->Int->Int}
  (rule:∀ (i j:Int) (t u:Tok) (s:Shared) (Q:Value->Shared->Prop) (E:Value->Shared->Prop),C i j->Q (.int (g i j) s.toks) { s with toks:=s.toks+1 }->wpAny (model X.prog X.w) X.A (f (.int i t) (.int j u)) Q E s) :
  OpR X f (rI C fun i j=>.int (g i j)):=by
 intro pins s σ H x y v u Q I rx ry h
 obtain ⟨i,j,rfl,rfl,hc,q⟩:=h
 obtain ⟨t,rfl⟩:=rx
 obtain ⟨t',rfl⟩:=ry
 exact rule i j t t' s _ _ hc ⟨.int (g i j),H,I.tok _,⟨_,rfl⟩,q⟩
theorem yFb {f:Value->Value->Sem Value}{g:Int->Int->Int}
  (rule:∀ (i j:Int) (t u:Tok) (s:Shared) (Q:Value->Shared->Prop) (E:Value->Shared->Prop),Q (.int (g i j) s.toks) { s with toks:=s.toks+1 }->wpAny (model X.prog X.w) X.A (f (.int i t) (.int j u)) Q E s) :
  OpR X f (rI0 fun i j=>.int (g i j)):=by
 intro pins s σ H x y v u Q I rx ry h
 obtain ⟨i,j,rfl,rfl,q⟩:=h
 obtain ⟨t,rfl⟩:=rx
 obtain ⟨t',rfl⟩:=ry
 exact rule i j t t' s _ _ ⟨.int (g i j),H,I.tok _,⟨_,rfl⟩,q⟩
theorem yCn {f:Value->Value->Sem Value}{g:Int->Int->Bool}
  (rule:∀ (i j:Int) (t u:Tok) (s:Shared) (Q:Value->Shared->Prop) (E:Value->Shared->Prop),Q (.bool (g i j)) s->wpAny (model X.prog X.w) X.A (f (.int i t) (.int j u)) Q E s) :
  OpR X f (rI0 fun i j=>.bl (g i j)):=by
 intro pins s σ H x y v u Q I rx ry h
 obtain ⟨i,j,rfl,rfl,q⟩:=h
 obtain ⟨t,rfl⟩:=rx
 obtain ⟨t',rfl⟩:=ry
 exact rule i j t t' s _ _ ⟨.bl (g i j),H,I,rfl,q⟩
def yFc (i j:Int):Prop:=0<j/\j<1073741824
def yCC (i j:Int):Prop:=0<=j/\j<=1000000/\i.natAbs<2 ^ 64
def CMul (i j:Int):Prop:=(-(2 ^ 64)<i/\i<2 ^ 64)\/(-(2 ^ 64)<j/\j<2 ^ 64)
theorem CMul.ok {i j:Int}(h:CMul i j):IntMulOk i j:=by
 rcases h with ⟨h1,h2⟩|⟨h1,h2⟩
 .exact .of_left (intBits_le_64 h1 h2)
 .exact .of_right (intBits_le_64 h1 h2)
theorem ycG:OpR X (binaryOp .Add) (rI0 fun i j=>.int (i+j)):=yFb fun _ _ _ _ _ _ _ q=>add_int q
theorem yjl:OpR X (binaryOp .Sub) (rI0 fun i j=>.int (i-j)):=yFb fun _ _ _ _ _ _ _ q=>sub_int q
theorem yqp:OpR X (binaryOp .Mult) (rI CMul fun i j=>.int (i*j)):=opI fun _ _ _ _ _ _ _ hc q=>mul_int q hc.ok
theorem ymB:OpR X (binaryOp .FloorDiv) (rI yFc fun i j=>.int (i/j)):=opI fun i j _ _ _ _ _ hc q=>by
 have h1:(0:Int)<j:=hc.1
 have h2:j<1073741824:=hc.2
 exact floordiv_int (by omega) (by rw [Int.fdiv_eq_ediv_of_nonneg i (by omega)];exact q) (.inl (PyProof.noPylong_small (by omega)))
theorem yds:OpR X (binaryOp .Mod) (rI (fun _ j=>0<j) fun i j=>.int (i%j)):=opI fun i j _ _ _ _ _ hc q=>by
 have h1:(0:Int)<j:=hc
 exact mod_int' (by omega) (by rw [Int.fmod_eq_emod_of_nonneg i (by omega)];exact q)
theorem yvw:OpR X (binaryOp .Pow) (rI yCC fun i j=>.int (i ^ j.toNat)):=opI fun _ _ _ _ _ _ _ hc q=>pow_int_small hc.1 hc.2.1 hc.2.2 q
theorem unI {f:Value->Sem Value}{g:Int->Int}
  (rule:∀ (i:Int) (t:Tok) (s:Shared) (Q:Value->Shared->Prop) (E:Value->Shared->Prop),Q (.int (g i) s.toks) { s with toks:=s.toks+1 }->wpAny (model X.prog X.w) X.A (f (.int i t)) Q E s) :
  UnR X f (rU fun i=>.int (g i)):=by
 intro pins s σ H x v Q I rx h
 obtain ⟨i,rfl,q⟩:=h
 obtain ⟨t,rfl⟩:=rx
 exact rule i t s _ _ ⟨.int (g i),H,I.tok _,⟨_,rfl⟩,q⟩
theorem yqq:UnR X (unaryOp .USub) (rU fun i=>.int (-i)):=unI fun _ _ _ _ _ q=>neg_int q
end
noncomputable def yvx:V->V->Bool
 | .non,.non=>true|.non,.int _=>true|.int _,.non=>true|.non,.bl _=>true|.bl _,.non=>true|.non,.str _=>true|.str _,.non=>true
 | .int _,.int _=>true|.bl _,.bl _=>true|.str _,.str _=>true|.byt _,.byt _=>true
 | .int _,.str _=>true|.str _,.int _=>true|.bl _,.str _=>true|.str _,.bl _=>true
 | _,_=>false
def rEq:R2:=fun x y H Q=>yvx x y=true/\Q (.bl (decide (x=y))) H
def rNe:R2:=fun x y H Q=>yvx x y=true/\Q (.bl (!decide (x=y))) H
theorem yqr {i j:Int}:decide (V.int i=V.int j)=(i == j):=by
 rw [Bool.eq_iff_iff]
 simp
theorem yvy {i j:Bool}:decide (V.bl i=V.bl j)=(i == j):=by
 rw [Bool.eq_iff_iff]
 simp
theorem yqs {i j:Str}:decide (V.str i=V.str j)=(i == j):=by
 rw [Bool.eq_iff_iff]
 simp
theorem yqt {i j:Array UInt8}:decide (V.byt i=V.byt j)=(i.toList == j.toList):=by
 rw [Bool.eq_iff_iff]
 cases i
 cases j
 simp
section
variable {X:Cx}{a b c:Expr}{ta tb tc:TE}{pos:Pos}
theorem ybk {pins:List (Addr×Obj)}{σ:St}{H:Hp}{s:Shared}{Q:VK}{k k':Bool}(I:Inv X pins σ H s) (q:Q (.bl k) H) (e:k=k'):EP X pins σ Q (.bool k') s:=by
 subst e
 exact ⟨.bl k,H,I,rfl,q⟩
theorem ybl:OpR X (compareOp .Eq) rEq:=by
 intro pins s σ H x y v u Q I rx ry h
 obtain ⟨hs,q⟩:=h
 cases x with
 | non =>
  cases rx
  cases y with
  | non=>cases ry;exact PySem.EqNone.eq_none_none (ybk I q (by simp))
  | bl j=>cases ry;exact PySem.EqNone.eq_none_bool (ybk I q (by simp))
  | int j=>obtain ⟨t',rfl⟩:=ry;exact PySem.EqNone.eq_none_int (ybk I q (by simp))
  | str j=>obtain ⟨t',rfl⟩:=ry;exact PySem.EqNone.eq_none_str (ybk I q (by simp))
  | _=>exact absurd (show false=true from hs) Bool.false_ne_true
 | bl i =>
  cases rx
  cases y with
  | non=>cases ry;exact PySem.EqNone.eq_bool_none (ybk I q (by simp))
  | bl j=>cases ry;exact eq_bool (ybk I q yvy)
  | str j=>obtain ⟨t',rfl⟩:=ry;exact PySem.EqMixed.eq_bool_str (ybk I q (by simp))
  | _=>exact absurd (show false=true from hs) Bool.false_ne_true
 | int i =>
  obtain ⟨t,rfl⟩:=rx
  cases y with
  | non=>cases ry;exact PySem.EqNone.eq_int_none (ybk I q (by simp))
  | int j=>obtain ⟨t',rfl⟩:=ry;exact eq_int (ybk I q yqr)
  | str j=>obtain ⟨t',rfl⟩:=ry;exact PySem.EqMixed.eq_int_str (ybk I q (by simp))
  | _=>exact absurd (show false=true from hs) Bool.false_ne_true
 | str i =>
  obtain ⟨t,rfl⟩:=rx
  cases y with
  | non=>cases ry;exact PySem.EqNone.eq_str_none (ybk I q (by simp))
  | bl j=>cases ry;exact PySem.EqMixed.eq_str_bool (ybk I q (by simp))
  | int j=>obtain ⟨t',rfl⟩:=ry;exact PySem.EqMixed.eq_str_int (ybk I q (by simp))
  | str j=>obtain ⟨t',rfl⟩:=ry;exact eq_str (ybk I q yqs)
  | _=>exact absurd (show false=true from hs) Bool.false_ne_true
 | byt i =>
  obtain ⟨t,rfl⟩:=rx
  cases y with
  | byt j=>obtain ⟨t',rfl⟩:=ry;exact PySem.W.eq_bytes (ybk I q yqt)
  | _=>exact absurd (show false=true from hs) Bool.false_ne_true
 | _=>cases y<;>exact absurd (show false=true from hs) Bool.false_ne_true
theorem ykZ:OpR X (compareOp .NotEq) rNe:=by
 intro pins s σ H x y v u Q I rx ry h
 obtain ⟨hs,q⟩:=h
 cases x with
 | non =>
  cases rx
  cases y with
  | non=>cases ry;exact PySem.EqNone.ne_none_none (ybk I q (by simp))
  | bl j=>cases ry;exact PySem.EqNone.ne_none_bool (ybk I q (by simp))
  | int j=>obtain ⟨t',rfl⟩:=ry;exact PySem.EqNone.ne_none_int (ybk I q (by simp))
  | str j=>obtain ⟨t',rfl⟩:=ry;exact PySem.EqNone.ne_none_str (ybk I q (by simp))
  | _=>exact absurd (show false=true from hs) Bool.false_ne_true
 | bl i =>
  cases rx
  cases y with
  | non=>cases ry;exact PySem.EqNone.ne_bool_none (ybk I q (by simp))
  | bl j=>cases ry;exact ne_bool (ybk I q (congrArg not yvy))
  | str j=>obtain ⟨t',rfl⟩:=ry;exact PySem.EqMixed.ne_bool_str (ybk I q (by simp))
  | _=>exact absurd (show false=true from hs) Bool.false_ne_true
 | int i =>
  obtain ⟨t,rfl⟩:=rx
  cases y with
  | non=>cases ry;exact PySem.EqNone.ne_int_none (ybk I q (by simp))
  | int j=>obtain ⟨t',rfl⟩:=ry;exact ne_int (ybk I q (congrArg not yqr))
  | str j=>obtain ⟨t',rfl⟩:=ry;exact PySem.EqMixed.ne_int_str (ybk I q (by simp))
  | _=>exact absurd (show false=true from hs) Bool.false_ne_true
 | str i =>
  obtain ⟨t,rfl⟩:=rx
  cases y with
  | non=>cases ry;exact PySem.EqNone.ne_str_none (ybk I q (by simp))
  | bl j=>cases ry;exact PySem.EqMixed.ne_str_bool (ybk I q (by simp))
  | int j=>obtain ⟨t',rfl⟩:=ry;exact PySem.EqMixed.ne_str_int (ybk I q (by simp))
  | str j=>obtain ⟨t',rfl⟩:=ry;exact ne_str (ybk I q (congrArg not yqs))
  | _=>exact absurd (show false=true from hs) Bool.false_ne_true
 | byt i =>
  obtain ⟨t,rfl⟩:=rx
  cases y with
  | byt j=>obtain ⟨t',rfl⟩:=ry;exact PySem.W.ne_bytes (ybk I q (congrArg not yqt))
  | _=>exact absurd (show false=true from hs) Bool.false_ne_true
 | _=>cases y<;>exact absurd (show false=true from hs) Bool.false_ne_true
theorem ypl:OpR X (compareOp .Lt) (rI0 fun i j=>.bl (decide (i<j))):=yCn fun _ _ _ _ _ _ _ q=>lt_int q
theorem yiW:OpR X (compareOp .LtE) (rI0 fun i j=>.bl (decide (i<=j))):=yCn fun _ _ _ _ _ _ _ q=>le_int q
theorem ytg:OpR X (compareOp .Gt) (rI0 fun i j=>.bl (decide (j<i))):=yCn fun _ _ _ _ _ _ _ q=>gt_int q
theorem yCD:OpR X (compareOp .GtE) (rI0 fun i j=>.bl (decide (j<=i))):=yCn fun _ _ _ _ _ _ _ q=>ge_int q
theorem yqu:OpR X (compareOp .In) (fun x y H Q=>∃ i j,x=.str i/\y=.str j/\Q (.bl (!(Builtin.Str.occurrences j i 0 j.length 1).isEmpty)) H):=by
 intro pins s σ H x y v u Q I rx ry h
 obtain ⟨i,j,rfl,rfl,q⟩:=h
 obtain ⟨t,rfl⟩:=rx
 obtain ⟨t',rfl⟩:=ry
 exact in_str (ybk I q rfl)
theorem ynV:OpR X (compareOp .Is) (fun x y H Q=>y=.non/\Q (.bl (decide (x=.non))) H):=by
 intro pins s σ H x y v u Q I rx ry h
 obtain ⟨rfl,q⟩:=h
 cases ry
 refine is_none_gen (ybk I q ?_)
 cases x<;>first
  | (cases rx;rfl)
  | (obtain ⟨t,rfl⟩:=rx;rfl)
theorem yjP:OpR X (compareOp .IsNot) (fun x y H Q=>y=.non/\Q (.bl (!decide (x=.non))) H):=by
 intro pins s σ H x y v u Q I rx ry h
 obtain ⟨rfl,q⟩:=h
 cases ry
 refine isnot_none_gen (ybk I q ?_)
 cases x<;>first
  | (cases rx;rfl)
  | (obtain ⟨t,rfl⟩:=rx;rfl)
theorem yla (b:Expr) {op:CmpOp}(h:op≠.In:=by decide) (h2:op≠.NotIn:=by decide):behindInMarks op b=false:=by
 have e1:(op == CmpOp.In)=false:=by cases op<;>first|rfl|exact absurd rfl h
 have e2:(op == CmpOp.NotIn)=false:=by cases op<;>first|rfl|exact absurd rfl h2
 cases b<;>simp [behindInMarks,e1,e2]
theorem ywy {op:CmpOp}{r:R2}(ho:OpR X (compareOp op) r) (ha:PE X a ta) (hb:PE X b tb) (hm:behindInMarks op b=false):PE X (.Compare a [op] [b] pos) (tOp r ta tb):=by
 intro pins s σ H Q I h
 exact wpAny_Compare1 (yCA ha hb I h fun v u s2 x y H2 I2 rx ry q=>ho pins s2 σ H2 x y v u Q I2 rx ry q) hm
def ywz (t:TE):TT:=fun σ H Q=>t σ H fun x H'=>∃ k,x=.bl k/\Q k H'
theorem ywA {op:CmpOp}{r:R2}(ho:OpR X (compareOp op) r) (ha:PE X a ta) (hb:PE X b tb) (hm:behindInMarks op b=false):PT X (.Compare a [op] [b] pos) (ywz (tOp r ta tb)):=by
 intro pins s σ H Q I h
 refine wpAny_isTrue_Compare1 (thn (ha pins s σ H _ I h) fun v s1 ⟨x,H1,I1,r1,q1⟩=>thn (hb pins s1 σ H1 _ I1 q1) fun u s2 ⟨y,H2,I2,r2,q2⟩ =>
  thn (ho pins s2 σ H2 x y v u _ I2 r1 r2 q2) fun c s3 ⟨z,H3,I3,r3,k,e,q3⟩=>?_) hm
 subst e
 cases r3
 exact wpAny_truthy_bool ⟨H3,I3,q3⟩
noncomputable def yqv (r r':R2) (ta tb tc:TE):TE:=fun σ H Q=>ta σ H fun x H1=>tb σ H1 fun y H2=>r x y H2 fun z H3=>∃ k,z=.bl k /\
 (if k=true then tc σ H3 fun w' H4=>r' y w' H4 Q else Q (.bl false) H3)
theorem yth {op op':CmpOp}{r r':R2}(ho:OpR X (compareOp op) r) (ho':OpR X (compareOp op') r') (ha:PE X a ta) (hb:PE X b tb) (hc:PE X c tc)
  (hm:lastMarks [op,op'] [b,c]=false:=by with_unfolding_all rfl):PE X (.Compare a [op,op'] [b,c] pos) (yqv r r' ta tb tc):=by
 intro pins s σ H Q I h
 refine Compare_chain (thn (ha pins s σ H _ I h) fun v s1 ⟨x,H1,I1,r1,q1⟩=>chain_link (thn (hb pins s1 σ H1 _ I1 q1) fun u s2 ⟨y,H2,I2,r2,q2⟩ =>
  thn (ho pins s2 σ H2 x y v u _ I2 r1 r2 q2) fun d s3 ⟨z,H3,I3,r3,k,e,q3⟩=>?_)) hm
 subst e
 cases r3
 refine wpAny_truthy_bool ?_
 cases k with
 | false=>exact ite_ff ⟨.bl false,H3,I3,rfl,q3⟩
 | true=>exact ite_tt (chain_last (thn (hc pins s3 σ H3 _ I3 q3) fun w' s4 ⟨z',H4,I4,r4,q4⟩=>ho' pins s4 σ H4 y z' u w' Q I4 r2 r4 q4))
theorem yti {op op':CmpOp}{r r':R2}(ho:OpR X (compareOp op) r) (ho':OpR X (compareOp op') r') (ha:PE X a ta) (hb:PE X b tb) (hc:PE X c tc)
  (hm:lastMarks [op,op'] [b,c]=false:=by with_unfolding_all rfl):PT X (.Compare a [op,op'] [b,c] pos) (ywz (yqv r r' ta tb tc)):=by
 intro pins s σ H Q I h
 refine isTrue_chain (thn (ha pins s σ H _ I h) fun v s1 ⟨x,H1,I1,r1,q1⟩=>test_link (thn (hb pins s1 σ H1 _ I1 q1) fun u s2 ⟨y,H2,I2,r2,q2⟩ =>
  thn (ho pins s2 σ H2 x y v u _ I2 r1 r2 q2) fun d s3 ⟨z,H3,I3,r3,k,e,q3⟩=>?_)) hm
 subst e
 cases r3
 refine wpAny_truthy_bool ?_
 cases k with
 | false =>
  obtain ⟨k',e',q'⟩:=q3
  cases e'
  exact ite_ff ⟨H3,I3,q'⟩
 | true =>
  refine ite_tt (test_last (thn (hc pins s3 σ H3 _ I3 q3) fun w' s4 ⟨z',H4,I4,r4,q4⟩=>thn (ho' pins s4 σ H4 y z' u w' _ I4 r2 r4 q4) fun d' s5 ⟨z2,H5,I5,r5,k2,e2,q5⟩=>?_))
  subst e2
  cases r5
  exact wpAny_truthy_bool ⟨H5,I5,q5⟩
theorem yjm:(sizeLine:Nat)<2 ^ 63:=by rw [sizeLine_eq];decide
theorem yE:OpR X (binaryOp .Add) (fun x y H Q=>∃ i j,x=.str i/\y=.str j/\i.length+j.length<=sizeLine/\Q (.str (i++j)) H):=by
 intro pins s σ H x y v u Q I rx ry h
 obtain ⟨i,j,rfl,rfl,hz,q⟩:=h
 obtain ⟨t,rfl⟩:=rx
 obtain ⟨t',rfl⟩:=ry
 exact add_str (fun t' tk=>⟨.str (i++j),H,I.tok _,⟨_,rfl⟩,q⟩) hz
theorem vals1 {x:V}{us:List Value}(r:Vals [x] us):∃ u,us=[u]/\RelV x u:=by
 cases r with
 | cons r1 r2=>cases r2;exact ⟨_,rfl,r1⟩
theorem vals2 {x y:V}{us:List Value}(r:Vals [x,y] us):∃ u w',us=[u,w']/\RelV x u/\RelV y w':=by
 cases r with
 | cons r1 r2 =>
  cases r2 with
  | cons r3 r4=>cases r4;exact ⟨_,_,rfl,r1,r3⟩
theorem ydf:yfK X (.type "str") (fun xs H Q=>∃ i,xs=[.int i]/\i.natAbs.log2<1920/\Q (.str (toString i)) H):=by
 intro pins s σ H xs us Q I r h
 obtain ⟨i,rfl,hz,q⟩:=h
 obtain ⟨u,rfl,t,rfl⟩:=vals1 r
 exact PySem.P.str_of_int hz ⟨.str _,H,I.tok _,⟨_,rfl⟩,q⟩
end
end L2
namespace L2
open PySem PySem.Spec PyProof.Rows
structure ObjM (h:Heap) (x dx C:Addr) (mA:Str->Option Value):Prop where
 obj:h.get? x=some (instObj C dx)
 ns:h.Ns1 dx mA
 ne:dx≠x
theorem yqw {h:Heap}{dx:Addr}{mA:Str->Option Value}(n:h.Ns1 dx mA):∃ od,h.get? dx=some od/\∀ name,PySem.W.lookIn name od=some (mA name):=by
 obtain ⟨o,es,ep,ho,hd,hk,_,hm⟩:=n
 refine ⟨o,ho,fun name=>?_⟩
 have e:=hm name
 unfold nsFind findBy at e
 rw [<- Array.find?_toList] at e
 unfold PySem.W.lookIn
 rw [hd]
 dsimp only
 split
 .rename_i y q
  rw [q] at e
  exact congrArg some e
 .rename_i q
  rw [q] at e
  have a:es.toList.any (·.refKey)=false:=by
   rw [List.any_eq_false]
   intro y hy
   obtain ⟨z,t,hkey⟩:=hk y (Array.mem_toList_iff.mp hy)
   simp [DictEntry.refKey,hkey]
  have a':¬ es.toList.any (·.refKey)=true:=by rw [a];exact Bool.false_ne_true
  rw [if_neg a']
  exact congrArg some e
theorem ObjM.look {h:Heap}{x dx C:Addr}{mA:Str->Option Value}(I:ObjM h x dx C mA):∃ od,PySem.W.InstAt h x (instObj C dx) C (some od)/\∀ name,PySem.W.lookIn name od=some (mA name) :=
 let ⟨od,ho,hl⟩:=yqw I.ns
 ⟨od,⟨I.obj,rfl,rfl,ho⟩,hl⟩
section
variable {prog:Program}{w:World}{A:Around}{E:Value->Shared->Prop}{s:Shared}{K:PySem.W.Frag}{x dx C f:Addr}{mA:Str->Option Value}{name:Str}{v:Value}
theorem ywB {expr:Bool}{Q:Value->Shared->Prop}(X:K.In s.heap) (I:ObjM s.heap x dx C mA) (hg:plainGet K C name=true) (hh:hasDictIn K C=true)
  (ha:findIn K (.ref C) name=some none) (hv:mA name=some v) (hv':PySem.W.handedIn v=true) (h:Q v { s with toks:=s.toks+1 }) :
  wpAny (model prog w) A (getAttr (.ref x) name expr) Q E s:=by
 obtain ⟨od,J,hl⟩:=I.look
 exact PySem.W.get_value X J (PySem.W.plainGet_of hg).1 (PySem.W.findObj_own hh ha rfl (by rw [hl,hv])) hv' h
theorem ytj {pl:Sem Bool}{Q:Value×List Value->Shared->Prop}(X:K.In s.heap) (I:ObjM s.heap x dx C mA) (hg:plainGet K C name=true)
  (hf:findIn K (.ref C) name=some (some (.ref f))) (ht:isFn K (.ref f)=true) (hv:mA name=none) (h:Q (.ref f,[.ref x]) s) :
  wpAny (model prog w) A (getMethod (.ref x) name pl) Q E s:=by
 obtain ⟨od,J,hl⟩:=I.look
 exact PySem.W.method_fn X J (PySem.W.plainGet_of hg).1 (PySem.W.plainGet_of hg).2 hf (beq_iff_eq.mp ht) (by show (PySem.W.lookIn name od).map (·.isSome)=some false;rw [hl,hv];rfl) h
theorem ywC {ns:List Str}{Q:Unit->Shared->Prop}(X:K.In s.heap) (I:ObjM s.heap x dx C mA)
  (hs:findIn K (.ref C) "__setattr__" = some (some (.builtin "object.__setattr__"))) (hp:PySem.W.plainOver K C=true) (ht:PySem.W.takerIn K C name=some none) (hh:hasDictIn K C=true)
  (hw:PySem.Within mA ns) (hsz:ns.length<=sizeLine)
  (h:∀ h',ObjM h' x dx C (fun y=>if y=name then some v else mA y)->Heap.SameBut dx s.heap h'->Q () { s with heap:=h',toks:=s.toks+2 }) :
  wpAny (model prog w) A (setAttr (.ref x) name v) Q E s:=by
 obtain ⟨od,J,hl⟩:=I.look
 refine PySem.W.set_plain X J hs (PySem.W.osa_open (s:={ s with toks:=s.toks+1 }) (r:=none) X J hp ht fun b=>?_)
 obtain ⟨cd,hc,hd'⟩:=PySem.W.any_some hh
 have hx:s.heap.get? x=some ⟨.ref C,some dx,.plain,#[]⟩:=I.obj
 refine wpAny_bind (wpAny_pure (wpAny_bind (wpAny_bind (wpAny_loadPart hx (wpAny_bind (PySem.W.Looks.here (s:={ s with toks:=s.toks+1 }) (PySem.W.looks_clsIn X hc) ?_))))))
 rw [hd']
 refine wpAny_pure (a:=some dx) (wpAny_bind (wpAny_pure (wpAny_bind ?_)))
 refine wpAny_nsSet1 (s:={ s with toks:=s.toks+1 }) I.ns fun h' hn2 hs2=>?_
 obtain ⟨oD,esD,epD,hoD,hdD,hcD⟩:=hn2.count (PySem.Within.cons name v hw)
 refine wpAny_bind (wpAny_lookBehind hoD (by rw [hdD];exact pastItsLine_dict (Nat.le_trans hcD (by rw [length_cons];omega))) ?_)
 exact wpAny_pure (h _ ⟨(hs2.2 _ (Ne.symm I.ne)).trans I.obj,hn2,I.ne⟩ hs2)
theorem ytk {R:Result->Shared->Prop}{vs:List Value}{kw:List (Str×Value)}(X:K.In s.heap) (hm:makesIn K C=true)
  (hi:findIn K (.ref C) "__init__" = some (some (.ref f))) (hf:typeIn K (.ref f)=some (.type "function"))
  (h:codeAny (model prog w) (A.under (.builtin "type.__call__" ⟨.ref C::vs,kw⟩)) (.call (.ref f) ⟨.ref (s.heap.objs.size+1)::vs,kw⟩) (PySem.W.InitBack (s.heap.objs.size+1) R)
   { s with heap:=(s.heap.push emptyDict).push (instObj C s.heap.objs.size) }) :
  codeAny (model prog w) A (.call (.ref C) ⟨vs,kw⟩) R s:=by
 obtain ⟨hh,g,d,t,os⟩:=s
 exact PySem.W.make_core (PySem.W.makes_of X hm) (PySem.W.looks_findIn X hi) (fun self=>PySem.W.bind_fn X self hf) (.inl rfl) h
end
def yjn (f:Str) (v:V):List (Str×V)->List (Str×V)
 | []=>[(f,v)]
 | (g,x)::r=>if g=f then (g,v)::r else (g,x)::yjn f v r
theorem yhH (f g:Str) (v:V):∀ fs:List (Str×V),(yjn f v fs).lookup g=if g=f then some v else fs.lookup g
 | []=>by
  show List.lookup g [(f,v)]=_
  by_cases h:g=f
  .have hb:(g == f)=true:=beq_iff_eq.mpr h
   simp only [List.lookup,hb,if_pos h]
  .have hb:(g == f)=false:=beq_eq_false_iff_ne.mpr h
   simp only [List.lookup,hb,if_neg h]
 | (k,x)::r=>by
  have ih:=yhH f g v r
  rw [show yjn f v ((k,x)::r)=(if k=f then (k,v)::r else (k,x)::yjn f v r) from rfl]
  by_cases hk:k=f
  .rw [if_pos hk]
   by_cases h:g=k
   .have hb:(g == k)=true:=beq_iff_eq.mpr h
    simp only [List.lookup,hb,if_pos (h.trans hk)]
   .have hb:(g == k)=false:=beq_eq_false_iff_ne.mpr h
    simp only [List.lookup,hb,if_neg (fun e:g=f=>h (e.trans hk.symm))]
  .rw [if_neg hk]
   by_cases h:g=k
   .have hb:(g == k)=true:=beq_iff_eq.mpr h
    simp only [List.lookup,hb,if_neg (fun e:g=f=>hk (h.symm.trans e))]
   .have hb:(g == k)=false:=beq_eq_false_iff_ne.mpr h
    simp only [List.lookup,hb]
    exact ih
theorem yhI (f:Str) (v:V):∀ fs:List (Str×V),f∈(yjn f v fs).map (·.1)/\∀ g,g∈fs.map (·.1)->g∈(yjn f v fs).map (·.1)
 | []=>⟨by simp [yjn],fun g h=>by simp at h⟩
 | (k,x)::r=>by
  obtain ⟨i1,i2⟩:=yhI f v r
  rw [show yjn f v ((k,x)::r)=(if k=f then (k,v)::r else (k,x)::yjn f v r) from rfl]
  by_cases hk:k=f
  .rw [if_pos hk]
   subst hk
   exact ⟨by simp,fun g h=>by simpa using h⟩
  .rw [if_neg hk]
   refine ⟨?_,fun g h=>?_⟩
   .rw [map_cons]
    exact mem_cons_of_mem _ i1
   .rw [map_cons] at h ⊢
    rcases mem_cons.mp h with e|e
    .exact mem_cons.mpr (.inl e)
    .exact mem_cons_of_mem _ (i2 g e)
theorem yhJ (f:Str) (v:V):∀ fs:List (Str×V),(yjn f v fs).length<=fs.length+1
 | []=>by simp [yjn]
 | (k,x)::r=>by
  have ih:=yhJ f v r
  rw [show yjn f v ((k,x)::r)=(if k=f then (k,v)::r else (k,x)::yjn f v r) from rfl]
  by_cases hk:k=f
  .rw [if_pos hk,length_cons,length_cons];omega
  .rw [if_neg hk,length_cons,length_cons];omega
theorem RelO.some_of {v:V}{o:Option Value}(r:RelO (some v) o):∃ u,o=some u/\RelV v u:=by
 cases o with
 | none=>exact (show False from r).elim
 | some u=>exact ⟨u,rfl,r⟩
theorem RelO.none_of {o:Option Value}(r:RelO none o):o=none:=by
 cases o with
 | none=>rfl
 | some u=>exact (show False from r).elim
theorem yqx {v:V}{u:Value}(r:RelV v u):PySem.W.handedIn u=true:=by
 cases v with
 | non=>cases (show u=Value.none from r);rfl
 | bl b=>cases (show u=Value.bool b from r);rfl
 | int i=>obtain ⟨t,e⟩:=(show ∃ t,u=Value.int i t from r);cases e;rfl
 | str x=>obtain ⟨t,e⟩:=(show ∃ t,u=Value.str x t from r);cases e;rfl
 | byt b=>obtain ⟨t,e⟩:=(show ∃ t,u=Value.bytes b t from r);cases e;rfl
 | flt b=>obtain ⟨t,e⟩:=(show ∃ t,u=Value.float b t from r);cases e;rfl
 | ref a=>cases (show u=Value.ref a from r);rfl
 | ty n=>cases (show u=Value.type n from r);rfl
section
variable {P:Program}{w:World}{H H':Hp}{h h':Heap}{a C dx:Addr}{fs fs':List (Str×V)}
theorem yjQ (hok:HOk P w H h) (e:H a=some (.ins C dx fs)):∃ mA,ObjM h a dx C mA/\(∀ f,RelO (fs.lookup f) (mA f))/\PySem.Within mA (fs.map (·.1))/\fs.length<=1000/\H dx=some (.own a):=by
 obtain ⟨d,z,ne,ob,mA,n,r,q⟩:=(show ObjOk P w H h a (.ins C dx fs) from hok a _ e)
 exact ⟨mA,⟨ob,n,ne⟩,r,q,z,d⟩
end
structure Cls (K:PySem.W.Frag) (C:Addr):Prop where
 pg:plainGet K C Str.empty=true
 hd:hasDictIn K C=true
 po:PySem.W.plainOver K C=true
 sa:findIn K (.ref C) "__setattr__" = some (some (.builtin "object.__setattr__"))
theorem Cls.get {K:PySem.W.Frag}{C:Addr}(c:Cls K C) (f:Str):plainGet K C f=true:=c.pg
def NoAttr (K:PySem.W.Frag) (C:Addr) (f:Str):Prop:=findIn K (.ref C) f=some none
theorem NoAttr.taker {K:PySem.W.Frag}{C:Addr}{f:Str}(n:NoAttr K C f):PySem.W.takerIn K C f=some none:=by
 unfold PySem.W.takerIn
 rw [show findIn K (.ref C) f=some none from n]
 rfl
structure Meth (K:PySem.W.Frag) (C:Addr) (m:Str) (f:Addr):Prop where
 at_:findIn K (.ref C) m=some (some (.ref f))
 fn:isFn K (.ref f)=true
 kp:keepIn K (.ref f)=true
section
variable {X:Cx}{pins:List (Addr×Obj)}{σ:St}{H:Hp}{s:Shared}{a C dx:Addr}{fs:List (Str×V)}{f:Str}{v:V}{A:Around}{E:Value->Shared->Prop}
theorem ypm {b:Bool}{Q:Value->Shared->Prop}(I:Inv X pins σ H s) (e:H a=some (.ins C dx fs)) (c:Cls X.K C) (n:NoAttr X.K C f) (l:fs.lookup f=some v)
  (h:∀ u s',Inv X pins σ H s'->RelV v u->Q u s'):wpAny (model X.prog X.w) A (getAttr (.ref a) f b) Q E s:=by
 obtain ⟨mA,O,r,_,_,_⟩:=yjQ I.hok e
 obtain ⟨u,hu,ru⟩:=RelO.some_of (v:=v) (o:=mA f) (by rw [<- l];exact r f)
 exact ywB I.kIn O (c.get f) c.hd n hu (yqx ru) (h u _ (I.tok _) ru)
theorem ygN {m:Str}{g:Addr}{pl:Sem Bool}{Q:Value×List Value->Shared->Prop}(I:Inv X pins σ H s) (e:H a=some (.ins C dx fs)) (c:Cls X.K C) (k:Meth X.K C m g) (l:fs.lookup m=none)
  (h:Q (.ref g,[.ref a]) s):wpAny (model X.prog X.w) A (getMethod (.ref a) m pl) Q E s:=by
 obtain ⟨mA,O,r,_,_,_⟩:=yjQ I.hok e
 have hn:mA m=none:=RelO.none_of (by rw [<- l];exact r m)
 exact ytj I.kIn O (c.get m) k.at_ k.fn hn h
theorem ypn {y:V}{u:Value}{Q:Unit->Shared->Prop}(I:Inv X pins σ H s) (e:H a=some (.ins C dx fs)) (c:Cls X.K C) (n:NoAttr X.K C f) (hl:fs.length<1000) (ry:RelV y u)
  (h:∀ s',Inv X pins σ (upd H a (.ins C dx (yjn f y fs))) s'->Q () s'):wpAny (model X.prog X.w) A (setAttr (.ref a) f u) Q E s:=by
 obtain ⟨mA,O,r,wi,_,ho⟩:=yjQ I.hok e
 have hz:(fs.map (·.1)).length<=sizeLine:=by rw [length_map,sizeLine_eq];omega
 refine ywC I.kIn O c.sa c.po n.taker c.hd wi hz fun h' O' sb=>h _ ?_
 have hd:∃ o,h'.get? dx=some o:=let ⟨o,_,_,e',_⟩:=O'.ns;⟨o,e'⟩
 refine I.write (x:=a) (e:=dx) (by rw [e];exact True.intro) (.inr ho) (fun b q hb z=>(sb.2 b hb).trans z) hd ?_
 refine ⟨by rw [yF O.ne];exact ho,?_,O.ne,O'.obj,_,O'.ns,fun g=>?_,fun g hg=>?_⟩
 .have:=yhJ f y fs;omega
 .show RelO ((yjn f y fs).lookup g) (if g=f then some u else mA g)
  rw [yhH]
  by_cases q:g=f
  .rw [if_pos q,if_pos q];exact ry
  .rw [if_neg q,if_neg q];exact r g
 .by_cases q:g=f
  .rw [q];exact (yhI f y fs).1
  .refine (yhI f y fs).2 g (wi g fun z=>hg ?_)
   show (if g=f then some u else mA g)=none
   rw [if_neg q];exact z
theorem Inv.made (I:Inv X pins σ H s):Inv X pins σ (upd (upd H s.heap.objs.size (.own (s.heap.objs.size+1))) (s.heap.objs.size+1) (.ins C s.heap.objs.size []))
  { s with heap:=(s.heap.push emptyDict).push (instObj C s.heap.objs.size) }:=by
 have e1:(s.heap.push emptyDict).get? s.heap.objs.size=some emptyDict:=Heap.get?_push_size s.heap rfl
 have e2:((s.heap.push emptyDict).push (instObj C s.heap.objs.size)).get? (s.heap.objs.size+1)=some (instObj C s.heap.objs.size):=by
  have:=Heap.get?_push_size (s.heap.push emptyDict) (o:=instObj C s.heap.objs.size) rfl
  rwa [Heap.size_push] at this
 have e3:(s.heap.push emptyDict).Ns s.heap.objs.size (fun _=>none):=⟨emptyDict,#[],_,e1,rfl,(fun e he=>absurd he (by simp)),fun _=>rfl⟩
 have I1:=I.laid (a:=s.heap.objs.size) (o:=.own (s.heap.objs.size+1)) (h':=s.heap.push emptyDict) (t':=s.toks) (fun b u q=>Heap.get?_push_of_some _ q) (Nat.le_refl _) ⟨_,e1⟩
 refine I1.laid (a:=s.heap.objs.size+1) (o:=.ins C s.heap.objs.size []) (t':=s.toks) (fun b u q=>Heap.get?_push_of_some _ q) (le_of_eq (Heap.size_push _ _)) ?_
 have ne:s.heap.objs.size≠s.heap.objs.size+1:=ne_of_lt (Nat.lt_succ_self _)
 refine ⟨by rw [yF ne,yx],zero_le _,ne,e2,fun _=>none,(Heap.Ns1.of_empty e3).at fun o q=>Heap.get?_push_of_some _ q,fun _=>True.intro,fun y hy=>absurd rfl hy⟩
theorem ywD {prog:Program}{w:World}{env:Env}{e:Expr}{f:Str}{pos:Pos}{s:Shared}{Q:Value->Shared->Prop}(hb:attributeBase e f env (eval e env)=eval e env)
  (h:wpAny (model prog w) A (eval e env) (fun o s₁=>wpAny (model prog w) A (getAttr o f true) Q E s₁) E s):wpAny (model prog w) A (eval (.Attribute e f pos) env) Q E s :=
 Attribute_any_ h (by rw [arm_eval_Attribute,hb])
end
noncomputable def yFd (K:PySem.W.Frag) (ta:TE) (f:Str):TE:=fun σ H Q=>ta σ H fun x H1=>∃ a C dx fs v,x=.ref a/\H1 a=some (.ins C dx fs)/\Cls K C/\NoAttr K C f/\fs.lookup f=some v/\Q v H1
noncomputable def yCE (K:PySem.W.Frag) (ta tv:TE) (f:Str):TS:=fun D σ H=>tv σ H fun y H1=>ta σ H1 fun x H2=>∃ a C dx fs,x=.ref a/\H2 a=some (.ins C dx fs)/\Cls K C/\NoAttr K C f/\fs.length<1000 /\
 D.nx σ (upd H2 a (.ins C dx (yjn f y fs)))
section
variable {X:Cx}{o e value:Expr}{f:Str}{pos pos' tpos:Pos}{ta tv:TE}
theorem yzD (he:PE X e ta) (hb:attributeBase e f X.env (eval e X.env)=eval e X.env):PE X (.Attribute e f pos) (yFd X.K ta f):=by
 intro pins s σ H Q I h
 refine ywD hb (thn (he pins s σ H _ I h) fun u s1 ⟨x,H1,I1,rx,a,C,dx,fs,v,ex,ea,c,n,l,q⟩=>?_)
 subst ex
 obtain rfl:u=Value.ref a:=rx
 exact ypm I1 ea c n l fun u' s2 I2 ru=>⟨v,H1,I2,ru,q⟩
theorem yvz (ha:PE X o ta) (hv:PE X value tv) (hs:swapsWith value (some (.Attribute o f pos')) pos.line X.env=pure false):PS X (.Assign [.Attribute o f pos'] value pos) (yCE X.K ta tv f):=by
 intro pins s σ H D I h
 refine plainObj_wpAny_Assign_Attribute (thn (hv pins s σ H _ I h) fun u s1 ⟨y,H1,I1,ry,q⟩=>thn (ha pins s1 σ H1 _ I1 q) fun ov s2 ⟨x,H2,I2,rx,a,C,dx,fs,ex,ea,c,n,l,q2⟩=>?_) hs
 subst ex
 obtain rfl:ov=Value.ref a:=rx
 exact ypn I2 ea c n l ry fun s3 I3=>⟨σ,_,I3,q2⟩
end
section
variable {X:Cx}{pins:List (Addr×Obj)}{σ:St}{H:Hp}{s:Shared}{A:Around}{E:Value->Shared->Prop}{Q:Value->Shared->Prop}{c:Value}{b:Bool}
inductive ynW (K:PySem.W.Frag) (H:Hp):V->Value->Prop where
 | non:ynW K H .non (.type "NoneType")
 | bl (x:Bool):ynW K H (.bl x) (.type "bool")
 | int (i:Int):ynW K H (.int i) (.type "int")
 | str (x:Str):ynW K H (.str x) (.type "str")
 | flt (x:UInt64):ynW K H (.flt x) (.type "float")
 | lst {a:Addr}{xs:List V}(e:H a=some (.lst xs)):ynW K H (.ref a) (.type "list")
 | frz {a:Addr}{o:Obj}{xs:List V}(e:H a=some (.frz o (.lst xs))):ynW K H (.ref a) (.type "list")
 | tup {a:Addr}{xs:List V}(e:H a=some (.tup xs)):ynW K H (.ref a) (.type "tuple")
 | kt {a:Addr}{o:Obj}(e:K.lookup a=some o) (c:o.cls=.type "tuple"):ynW K H (.ref a) (.type "tuple")
 | dK {a:Addr}{kvs:List (Key×V)}(e:H a=some (.dK kvs)):ynW K H (.ref a) (.type "dict")
 | dT {a:Addr}{kvs:List (List Key×V)}(e:H a=some (.dT kvs)):ynW K H (.ref a) (.type "dict")
 | ins {a C dx:Addr}{fs:List (Str×V)}(e:H a=some (.ins C dx fs)) (cl:Cls K C) (ha:findIn K (.ref C) "__class__" = some (some (.builtin "object.__class__")))
   (hn:PySem.W.specialIn K (.builtin "object.__class__") "__get__" = some (some (.builtin "getset_descriptor.__get__"))) (htk:PySem.W.takesIn K (.builtin "object.__class__")=some true)
   (hm:mroIn K C (.type "object")=some true):ynW K H (.ref a) (.ref C)
theorem yqy {x:V}{u t:Value}(I:Inv X pins σ H s) (rx:RelV x u) (ty:ynW X.K H x t) (e:PySem.W.kitOne X.K t c=some b) (h:∀ tk,Q (.bool b) { s with toks:=tk }) :
  wpAny (model X.prog X.w) A (call (.builtin "isinstance") [u,c]) Q E s:=by
 cases ty with
 | non=>cases (show u=Value.none from rx);exact kia_one PySem.W.kitx_none I.kIn True.intro e (fun z=>nomatch z) h
 | bl y=>cases (show u=Value.bool y from rx);exact kia_one PySem.W.kitx_bool I.kIn True.intro e (fun z=>nomatch z) h
 | int i=>obtain ⟨t,q⟩:=(show ∃ t,u=Value.int i t from rx);cases q;exact kia_one PySem.W.kitx_int I.kIn True.intro e (fun z=>nomatch z) h
 | str y=>obtain ⟨t,q⟩:=(show ∃ t,u=Value.str y t from rx);cases q;exact kia_one PySem.W.kitx_str I.kIn True.intro e (fun z=>nomatch z) h
 | flt y=>obtain ⟨t,q⟩:=(show ∃ t,u=Value.float y t from rx);cases q;exact kia_one PySem.W.kitx_float I.kIn True.intro e (fun z=>nomatch z) h
 | @lst a xs ea =>
  cases (show u=Value.ref a from rx)
  obtain ⟨_,_,n,_,h1⟩:=(show ObjOk X.prog X.w H s.heap a (.lst xs) from I.hok a _ ea)
  exact kia_one PySem.W.kitx_list I.kIn ⟨_,h1,rfl⟩ e (fun z=>nomatch z) h
 | @frz a ob xs ea =>
  cases (show u=Value.ref a from rx)
  obtain ⟨_,_,_,n,_,h1⟩:=(show ObjOk X.prog X.w H s.heap a (.frz ob (.lst xs)) from I.hok a _ ea)
  exact kia_one PySem.W.kitx_list I.kIn ⟨_,h1,rfl⟩ e (fun z=>nomatch z) h
 | @tup a xs ea =>
  cases (show u=Value.ref a from rx)
  obtain ⟨_,_,_,p⟩:=(show ObjOk X.prog X.w H s.heap a (.tup xs) from I.hok a _ ea)
  obtain ⟨o,h1,h2,_⟩:=p
  exact kia_one PySem.W.kitx_tuple I.kIn ⟨o,h1,h2⟩ e (fun z=>nomatch z) h
 | @kt a ob ek ck =>
  cases (show u=Value.ref a from rx)
  exact kia_one PySem.W.kitx_tuple I.kIn ⟨ob,I.kIn a ob ek,ck⟩ e (fun z=>nomatch z) h
 | @dK a kvs ea =>
  cases (show u=Value.ref a from rx)
  obtain ⟨_,_,vs,_,p⟩:=(show ObjOk X.prog X.w H s.heap a (.dK kvs) from I.hok a _ ea)
  obtain ⟨o,es,ep,h1,h2,_⟩:=p
  exact kia_one PySem.W.kitx_dict I.kIn ⟨o,h1,h2.1⟩ e (fun z=>nomatch z) h
 | @dT a kvs ea =>
  cases (show u=Value.ref a from rx)
  obtain ⟨_,_,xs,_,o,es,ep,h1,h2,_⟩:=(show ObjOk X.prog X.w H s.heap a (.dT kvs) from I.hok a _ ea)
  exact kia_one PySem.W.kitx_dict I.kIn ⟨o,h1,h2.1⟩ e (fun z=>nomatch z) h
 | @ins a C dx fs ea cl ha hn htk hm =>
  cases (show u=Value.ref a from rx)
  obtain ⟨mA,O,_⟩:=yjQ I.hok ea
  obtain ⟨od,J,_⟩:=O.look
  exact kia_one (PySem.W.kitx_own (cl.get _) cl.hd ha hn htk hm) I.kIn J e (fun z=>nomatch z) h
end
end L2
namespace L2
open PySem PySem.Spec PyProof.Rows
structure Room (k:Nat) (A:Around):Prop where
 hd:A.handled=none
 dp:A.depth+3*k+5<recursionLimit
 un:A.units+16*k+200<cLine
theorem Room.mono {j k:Nat}{A:Around}(r:Room k A) (h:j<=k):Room j A:=⟨r.hd,by have:=r.dp;omega,by have:=r.un;omega⟩
theorem Room.deeper {k:Nat}{A:Around}(r:Room (k+1) A) (env:Env):Room k (A.deeper env) :=
 ⟨r.hd,by have:=r.dp;show A.depth+1+3*k+5<_;omega,by have:=r.un;show A.units+3+16*k+200<_;omega⟩
theorem ypo {A:Around}{C:Addr}{us:List Value}{kw:List (Str×Value)}:(A.under (.builtin "type.__call__" ⟨.ref C::us,kw⟩)).depth=A.depth+1:=by
 first|rfl|simp [Around.under,Code.weight,Code.isCreation,Code.isGuard,Code.isCaller,Code.frames,Code.isFrame,guardIds]
theorem ypp {A:Around}{C:Addr}{us:List Value}{kw:List (Str×Value)}:(A.under (.builtin "type.__call__" ⟨.ref C::us,kw⟩)).units=A.units+1:=by
 first|rfl|simp [Around.under,Code.cUnits,Code.frames,Code.isFrame]
theorem Room.make {k:Nat}{A:Around}(r:Room (k+1) A) (C:Addr) (us:List Value) (kw:List (Str×Value)):Room k (A.under (.builtin "type.__call__" ⟨.ref C::us,kw⟩)) :=
 ⟨r.hd,by have:=r.dp;rw [ypo];omega,by have:=r.un;rw [ypp];omega⟩
theorem Room.depth {k:Nat}{A:Around}(r:Room k A):A.depth<recursionLimit:=by have:=r.dp;omega
theorem Room.units {k:Nat}{A:Around}(r:Room k A):A.units+64<cLine:=by have:=r.un;omega
def ytl:TA:=fun _ H Q=>Q [] H
def ymC (ta:TE) (tr:TA):TA:=fun σ H Q=>ta σ H fun x H1=>tr σ H1 fun xs H2=>Q (x::xs) H2
section
variable {X:Cx}{e:Expr}{es:List Expr}{te:TE}{t:TA}{pos:Pos}
theorem yjo:PA X [] ytl:=fun _ _ _ _ H Q I h=>Calls.spliced_nil ⟨[],H,I,.nil,h⟩
theorem yfL (ha:PE X e te) (hr:PA X es t) (hs:starEach (e::es) X.env=(false,eval e X.env)::starEach es X.env:=by rfl):PA X (e::es) (ymC te t):=by
 intro pos pins s σ H Q I h
 rw [hs]
 show wpAny _ _ (spliced ((false,eval e X.env)::backTo pos (starEach es X.env))) _ _ s
 refine Calls.spliced_cons (thn (ha pins s σ H _ I h) fun u s1 ⟨x,H1,I1,r1,q1⟩=>?_)
 exact thn (hr pos pins s1 σ H1 _ I1 q1) fun us s2 ⟨xs,H2,I2,r2,q2⟩=>⟨x::xs,H2,I2,.cons r1 r2,q2⟩
def yFe (t:TA):TE:=fun σ H Q=>t σ H fun xs H1=>xs.length<=sizeLine/\∀ p,H1 p=none->Q (.ref p) (upd H1 p (.tup xs))
def yFf (t:TA):TE:=fun σ H Q=>t σ H fun xs H1=>xs.length<=sizeLine/\∀ p,H1 p=none->Q (.ref p) (upd H1 p (.lst xs))
theorem yzE {x1} (h:PA X es t):PE X (.Tuple es x1 pos) (yFe t):=by
 intro pins s σ H Q I hq
 refine wpAny_Tuple_spliced (thn (h pos pins s σ H _ I hq) fun us s1 ⟨xs,H1,I1,r,z,q⟩=>⟨by rw [<- r.length];exact z,?_⟩)
 have hf:H1 s1.heap.objs.size=none:=I1.hok.fresh (Nat.le_refl _)
 refine ⟨.ref s1.heap.objs.size,upd H1 s1.heap.objs.size (.tup xs),I1.laid (t':=s1.toks) (fun b u e=>Heap.get?_push_of_some _ e) (Nat.le_refl _) ?_,rfl,q _ hf⟩
 exact ⟨z,us,r,⟨_,Heap.get?_push_size _ rfl,rfl,_,rfl⟩⟩
theorem yzF (h:PA X es t):PE X (.List es pos) (yFf t):=by
 intro pins s σ H Q I hq
 refine wpAny_List_spliced (thn (h pos pins s σ H _ I hq) fun us s1 ⟨xs,H1,I1,r,z,q⟩=>⟨by rw [<- r.length];exact z,?_⟩)
 have hf:H1 s1.heap.objs.size=none:=I1.hok.fresh (Nat.le_refl _)
 refine ⟨.ref s1.heap.objs.size,upd H1 s1.heap.objs.size (.lst xs),I1.laid (t':=s1.toks) (fun b u e=>Heap.get?_push_of_some _ e) (Nat.le_refl _) ?_,rfl,q _ hf⟩
 exact ⟨z,us,0,r,Heap.get?_push_size _ rfl⟩
end
abbrev Sp:=List V->Hp->VK->XK->Prop
abbrev CXT:=List Env->Hp->Shared->XK->Value->Shared->Prop
structure Env0 (P:Program) (w:World) (K:PySem.W.Frag) (mg:Str->Option Value) (base:Heap) (A:Around) (outer:List Env) (s:Shared) (H:Hp):Prop where
 frames:A.frames=some outer
 mod:Mod K mg base
 bs:∀ b o,base.get? b=some o->s.heap.get? b=some o/\H b=none
 bsz:base.objs.size<=s.heap.objs.size
 funs:s.heap.FunFrames base outer
 frf:∀ b∈frs outer,H b=none
 hok:HOk P w H s.heap
 bare:AllBare s.gens
def CE (outer:List Env) (P:Program) (w:World) (H:Hp) (s:Shared) (Q:VK) (u:Value) (s':Shared):Prop :=
 ∃ v H',s'.os=s.os/\AllBare s'.gens/\Un (frs outer) [] H H' s.heap s'.heap/\HOk P w H' s'.heap/\RelV v u/\Q v H'
def CR (CX:CXT) (outer:List Env) (P:Program) (w:World) (H:Hp) (s:Shared) (Q:VK) (E:XK) (r:Result) (s':Shared):Prop :=
 match r with
 | .ok (.ret u)=>CE outer P w H s Q u s'
 | .ok _=>False
 | .error e=>CX outer H s E e s'
structure FnOk (P:Program) (w:World) (K:PySem.W.Frag) (mg:Str->Option Value) (base:Heap) (CX:CXT) (k:Nat) (f:Addr) (fd:FuncData) (ps:List Str) (sp:Sp):Prop where
 len:∀ vs H Q E,sp vs H Q E->vs.length=ps.length
 run:∀ (A:Around) (outer:List Env) (s:Shared) (H:Hp) (args:Args) (us:List Value) (vs:List V) (Q:VK) (E:XK),Room k A->Env0 P w K mg base A outer s H->BindsTo s fd args (ps.zip us)->Vals vs us->sp vs H Q E ->
  codeAny (model P w) A (.call (.ref f) args) (CR CX outer P w H s Q E) s
theorem FnOk.mono {P:Program}{w:World}{K:PySem.W.Frag}{mg:Str->Option Value}{base:Heap}{CX:CXT}{j k:Nat}{f:Addr}{fd:FuncData}{ps:List Str}{sp:Sp}(F:FnOk P w K mg base CX j f fd ps sp) (h:j<=k) :
  FnOk P w K mg base CX k f fd ps sp:=⟨F.len,fun A outer s H args us vs Q E hr=>F.run A outer s H args us vs Q E (hr.mono h)⟩
theorem FnOk.imp {P:Program}{w:World}{K:PySem.W.Frag}{mg:Str->Option Value}{base:Heap}{CX:CXT}{k:Nat}{f:Addr}{fd:FuncData}{ps:List Str}{sp sp':Sp}(F:FnOk P w K mg base CX k f fd ps sp)
  (h:∀ vs H Q E,sp' vs H Q E->sp vs H Q E):FnOk P w K mg base CX k f fd ps sp' :=
 ⟨fun vs H Q E q=>F.len vs H Q E (h _ _ _ _ q),fun A outer s H args us vs Q E hr he hb hv hs=>F.run A outer s H args us vs Q E hr he hb hv (h _ _ _ _ hs)⟩
theorem Env0.make {P:Program}{w:World}{K:PySem.W.Frag}{mg:Str->Option Value}{base:Heap}{A:Around}{outer:List Env}{s:Shared}{H:Hp}(e:Env0 P w K mg base A outer s H) (C:Addr) (us:List Value) (kw:List (Str×Value)) :
  Env0 P w K mg base (A.under (.builtin "type.__call__" ⟨.ref C::us,kw⟩)) outer s H:=⟨by first|exact e.frames|(simpa [Around.under,Code.envs,Code.isFrame,pushEnvs] using e.frames),e.mod,e.bs,e.bsz,e.funs,e.frf,e.hok,e.bare⟩
section
variable {X:Cx}{pins:List (Addr×Obj)}{σ:St}{H:Hp}{s s':Shared}
theorem Inv.env0 (I:Inv X pins σ H s):Env0 X.prog X.w X.K X.mg X.base X.A X.stack s H :=
 ⟨I.ok.frames,I.ok.mod,I.bs,Nat.le_trans I.ok.bsz I.sz,I.stack,I.stkFree,I.hok,I.bare⟩
theorem Inv.after {Q:VK}{u:Value}(I:Inv X pins σ H s) (h:CE X.stack X.prog X.w H s Q u s'):EP X pins σ Q u s':=by
 obtain ⟨v,H',os,bare,un,hok,r,q⟩:=h
 obtain ⟨hh,g,d,t,os'⟩:=s'
 obtain rfl:os'=s.os:=os
 exact ⟨v,H',I.call (h':=hh) (g':=g) (d':=d) (t':=t) (ch:=[]) un hok bare (fun b z=>absurd z (by simp)),r,q⟩
end
def ytm (sp:Sp) (dvs:List V) (E:XK) (t:TA):TE:=fun σ H Q=>t σ H fun vs H1=>sp (vs++dvs) H1 Q E
noncomputable def ywE (C:Addr) (m:Str) (sp:Sp) (dvs:List V) (E:XK) (ta:TE) (t:TA):TE:=fun σ H Q=>ta σ H fun x H1=>∃ a dx fs,x=.ref a/\H1 a=some (.ins C dx fs)/\fs.lookup m=none /\
 t σ H1 fun vs H2=>sp (x::(vs++dvs)) H2 Q E
noncomputable def ytn (C:Addr) (sp:Sp) (dvs:List V) (E:XK) (t:TA):TE:=fun σ H Q=>t σ H fun vs H1=>∀ x dx,H1 x=none->H1 dx=none->dx≠x ->
 sp (.ref x::(vs++dvs)) (upd (upd H1 dx (.own x)) x (.ins C dx [])) (fun v H2=>v=.non/\Q (.ref x) H2) E
noncomputable def Binds (K:PySem.W.Frag) (fd:FuncData) (ps:List Str) (ds:List Value):Prop :=
 ∀ (s:Shared) (us:List Value),K.In s.heap->(us++ds).length=ps.length->BindsTo s fd ⟨us,[]⟩ (ps.zip (us++ds))
theorem Binds.all {K:PySem.W.Frag}{fd:FuncData}{ps:List Str}(h:∀ us:List Value,us.length=ps.length->bindArgs fd ⟨us,[]⟩=pure (ps.zip us)):Binds K fd ps []:=fun s us _ hl=>by
 rw [append_nil] at hl ⊢
 exact .of_eq (h us hl)
noncomputable def yge (CX:CXT) (X:Cx) (E:XK):Prop:=∀ (pins:List (Addr×Obj)) (σ:St) (H:Hp) (s:Shared) (e:Value) (s':Shared),Inv X pins σ H s->CX X.stack H s E e s'->X.xe e s'
section
variable {X:Cx}{CX:CXT}{k:Nat}{f C:Addr}{fd:FuncData}{ps:List Str}{sp:Sp}{dvs:List V}{ds:List Value}{E:XK}{x m:Str}{p pos apos:Pos}{e o:Expr}{es:List Expr}{ta:TE}{t:TA}
theorem ylb {pins:List (Addr×Obj)}{σ:St}{H:Hp}{s:Shared}{Q:VK}{us:List Value}{vs:List V}(F:FnOk X.prog X.w X.K X.mg X.base CX k f fd ps sp) (hr:Room k X.A) (hb:Binds X.K fd ps ds) (hd:Vals dvs ds) (hx:yge CX X E)
  (I:Inv X pins σ H s) (r:Vals vs us) (h:sp (vs++dvs) H Q E):wpAny (model X.prog X.w) X.A (call (.ref f) us) (EP X pins σ Q) X.xe s:=by
 have r2:Vals (vs++dvs) (us++ds):=r.append hd
 have hl:(us++ds).length=ps.length:=by rw [<- r2.length];exact F.len _ _ _ _ h
 refine wpAny_call (codeAny_mono (F.run X.A X.stack s H ⟨us,[]⟩ (us++ds) (vs++dvs) Q E hr I.env0 (hb s us I.kIn hl) r2 h) fun r s' hq=>?_)
 cases r with
 | error e=>exact hx pins σ H s e s' I hq
 | ok fl =>
  cases fl with
  | ret u=>exact I.after hq
  | next=>exact False.elim hq
  | brk=>exact False.elim hq
  | cont=>exact False.elim hq
theorem ywF (F:FnOk X.prog X.w X.K X.mg X.base CX k f fd ps sp) (hr:Room k X.A) (hg:Gl X x) (hm:X.mg x=some (.ref f)) (hk:keepIn X.K (.ref f)=true) (hb:Binds X.K fd ps ds) (hd:Vals dvs ds) (hx:yge CX X E)
  (ha:PA X (e::es) t) (hdb:(x == ("__debug__":Str))=false:=by decide) (he:starEach (e::es) X.env=(false,eval e X.env)::starEach es X.env:=by rfl) (hpl:(backTo pos (starEach es X.env)).any (·.1)=false:=by rfl) :
  PE X (.Call (.Name x p) (e::es) [] pos) (ytm sp dvs E t):=by
 intro pins s σ H Q I h
 refine wpAny_Call_Name_kw (yhG I hg hm ?_ hdb)
 refine PySem.W.callWith_K (h₀:=X.base) I.ok.mod.kin hk (thn (ha pos pins s σ H _ I h) fun us s1 ⟨vs,H1,I1,r,q⟩=>⟨I1.kIn,?_⟩) he hpl
 exact ylb F hr hb hd hx I1 r q
theorem ywG {pl:Sem Bool}(he:PE X o ta) (c:Cls X.K C) (hm:Meth X.K C m f) (F:FnOk X.prog X.w X.K X.mg X.base CX k f fd ps sp) (hr:Room k X.A) (hb:Binds X.K fd ps ds) (hd:Vals dvs ds) (hx:yge CX X E) (ha:PA X (e::es) t)
  (hst:starEach (e::es) X.env=(false,eval e X.env)::starEach es X.env:=by rfl) (hpl:(backTo pos (starEach es X.env)).any (·.1)=false:=by rfl)
  (ht:eval (.Call (.Attribute o m apos) (e::es) [] pos) X.env=(do
   let ov <- eval o X.env
   standAt apos.atName
   let (f,first) <- holding [ov] (getMethod ov m pl)
   callWith pos f first (backTo pos (starEach (e::es) X.env)) (backToKw pos (keywordEach [] X.env))):=by rfl) :
  PE X (.Call (.Attribute o m apos) (e::es) [] pos) (ywE C m sp dvs E ta t):=by
 intro pins s σ H Q I h
 refine PySem.W.methodCall_KW (pl:=pl) (thn (he pins s σ H _ I h) fun u s1 ⟨x,H1,I1,rx,a,dx,fs,ex,ea,l,q⟩=>?_) ht
 subst ex
 obtain rfl:u=Value.ref a:=rx
 refine ygN I1 ea c hm l ?_
 refine PySem.W.callWith_K (first:=[.ref a]) (h₀:=X.base) I.ok.mod.kin hm.kp (thn (ha pos pins s1 σ H1 _ I1 q) fun us s2 ⟨vs,H2,I2,r,q2⟩=>⟨I2.kIn,?_⟩) hst hpl
 exact ylb (us:=.ref a::us) (vs:=.ref a::vs) F hr hb hd hx I2 (.cons rfl r) q2
theorem yto {pl:Sem Bool}(he:PE X o ta) (c:Cls X.K C) (hm:Meth X.K C m f) (F:FnOk X.prog X.w X.K X.mg X.base CX k f fd ps sp) (hr:Room k X.A) (hb:Binds X.K fd ps ds) (hd:Vals dvs ds) (hx:yge CX X E)
  (ht:eval (.Call (.Attribute o m apos) [] [] pos) X.env=(do
   let ov <- eval o X.env
   standAt apos.atName
   let (f,first) <- holding [ov] (getMethod ov m pl)
   callWith pos f first (backTo pos (starEach [] X.env)) (backToKw pos (keywordEach [] X.env))):=by rfl) :
  PE X (.Call (.Attribute o m apos) [] [] pos) (ywE C m sp dvs E ta ytl):=by
 intro pins s σ H Q I h
 refine PySem.W.methodCall_KW (pl:=pl) (thn (he pins s σ H _ I h) fun u s1 ⟨x,H1,I1,rx,a,dx,fs,ex,ea,l,q⟩=>?_) ht
 subst ex
 obtain rfl:u=Value.ref a:=rx
 refine ygN I1 ea c hm l ?_
 exact PySem.W.callWith_K0 (first:=[.ref a]) I1.kIn hm.kp (ylb (us:=[.ref a]) (vs:=[.ref a]) F hr hb hd hx I1 (.cons rfl .nil) q)
structure Mk (K:PySem.W.Frag) (C f:Addr):Prop where
 makes:makesIn K C=true
 init:findIn K (.ref C) "__init__" = some (some (.ref f))
 fn:isFn K (.ref f)=true
 kp:keepIn K (.ref C)=true
theorem ynX {pins:List (Addr×Obj)}{σ:St}{H:Hp}{s:Shared}{Q:VK}{us:List Value}{vs:List V}(M:Mk X.K C f) (F:FnOk X.prog X.w X.K X.mg X.base CX k f fd ps sp) (hr:Room (k+1) X.A) (hb:Binds X.K fd ps ds) (hd:Vals dvs ds)
  (hx:yge CX X E) (I:Inv X pins σ H s) (r:Vals vs us)
  (h:∀ x dx,H x=none->H dx=none->dx≠x->sp (.ref x::(vs++dvs)) (upd (upd H dx (.own x)) x (.ins C dx [])) (fun v H2=>v=.non/\Q (.ref x) H2) E) :
  wpAny (model X.prog X.w) X.A (call (.ref C) us) (EP X pins σ Q) X.xe s:=by
 have hq:=h (s.heap.objs.size+1) s.heap.objs.size (I.hok.fresh (Nat.le_succ _)) (I.hok.fresh (Nat.le_refl _)) (ne_of_lt (Nat.lt_succ_self _))
 have I2:=Inv.made (C:=C) I
 have r2:Vals (V.ref (s.heap.objs.size+1)::(vs++dvs)) (Value.ref (s.heap.objs.size+1)::(us++ds)):=.cons rfl (r.append hd)
 have hl:(Value.ref (s.heap.objs.size+1)::us++ds).length=ps.length:=by
  have e:=r2.length
  rw [F.len _ _ _ _ hq] at e
  exact e.symm
 refine wpAny_call (ytk (f:=f) I.kIn M.makes M.init (beq_iff_eq.mp M.fn) (codeAny_mono (F.run _ X.stack _ _ ⟨Value.ref (s.heap.objs.size+1)::us,[]⟩ (Value.ref (s.heap.objs.size+1)::(us++ds)) _ _ E (hr.make C us [])
  (I2.env0.make C us []) (hb _ (Value.ref (s.heap.objs.size+1)::us) I2.kIn hl) r2 hq) fun r s' hq'=>?_))
 cases r with
 | error e=>exact hx pins σ _ _ e s' I2 hq'
 | ok fl =>
  cases fl with
  | ret u =>
   obtain ⟨v,H',I3,rv,ev,q3⟩:=I2.after hq'
   subst ev
   exact ⟨rv,⟨V.ref (s.heap.objs.size+1),H',I3,rfl,q3⟩⟩
  | next=>exact False.elim hq'
  | brk=>exact False.elim hq'
  | cont=>exact False.elim hq'
theorem yqz (M:Mk X.K C f) (F:FnOk X.prog X.w X.K X.mg X.base CX k f fd ps sp) (hr:Room (k+1) X.A) (hg:Gl X x) (hm:X.mg x=some (.ref C)) (hb:Binds X.K fd ps ds) (hd:Vals dvs ds) (hx:yge CX X E)
  (ha:PA X (e::es) t) (hdb:(x == ("__debug__":Str))=false:=by decide) (he:starEach (e::es) X.env=(false,eval e X.env)::starEach es X.env:=by rfl) (hpl:(backTo pos (starEach es X.env)).any (·.1)=false:=by rfl) :
  PE X (.Call (.Name x p) (e::es) [] pos) (ytn C sp dvs E t):=by
 intro pins s σ H Q I h
 refine wpAny_Call_Name_kw (yhG I hg hm ?_ hdb)
 refine PySem.W.callWith_K (h₀:=X.base) I.ok.mod.kin M.kp (thn (ha pos pins s σ H _ I h) fun us s1 ⟨vs,H1,I1,r,q⟩=>⟨I1.kIn,?_⟩) he hpl
 exact ynX M F hr hb hd hx I1 r q
theorem ytp (M:Mk X.K C f) (F:FnOk X.prog X.w X.K X.mg X.base CX k f fd ps sp) (hr:Room (k+1) X.A) (hg:Gl X x) (hm:X.mg x=some (.ref C)) (hb:Binds X.K fd ps ds) (hd:Vals dvs ds) (hx:yge CX X E)
  (hdb:(x == ("__debug__":Str))=false:=by decide):PE X (.Call (.Name x p) [] [] pos) (ytn C sp dvs E ytl):=by
 intro pins s σ H Q I h
 refine wpAny_Call_Name_kw (yhG I hg hm ?_ hdb)
 exact PySem.W.callWith_K0 I.kIn M.kp (ynX (us:=[]) M F hr hb hd hx I .nil h)
end
section
variable {X:Cx}{CX:CXT}{k:Nat}{f C:Addr}{fd:FuncData}{ps ks:List Str}{sp:Sp}{E:XK}{x m:Str}{p pos apos kpos:Pos}{e o:Expr}{es:List Expr}{kws:List Keyword}{te ta:TE}{t tk:TA}{nm:Option Str}
variable {g:List Value->List Value->List Value}{gV:List V->List V->List V}
end
structure yev (N P:List Str) (sc:Scope):Prop where
 kind:sc.kind=.function
 co:sc.isCoroutine=false
 gen:sc.isGenerator=false
 nd:N.Nodup
 pre:N.take P.length=P
 par:∀ x∈P,sc.names.lookup x=some .local \/ sc.names.lookup x=some .cell
 nofree:∀ y∈sc.names,y.2≠.free
theorem ylc {kindOf:Str->Option NameKind}{x:Str}:∀ {binds:List (Str×Value)}{m:Str->Option Value},(∀ v,(x,v)∉binds)->bindL kindOf binds m x=m x
 | [],_,_=>rfl
 | (n,v)::r,m,h=>by
  unfold bindL
  rw [ylc fun w hw=>h w (mem_cons_of_mem _ hw)]
  split
  .have:x≠n:=by rintro rfl;exact h v mem_cons_self
   simp [this]
  .rfl
theorem yle {kindOf:Str->Option NameKind}{x:Str}:∀ {binds:List (Str×Value)}{m:Str->Option Value},(∀ v,(x,v)∉binds)->bindC kindOf binds m x=m x
 | [],_,_=>rfl
 | (n,v)::r,m,h=>by
  unfold bindC
  rw [yle fun w hw=>h w (mem_cons_of_mem _ hw)]
  split
  .rfl
  .have:x≠n:=by rintro rfl;exact h v mem_cons_self
   simp [this]
theorem ylf {kindOf:Str->Option NameKind}{x:Str}{v:Value}:∀ {P:List Str}{vs:List Value}{i:Nat}{m:Str->Option Value},P.Nodup->P[i]?=some x->vs[i]?=some v->kindOf x=some .local ->
  bindL kindOf (P.zip vs) m x=some v
 | [],_,_,_,_,h,_,_=>by simp at h
 | _::_,[],_,_,_,_,h,_=>by simp at h
 | p::P,w::vs,0,m,nd,h1,h2,hk=>by
  simp at h1 h2;subst h1;subst h2
  show bindL kindOf ((p,w)::P.zip vs) m p=_
  unfold bindL
  rw [ylc fun v hv=>(List.nodup_cons.mp nd).1 (of_mem_zip hv).1,if_pos hk]
  simp
 | p::P,w::vs,i+1,m,nd,h1,h2,hk=>by
  show bindL kindOf ((p,w)::P.zip vs) m x=_
  unfold bindL
  exact ylf (i:=i) (List.nodup_cons.mp nd).2 (by simpa using h1) (by simpa using h2) hk
theorem ylg {kindOf:Str->Option NameKind}{x:Str}{v:Value}:∀ {P:List Str}{vs:List Value}{i:Nat}{m:Str->Option Value},P.Nodup->P[i]?=some x->vs[i]?=some v->kindOf x≠some .local ->
  bindC kindOf (P.zip vs) m x=some v
 | [],_,_,_,_,h,_,_=>by simp at h
 | _::_,[],_,_,_,_,h,_=>by simp at h
 | p::P,w::vs,0,m,nd,h1,h2,hk=>by
  simp at h1 h2;subst h1;subst h2
  show bindC kindOf ((p,w)::P.zip vs) m p=_
  unfold bindC
  rw [yle fun v hv=>(List.nodup_cons.mp nd).1 (of_mem_zip hv).1,if_neg hk]
  simp
 | p::P,w::vs,i+1,m,nd,h1,h2,hk=>by
  show bindC kindOf ((p,w)::P.zip vs) m x=_
  unfold bindC
  exact ylg (i:=i) (List.nodup_cons.mp nd).2 (by simpa using h1) (by simpa using h2) hk
def start (N:List Str) (vs:List V):St:=vs.map some++replicate (N.length-vs.length) none
noncomputable def ytq (CX:CXT) (P:Program) (w:World) (K:PySem.W.Frag) (mg:Str->Option Value) (base:Heap) (N:List Str) (qual:Str) (scope:Scope) (f:Addr) (cd:Value) (A:Around) (outer:List Env) (s:Shared) (H:Hp) (E:XK):Cx where
 prog:=P
 w:=w
 K:=K
 mg:=mg
 base:=base
 A:=A.deeper (envOfC qual scope s.heap.objs.size f cd)
 N:=N
 s₀:=s
 H₀:=H
 env:=envOfC qual scope s.heap.objs.size f cd
 outer:=outer
 stack:=envOfC qual scope s.heap.objs.size f cd::outer
 ex:=[]
 calm:=true
 fn:=fun _=>true
 pn:=[]
 xe:=fun e s'=>wpAny (model P w) (A.deeper (envOfC qual scope s.heap.objs.size f cd)) (leaving (envOfC qual scope s.heap.objs.size f cd) e) (fun _ s''=>CX outer H s E e s'') (fun e' s''=>CX outer H s E e' s'') s'
theorem ynY {sc:Scope}{n:Nat}{x:Str}(h:sc.names.lookup x=some .cell):∃ c,(cellsFrom n sc.names []).lookup x=some c:=by
 have q:=PySem.W.cellsFrom_some sc.names n [] (.inl h)
 exact Option.isSome_iff_exists.mp q
theorem yqA {CX:CXT}{P:Program}{w:World}{K:PySem.W.Frag}{mg:Str->Option Value}{base:Heap}{N ps:List Str}{qual:Str}{scope:Scope}{f:Addr}{cd:Value}{A:Around}{outer:List Env}{s s1:Shared}{H:Hp}{E:XK}{us:List Value}{vs:List V}
  (S:yev N ps scope) (hd:A.handled=none) (e0:Env0 P w K mg base A outer s H) (hl:vs.length=ps.length) (r:Vals vs us)
  (x:InCallC s s.heap.objs.size (bindL (envOfC qual scope s.heap.objs.size f cd).kindOf (ps.zip us) fun _=>none) (cellsFrom (s.heap.objs.size+1) scope.names []) (bindC (envOfC qual scope s.heap.objs.size f cd).kindOf (ps.zip us) fun _=>none) s1) :
  Inv (ytq CX P w K mg base N qual scope f cd A outer s H E) [] (start N vs) H s1:=by
 have hpl:ps.length<=N.length:=by have:=congrArg length S.pre;rw [length_take] at this;omega
 obtain ⟨h1,tk,rfl,hk⟩:=x.done
 have noA:∀ b:Addr,b∉(ytq CX P w K mg base N qual scope f cd A outer s H E).ex:=fun b z=>absurd (show b∈([]:List Addr) from z) (by simp)
 refine ⟨⟨e0.mod,S.kind,rfl,rfl,Nat.le_refl _,fun y z c h1 h2=>?_,fun y hy=>?_,fun y c _ h=>?_,fun _=>hd,Around.frames_deeper e0.frames,.inr ⟨rfl,rfl⟩,fun b z=>absurd z (noA b),e0.bs,e0.bsz,fun b _ _=>noA b,fun b z=>absurd z (noA b),e0.funs,e0.frf⟩,
  rfl,e0.bare,Un.kept hk,⟨_,x.toInCall.ns,fun i y v h1 h2 h3=>?_⟩,fun y c h=>⟨_,x.cell y c h⟩,e0.hok.fresh (Nat.le_refl _),fun y c h=>?_,fun p hp=>absurd (show p∈([]:List (Addr×Obj)) from hp) (by simp),e0.hok.kept hk,?_⟩
 .exact name_of_addr x.apart (PySem.mem_of_lookup h1) (PySem.mem_of_lookup h2)
 .have hy:scope.names.lookup y=some .cell\/scope.names.lookup y=some .free:=hy
  rcases hy with hy|hy
  .exact ynY hy
  .exact absurd rfl (S.nofree _ (PySem.mem_of_lookup hy))
 .exact le_of_lt (x.above y c (PySem.mem_of_lookup h))
 .have hi:i<vs.length:=by
   unfold start at h2
   by_cases hi:i<vs.length
   .exact hi
   .rw [getElem?_append_right (by simpa using hi)] at h2
    rw [getElem?_replicate] at h2
    split at h2<;>cases h2
  have ha:vs[i]?=some v:=by
   unfold start at h2
   rw [getElem?_append_left (by simpa using hi),getElem?_map] at h2
   cases e:vs[i]? with
   | none=>rw [e] at h2;cases h2
   | some a=>rw [e] at h2;cases h2;rfl
  obtain ⟨u,hu,rv⟩:=r.get ha
  have hp:ps[i]?=some y:=by
   rw [<- S.pre,List.getElem?_take_of_lt (by omega)];exact h1
  have ndP:ps.Nodup:=by rw [<- S.pre];exact S.nd.sublist (List.take_sublist _ _)
  refine ⟨u,rv,?_⟩
  rcases S.par y (mem_of_getElem? hp) with k|k
  .exact .inl ⟨k,ylf ndP hp hu k⟩
  .obtain ⟨c,e⟩:=ynY (n:=s.heap.objs.size+1) k
   refine .inr ⟨.inl k,c,e,?_⟩
   have q:=x.cell y c e
   rw [ylg ndP hp hu (by show scope.names.lookup y≠_;rw [k];decide)] at q
   exact q
 .exact e0.hok.fresh (le_of_lt (x.above y c (PySem.mem_of_lookup h)))
 .unfold start
  show _=N.length
  rw [length_append,length_map,List.length_replicate]
  omega
theorem yCF {CX:CXT}{P:Program}{w:World}{K:PySem.W.Frag}{mg:Str->Option Value}{base:Heap}{k:Nat}{f:Addr}{name qual:Str}{params:Arguments}{body:List Stmt}{scope:Scope}{dV kV doc pm cdv ct oc:Value}{an od:Option Addr}
  {osl:Array (Option Value)}{N ps:List Str}{sp:Sp}(lk:K.lookup f=some ⟨oc,od,.func (fnOf name qual params body scope dV kV doc pm an cdv ct),osl⟩) (hcd:codeIn K cdv qual=true) (S:yev N ps scope)
  (len:∀ vs H Q E,sp vs H Q E->vs.length=ps.length)
  (hbody:∀ (A:Around) (outer:List Env) (s:Shared) (H:Hp) (vs:List V) (Q:VK) (E:XK),Room k (A.deeper (envOfC qual scope s.heap.objs.size f cdv))->sp vs H Q E ->
   ∃ t,PSs (ytq CX P w K mg base N qual scope f cdv A outer s H E) body t/\t { nx:=fun _ H'=>Q .non H',rt:=Q } (start N vs) H) :
  FnOk P w K mg base CX (k+1) f (fnOf name qual params body scope dV kV doc pm an cdv ct) ps sp:=by
 refine ⟨len,fun A outer s H args us vs Q E hr e0 hb r hsp=>?_⟩
 have hl:=len _ _ _ _ hsp
 have KX:K.In s.heap:=e0.mod.kin.keeps fun b o e=>(e0.bs b o e).1
 have lim:s.heap.NoLimit:=e0.mod.nolimit.keeps fun b o e=>(e0.bs b o e).1
 have hkind:∀ y∈ps.zip us,scope.names.lookup y.1=some .local \/ (scope.names.lookup y.1=some .cell/\((cellsFrom (s.heap.objs.size+1) scope.names []).lookup y.1).isSome=true):=fun ⟨n,v⟩ hy=>by
  rcases S.par n (of_mem_zip hy).1 with q|q
  .exact .inl q
  .exact .inr ⟨q,PySem.W.cellsFrom_some _ _ _ (.inl q)⟩
 refine codeAny_call_function hr.depth (KX _ _ lk) rfl S.co S.gen rfl (PySem.W.codeRec_of KX hcd) (hb _ _ _ _ ?_)
 refine wpAny_newFunctionEnv_cells S.kind hkind fun env he s1 x=>?_
 subst he
 refine ⟨lim.keeps x.toInCall.keep,codeAny_func ?_⟩
 obtain ⟨t,ht,hq⟩:=hbody A outer s H vs Q E (hr.deeper _) hsp
 have I:Inv (ytq CX P w K mg base N qual scope f cdv A outer s H E) [] (start N vs) H s1:=yqA S hr.hd e0 hl r x
 refine wpAny_mono (ht [] s1 (start N vs) H _ I hq) (fun fl s' hs=>?_) fun e s' hs=>hs
 have fin:∀ {σ':St}{H':Hp}{v:V}{u:Value},Inv (ytq CX P w K mg base N qual scope f cdv A outer s H E) [] σ' H' s'->RelV v u->Q v H'->CE outer P w H s Q u s' :=
  fun {σ' H' v u} J rv q=>⟨v,H',J.os,J.bare,J.base,J.hok,rv,q⟩
 cases fl with
 | ret u =>
  obtain ⟨v,σ',H',J,rv,q⟩:=hs
  exact fin J rv q
 | next =>
  obtain ⟨σ',H',J,q⟩:=hs
  exact fin (v:=V.non) (u:=Value.none) J rfl q
 | brk =>
  obtain ⟨_,_,_,q⟩:=hs
  exact False.elim q
 | cont =>
  obtain ⟨_,_,_,q⟩:=hs
  exact False.elim q
end L2
namespace L2
open PySem PySem.Spec PyProof.Rows
section
variable {X:Cx}{x:Str}{p pos:Pos}{e:Expr}{es:List Expr}{t:TA}{id T:String}{r:List V->Hp->VK->Prop}
def tCB (r:List V->Hp->VK->Prop) (t:TA):TE:=fun σ H Q=>t σ H fun vs H1=>r vs H1 Q
theorem yjR (hc:yfK X (.builtin id) r) (hg:Gl X x) (hm:X.mg x=none) (hv:bootBuiltins x=some (.builtin id)) (ha:PA X (e::es) t) (hn:x≠"__name__":=by decide) (hdb:(x == ("__debug__":Str))=false:=by decide)
  (he:starEach (e::es) X.env=(false,eval e X.env)::starEach es X.env:=by rfl) (hpl:(backTo pos (starEach es X.env)).any (·.1)=false:=by rfl):PE X (.Call (.Name x p) (e::es) [] pos) (tCB r t):=by
 intro pins s σ H Q I h
 refine wpAny_Call_Name_kw (ykY I hg hm hv ?_ hn hdb)
 exact PyProof.Rows.callWith_builtin1 (thn (ha pos pins s σ H _ I h) fun us s1 ⟨vs,H1,I1,r1,q1⟩=>hc pins s1 σ H1 vs us Q I1 r1 q1) he hpl
theorem ylh (hc:yfK X (.type T) r) (hg:Gl X x) (hm:X.mg x=none) (hv:bootBuiltins x=some (.type T)) (ha:PA X (e::es) t) (hn:x≠"__name__":=by decide) (hdb:(x == ("__debug__":Str))=false:=by decide)
  (he:starEach (e::es) X.env=(false,eval e X.env)::starEach es X.env:=by rfl) (hpl:(backTo pos (starEach es X.env)).any (·.1)=false:=by rfl):PE X (.Call (.Name x p) (e::es) [] pos) (tCB r t):=by
 intro pins s σ H Q I h
 refine wpAny_Call_Name_kw (ykY I hg hm hv ?_ hn hdb)
 exact PyProof.Rows.callWith_type1 (thn (ha pos pins s σ H _ I h) fun us s1 ⟨vs,H1,I1,r1,q1⟩=>hc pins s1 σ H1 vs us Q I1 r1 q1) he hpl
end
end L2
namespace HT
open PySem PyProof.Rows
section
open PySem.SeqAt
open PySem.AutoSeq1 (wpAny_loadPart')
open PySem.MeetsSeq PySem.MeetsSeq2 PySem.MeetsSeq3
end
section
variable {prog:Program}{w:World}{A:Around}{E:Value->Shared->Prop}{s:Shared}
def sIx (n d:Nat):Option Int->Nat
 | none=>d
 | some v=>if v<0 then (v+(n:Int)).toNat else min v.toNat n
theorem sIx_nat (n d k:Nat):sIx n d (some (k:Int))=min k n:=by
 show (if (k:Int)<0 then ((k:Int)+(n:Int)).toNat else min (k:Int).toNat n)=min k n
 rw [if_neg (by omega),Int.toNat_natCast]
end
end HT
namespace L2
open PySem PySem.Spec PyProof.Rows
abbrev TO:=St->Hp->(Option Int->Hp->Prop)->Prop
noncomputable def PO (X:Cx) (e:Option Expr) (t:TO):Prop :=
 ∀ (pins:List (Addr×Obj)) (s:Shared) (σ:St) (H:Hp) (Q:Option Int->Hp->Prop),Inv X pins σ H s->t σ H Q ->
  wpAny (model X.prog X.w) X.A (evalPart e X.env) (fun u s'=>∃ o H',Inv X pins σ H' s'/\IsPart u o/\Q o H') X.xe s
def yzG (t:TE):TO:=fun σ H Q=>t σ H fun x H1=>∃ i,x=.int i/\Q (some i) H1
theorem intsAre_of {ns:List Int}:∀ {us:List Value},Vals (ns.map V.int) us->IntsAre us ns:=by
 induction ns with
 | nil=>intro us r;rw [map_nil] at r;cases r;exact .nil
 | cons n ns ih =>
  intro us r
  rw [map_cons] at r
  cases r with
  | cons r1 r2 =>
   obtain ⟨t,e⟩:=r1
   subst e
   exact .cons n t (ih r2)
section
variable {X:Cx}{e:Expr}{te:TE}{lo hi:Option Expr}{tl th:TO}{pos p2:Pos}
theorem ywH (h:PE X e te):PO X (some e) (yzG te):=by
 intro pins s σ H Q I hw
 rw [evalPart_some]
 refine thn (h pins s σ H _ I hw) fun u s1 ⟨x,H1,I1,r1,q1⟩=>?_
 obtain ⟨i,rfl,q⟩:=q1
 obtain ⟨t,rfl⟩:=r1
 exact ⟨some i,H1,I1,.int i t,q⟩
def SlR (X:Cx) (r:V->Option Int->Option Int->Hp->VK->Prop):Prop :=
 ∀ (pins:List (Addr×Obj)) (s:Shared) (σ:St) (H:Hp) (x:V) (v vl vu:Value) (lo hi:Option Int) (sl:Addr) (Q:VK),Inv X pins σ H s->RelV x v->s.heap.IsSliceOf sl vl vu .none->IsPart vl lo->IsPart vu hi->r x lo hi H Q ->
  ∃ T id,typeLookup (.type T) "__getitem__" = pure (some (.builtin id))/\s.TypeIs v T/\wpAny (model X.prog X.w) X.A (getItem v (.ref sl)) (EP X pins σ Q) X.xe s
noncomputable def tSl (r:V->Option Int->Option Int->Hp->VK->Prop) (te:TE) (tl th:TO):TE:=fun σ H Q=>te σ H fun x H1=>tl σ H1 fun l H2=>th σ H2 fun u H3=>r x l u H3 Q
theorem ytr {r:V->Option Int->Option Int->Hp->VK->Prop}(hr:SlR X r) (he:PE X e te) (hl:PO X lo tl) (hu:PO X hi th):PE X (.Subscript e (.Slice lo hi none p2) pos) (tSl r te tl th):=by
 intro pins s σ H Q I h
 refine Subscript_ (thn (he pins s σ H _ I h) fun v s1 ⟨x,H1,I1,r1,q1⟩=>?_)
 refine wpAny_Slice (thn (hl pins s1 σ H1 _ I1 q1) fun vl s2 ⟨l,H2,I2,pl,q2⟩=>thn (hu pins s2 σ H2 _ I2 q2) fun vu s3 ⟨u,H3,I3,pu,q3⟩=>?_)
 rw [evalPart_none]
 refine wpAny_pure ?_
 have I4:Inv X pins σ H3 { s3 with heap:=s3.heap.push { cls:=.type "slice",data:=.fields #[vl,vu,.none] } }:=I3.kept (t':=s3.toks) fun b ob q=>Heap.get?_push_of_some _ q
 obtain ⟨T,id,hT,ht,hg⟩:=hr pins { s3 with heap:=s3.heap.push { cls:=.type "slice",data:=.fields #[vl,vu,.none] } } σ H3 x v vl vu l u s3.heap.objs.size Q I4 r1 (Heap.IsSliceOf.new ..) pl pu q3
 show wpAny (model X.prog X.w) X.A (subscriptTail e (.Slice lo hi none p2) v (.ref s3.heap.objs.size)) (EP X pins σ Q) X.xe { s3 with heap:=s3.heap.push { cls:=.type "slice",data:=.fields #[vl,vu,.none] } }
 exact tail_any (ops:=[.ref s3.heap.objs.size,v]) ht hT hg (by with_unfolding_all rfl)
noncomputable def yzH (xs:List V) (lo hi:Option Int):List V:=(xs.drop (HT.sIx xs.length 0 lo)).take (HT.sIx xs.length xs.length hi-HT.sIx xs.length 0 lo)
theorem ymD (xs:List V) (lo hi:Option Int):(yzH xs lo hi).length<=xs.length:=by
 unfold yzH
 rw [length_take,length_drop]
 omega
end
end L2
namespace L2
open PySem PySem.Spec PyProof.Rows
noncomputable def ixN (n:Nat) (i:Int):Option Nat:=if 0<=i then (if i<n then some i.toNat else none) else if -(n:Int)<=i then some (i+n).toNat else none
def atI {α:Type}(xs:List α) (i:Int):Option α:=(ixN xs.length i).bind fun j=>xs[j]?
theorem yqB {n:Nat}{i:Int}{j:Nat}(h:ixN n i=some j):seqIndex? i n=some j/\j<n/\-(n:Int)<=i/\i<n:=by
 unfold ixN at h
 by_cases h0:0<=i
 .rw [if_pos h0] at h
  by_cases h1:i<n
  .rw [if_pos h1] at h
   have e:i.toNat=j:=Option.some.inj h
   exact ⟨by rw [seqIndex_of h0 h1,e],by omega,by omega,h1⟩
  .rw [if_neg h1] at h;cases h
 .rw [if_neg h0] at h
  by_cases h1:-(n:Int)<=i
  .rw [if_pos h1] at h
   have e:(i+n).toNat=j:=Option.some.inj h
   exact ⟨by rw [seqIndex_neg (by omega) h1,e],by omega,h1,by omega⟩
  .rw [if_neg h1] at h;cases h
theorem ymE {α:Type}{xs:List α}{i:Int}{v:α}(h:atI xs i=some v):∃ j,seqIndex? i xs.length=some j/\xs[j]?=some v/\j<xs.length/\-(xs.length:Int)<=i/\i<xs.length:=by
 unfold atI at h
 cases e:ixN xs.length i with
 | none=>rw [e] at h;cases h
 | some j =>
  rw [e] at h
  obtain ⟨h1,h2,h3,h4⟩:=yqB e
  exact ⟨j,h1,h,h2,h3,h4⟩
theorem ydn {α:Type}{xs:List α}{j:Nat}{v:α}(h:xs[j]?=some v):atI xs (j:Int)=some v:=by
 have hj:j<xs.length:=(List.getElem?_eq_some_iff.mp h).1
 have e:ixN xs.length (j:Int)=some j:=by
  unfold ixN
  rw [if_pos (by omega),if_pos (by omega)];simp
 unfold atI;rw [e];exact h
def yqC (b:Expr):Prop:=∀ o i,subscripted b false o i=operate [o,i] (getItem o i)
def IxR (X:Cx) (r:R2):Prop :=
 ∀ (value slice:Expr) (pins:List (Addr×Obj)) (s:Shared) (σ:St) (H:Hp) (x y:V) (v u:Value) (Q:VK),Inv X pins σ H s->RelV x v->RelV y u->r x y H Q ->
  subscripted slice false v u=operate [v,u] (getItem v u)->wpAny (model X.prog X.w) X.A (subscriptTail value slice v u) (EP X pins σ Q) X.xe s
def MtR (X:Cx) (id:String) (r:V->List V->Hp->VK->Prop):Prop :=
 ∀ (pins:List (Addr×Obj)) (s:Shared) (σ:St) (H:Hp) (x:V) (xs:List V) (v:Value) (us:List Value) (Q:VK),Inv X pins σ H s->RelV x v->Vals xs us->r x xs H Q ->
  wpAny (model X.prog X.w) X.A (call (.builtin id) (v::us)) (EP X pins σ Q) X.xe s
section
variable {X:Cx}{a b:Expr}{ta tb:TE}{pos:Pos}
theorem yCG {r:R2}(hr:IxR X r) (ha:PE X a ta) (hb:PE X b tb) (hs:yqC b):PE X (.Subscript a b pos) (tOp r ta tb):=by
 intro pins s σ H Q I h
 exact Subscript_ (yCA ha hb I h fun v u s2 x y H2 I2 rx ry q=>hr a b pins s2 σ H2 x y v u Q I2 rx ry q (hs _ _))
def yFg (K:PySem.W.Frag):R2:=fun x y H Q=>∃ p xs i v,x=.ref p/\y=.int i/\SqL K H p xs/\atI xs i=some v/\Q v H
def yFh (K:PySem.W.Frag):R2:=fun x y H Q=>∃ p xs i v,x=.ref p/\y=.int i/\SqT K H p xs/\atI xs i=some v/\Q v H
def yFi:R2:=fun x y H Q=>∃ z i c,x=.str z/\y=.int i/\z.length<=sizeLine/\atI z.cps.toList i=some c/\Q (.str ⟨#[c]⟩) H
theorem ybe:IxR X (yFg X.K):=by
 intro value slice pins s σ H x y v u Q I rx ry h hs
 obtain ⟨p,xs,i,z,rfl,rfl,hq,he,q⟩:=h
 cases rx
 obtain ⟨t,rfl⟩:=ry
 obtain ⟨its,r,pl,hz⟩:=I.list hq
 obtain ⟨j,h1,h2,h3,h4,h5⟩:=ymE he
 obtain ⟨w,ew,rw'⟩:=r.get h2
 have hl:=r.length
 have hn:=yjm
 have fin:EP X pins σ Q w s:=⟨z,H,I,rw',q⟩
 by_cases h0:0<=i
 .have hj:i.toNat=j:=by
   rw [seqIndex_of h0 h5] at h1
   exact Option.some.inj h1
  exact item_listR pl.isList h0 (by omega) (by rw [hj];simpa using ew) fin hs
 .have hj:(i+(its.toArray.size:Int)).toNat=j:=by
   rw [seqIndex_neg (by omega) h4] at h1
   rw [size_toArray,<- hl]
   exact Option.some.inj h1
  exact subscriptTail_builtinR (x:=w) pl.isList.typeIs slot_list_getitem.lookup
   (wpAny_getItem_list_neg (Q:=fun r s'=>r=w/\EP X pins σ Q r s') pl.isList (by omega) (by rw [size_toArray]<;>omega) (by omega) (by rw [hj];simpa using ew) ⟨rfl,fin⟩) hs
theorem yv:IxR X (yFh X.K):=by
 intro value slice pins s σ H x y v u Q I rx ry h hs
 obtain ⟨p,xs,i,z,rfl,rfl,hq,he,q⟩:=h
 cases rx
 obtain ⟨t,rfl⟩:=ry
 obtain ⟨its,r,pl,hz⟩:=I.tuple hq
 obtain ⟨j,h1,h2,h3,h4,h5⟩:=ymE he
 obtain ⟨w,ew,rw'⟩:=r.get h2
 have hl:=r.length
 have hn:=yjm
 have fin:EP X pins σ Q w s:=⟨z,H,I,rw',q⟩
 exact subscriptTail_builtinR (x:=w) pl.typeIs slot_tuple_getitem.lookup
  (getItem_tuple (j:=j) (Q:=fun r s'=>r=w/\EP X pins σ Q r s') pl (by omega) (by omega) (by rw [size_toArray,<- hl];exact h1) (by simpa using ew) ⟨rfl,fin⟩) hs
theorem yzI:IxR X yFi:=by
 intro value slice pins s σ H x y v u Q I rx ry h hs
 obtain ⟨z,i,c,rfl,rfl,hz,he,q⟩:=h
 obtain ⟨t,rfl⟩:=rx
 obtain ⟨t',rfl⟩:=ry
 obtain ⟨j,h1,h2,h3,h4,h5⟩:=ymE he
 have hl:z.cps.toList.length=z.length:=by simp [Str.length]
 rw [hl] at h1 h4 h5
 have hn:=yjm
 exact tail_any (typeIs_str s z t) slot_str_getitem.lookup (getItem_str (c:=c) (by
  have e1:decide (i < -(2 ^ 63:Int))=false:=decide_eq_false (by omega)
  have e2:decide (i>=2 ^ 63)=false:=decide_eq_false (by omega)
  rw [e1,e2,Bool.or_false]) (by rw [h1];simpa using h2) ⟨.str ⟨#[c]⟩,H,I.tok _,⟨_,rfl⟩,q⟩) hs
theorem ypq (its:List Value) (n j:Nat) (u:Value):Obj.mapSeq (·.setIfInBounds j u) { cls:=.type "list",data:=.seq its.toArray n }={ cls:=.type "list",data:=.seq (its.set j u).toArray n }:=by
 simp [Obj.mapSeq]
theorem Inv.lst {pins:List (Addr×Obj)}{σ:St}{H:Hp}{s:Shared}{p:Addr}{xs:List V}(I:Inv X pins σ H s) (h:H p=some (.lst xs)) :
  ∃ (its:List Value) (n:Nat),Vals xs its/\s.heap.get? p=some { cls:=.type "list",data:=.seq its.toArray n }/\xs.length<=sizeLine:=by
 obtain ⟨z,its,n,r,e⟩:=I.hok p _ h
 exact ⟨its,n,r,e,z⟩
theorem Inv.lstUpd {pins:List (Addr×Obj)}{σ:St}{H:Hp}{s:Shared}{p:Addr}{xs ys:List V}{its its':List Value}{n n':Nat}{f:Obj->Obj}(I:Inv X pins σ H s) (h:H p=some (.lst xs))
  (ho:s.heap.get? p=some { cls:=.type "list",data:=.seq its.toArray n }) (hf:f { cls:=.type "list",data:=.seq its.toArray n }={ cls:=.type "list",data:=.seq its'.toArray n' }) (r:Vals ys its') (hz:ys.length<=sizeLine) (t:Nat) :
  Inv X pins σ (upd H p (.lst ys)) { s with heap:=s.heap.update p f,toks:=t }:=by
 have e:(s.heap.update p f).get? p=some { cls:=.type "list",data:=.seq its'.toArray n' }:=by
  rw [Heap.get?_update_self f ho (by rw [hf]<;>rfl),hf]
 refine I.write (x:=p) (e:=p) (by rw [h];trivial) (.inl rfl) (fun b u hb q=>(Heap.get?_update_other _ _ (Ne.symm hb)).trans q) ⟨_,e⟩ ?_
 exact ⟨hz,its',n',r,e⟩
def yzJ:V->V->V->Hp->(Hp->Prop)->Prop:=fun o i v H Q=>∃ p xs k j,o=.ref p/\i=.int k/\H p=some (.lst xs)/\ixN xs.length k=some j/\Q (upd H p (.lst (xs.set j v)))
theorem set_list:yEZ X yzJ:=by
 intro pins s σ H o i v ov iv u Q I ro ri rv h
 obtain ⟨p,xs,k,j,rfl,rfl,hp,hj,q⟩:=h
 cases ro
 obtain ⟨t,rfl⟩:=ri
 obtain ⟨its,n,r,ho,hz⟩:=I.lst hp
 obtain ⟨h1,h2,h3,h4⟩:=yqB hj
 have hl:=r.length
 have hn:=yjm
 have I':Inv X pins σ (upd H p (.lst (xs.set j v))) { s with heap:=s.heap.update p (Obj.mapSeq (·.setIfInBounds j u)) } :=
  I.lstUpd hp ho (ypq its n j u) (r.set rv j) (by rw [length_set];exact hz) s.toks
 by_cases h0:0<=k
 .have hk:k.toNat=j:=by
   rw [seqIndex_of h0 h4] at h1
   exact Option.some.inj h1
  exact PySem.W.ki_setAt ho h0 (by omega) (by rw [size_toArray,<- hl];exact h4) (by rw [hk];exact ⟨_,I',q⟩)
 .have hk:(k+(its.toArray.size:Int)).toNat=j:=by
   rw [seqIndex_neg (by omega) h3] at h1
   rw [size_toArray,<- hl]
   exact Option.some.inj h1
  exact PySem.W.ki_setBack ho (by omega) (by rw [size_toArray,<- hl];exact h3) (by omega) (by rw [hk];exact ⟨_,I',q⟩)
theorem yli (lo hi:Option Int) (n:Nat):(sliceBounds lo hi none n).1=((HT.sIx n 0 lo:Nat):Int)/\(sliceBounds lo hi none n).2.1=((HT.sIx n n hi:Nat):Int)/\(sliceBounds lo hi none n).2.2=1:=by
 refine ⟨?_,?_,rfl⟩
 .cases lo with
  | none=>simp [sliceBounds,HT.sIx]
  | some i =>
   simp only [sliceBounds,HT.sIx,Option.getD_none,show (1:Int)>0 by decide,if_true]
   by_cases h:i<0
   .simp only [h,if_true]<;>omega
   .simp only [h,if_false]<;>omega
 .cases hi with
  | none=>simp [sliceBounds,HT.sIx]
  | some i =>
   simp only [sliceBounds,HT.sIx,Option.getD_none,show (1:Int)>0 by decide,if_true]
   by_cases h:i<0
   .simp only [h,if_true]<;>omega
   .simp only [h,if_false]<;>omega
theorem yjS (its:List Value) (lo hi:Option Int):slicePick its.toArray lo hi none=((its.drop (HT.sIx its.length 0 lo)).take (HT.sIx its.length its.length hi-HT.sIx its.length 0 lo)).toArray:=by
 obtain ⟨h1,h2,h3⟩:=yli lo hi its.toArray.size
 unfold slicePick
 rw [h1,h2,h3]
 simp only [sliceRange_one,pick_run,size_toArray]<;>rfl
def yFj (K:PySem.W.Frag):V->Option Int->Option Int->Hp->VK->Prop:=fun x lo hi H Q=>∃ a xs,x=.ref a/\SqL K H a xs/\∀ p,H p=none->Q (.ref p) (upd H p (.lst (yzH xs lo hi)))
theorem ywI:SlR X (yFj X.K):=by
 intro pins s σ H x v vl vu lo hi sl Q I rx hs pl pu h
 obtain ⟨a,xs,rfl,hx,q⟩:=h
 cases rx
 obtain ⟨its,r,ht,hz⟩:=I.list hx
 have hlen:=r.length
 refine ⟨"list",_,slot_list_getitem.lookup,ht.isList.typeIs,?_⟩
 refine wpAny_getItem_list_slice ht.isList hs pl pu .none (by simp) ?_ (by rw [size_toArray]<;>omega)
 rw [yjS,<- hlen]
 refine ⟨.ref s.heap.objs.size,_,I.laid (t':=s.toks) (o:=.lst (yzH xs lo hi)) (fun b ob q=>Heap.get?_push_of_some _ q) (Nat.le_refl _) ?_,rfl,q _ (I.hok.fresh (Nat.le_refl _))⟩
 exact ⟨Nat.le_trans (ymD xs lo hi) hz,_,0,(r.drop (HT.sIx xs.length 0 lo)).take (HT.sIx xs.length xs.length hi-HT.sIx xs.length 0 lo),Heap.get?_push_size _ rfl⟩
def ygf:V->Bool
 | .non=>true
 | .bl _=>true
 | .int _=>true
 | .str _=>true
 | _=>false
noncomputable def eqV:V->V->Bool
 | .non,.non=>true
 | .bl a,.bl b=>a == b
 | .bl a,.int b=>(if a then 1 else 0) == b
 | .int a,.bl b=>a == (if b then 1 else 0)
 | .int a,.int b=>a == b
 | .str a,.str b=>a == b
 | _,_=>false
theorem eqAt_V {A:Around}{s:Shared}{y x:V}{u v:Value}(ry:RelV y u) (rx:RelV x v) (fy:ygf y=true) (fx:ygf x=true):SeqAt.EqAt A s u v (eqV y x):=by
 cases y with
 | non =>
  cases ry
  cases x with
  | non=>cases rx;exact SeqAt.EqAt.same _
  | bl b=>cases rx;exact SeqAt.EqAt.none_bool b
  | int b=>obtain ⟨t,rfl⟩:=rx;exact SeqAt.EqAt.none_int b t
  | str b=>obtain ⟨t,rfl⟩:=rx;exact SeqAt.EqAt.none_str b t
  | _=>exact absurd (show false=true from fx) Bool.false_ne_true
 | bl a =>
  cases ry
  cases x with
  | non=>cases rx;exact SeqAt.EqAt.bool_none a
  | bl b=>cases rx;exact SeqAt.EqAt.bool_bool a b
  | int b=>obtain ⟨t,rfl⟩:=rx;exact SeqAt.EqAt.bool_int a b t
  | str b=>obtain ⟨t,rfl⟩:=rx;exact SeqAt.EqAt.bool_str a b t
  | _=>exact absurd (show false=true from fx) Bool.false_ne_true
 | int a =>
  obtain ⟨t',rfl⟩:=ry
  cases x with
  | non=>cases rx;exact SeqAt.EqAt.int_none a t'
  | bl b=>cases rx;exact SeqAt.EqAt.int_bool a t' b
  | int b=>obtain ⟨t,rfl⟩:=rx;exact SeqAt.EqAt.int_int a t' b t
  | str b=>obtain ⟨t,rfl⟩:=rx;exact SeqAt.EqAt.int_str a t' b t
  | _=>exact absurd (show false=true from fx) Bool.false_ne_true
 | str a =>
  obtain ⟨t',rfl⟩:=ry
  cases x with
  | non=>cases rx;exact SeqAt.EqAt.str_none a t'
  | bl b=>cases rx;exact SeqAt.EqAt.str_bool a t' b
  | int b=>obtain ⟨t,rfl⟩:=rx;exact SeqAt.EqAt.str_int a t' b t
  | str b=>obtain ⟨t,rfl⟩:=rx;exact SeqAt.EqAt.str_str a t' b t
  | _=>exact absurd (show false=true from fx) Bool.false_ne_true
 | _=>exact absurd (show false=true from fy) Bool.false_ne_true
def eqU (x:V) (u:Value):Bool:=match u with
 | .none=>eqV .non x
 | .bool b=>eqV (.bl b) x
 | .int i _=>eqV (.int i) x
 | .str z _=>eqV (.str z) x
 | _=>false
theorem yvA {x y:V}{u:Value}(r:RelV y u) (f:ygf y=true):eqU x u=eqV y x:=by
 cases y with
 | non=>cases r;rfl
 | bl b=>cases r;rfl
 | int i=>obtain ⟨t,rfl⟩:=r;rfl
 | str z=>obtain ⟨t,rfl⟩:=r;rfl
 | _=>exact absurd (show false=true from f) Bool.false_ne_true
theorem yhK {x:V}:∀ {xs:List V}{us:List Value},Vals xs us->xs.all ygf=true->us.any (eqU x)=xs.any fun y=>eqV y x
 | _,_,.nil,_=>rfl
 | y::xs,u::us,.cons r t,f=>by
  rw [List.all_cons,and_eq_true] at f
  rw [any_cons,any_cons,yvA r f.1,yhK t f.2]
theorem ygg {A:Around}{s:Shared}{x:V}{v:Value}(rx:RelV x v) (fx:ygf x=true):∀ {xs:List V}{us:List Value},Vals xs us->xs.all ygf=true->∀ u∈us,SeqAt.EqAt A s u v (eqU x u)
 | _,_,.nil,_=>fun u hu=>by cases hu
 | y::xs,u::us,.cons r t,f=>fun u' hu=>by
  rw [List.all_cons,and_eq_true] at f
  rcases mem_cons.mp hu with rfl|hu
  .rw [yvA r f.1];exact eqAt_V r rx f.1 fx
  .exact ygg rx fx t f.2 u' hu
def inV (x:V) (xs:List V):Bool:=xs.any fun y=>eqV y x
def rIn (K:PySem.W.Frag) (neg:Bool):R2:=fun x y H Q=>∃ p xs,y=.ref p/\(SqL K H p xs\/SqT K H p xs)/\ygf x=true/\xs.all ygf=true/\Q (.bl (if neg then !inV x xs else inV x xs)) H
theorem ylj:OpR X (compareOp .In) (rIn X.K false):=by
 intro pins s σ H x y v u Q I rx ry h
 obtain ⟨p,xs,rfl,hq,fx,fs,q⟩:=h
 cases ry
 rcases hq with hq|hq
 .obtain ⟨its,r,pl,hz⟩:=I.list hq
  refine SeqAt.in_listAt (eqU x) pl.isList (fun w hw=>ygg rx fx r fs w (by simpa using hw)) ⟨.bl _,H,I,rfl,?_⟩
  rw [show its.toArray.any (eqU x)=its.any (eqU x) by simp,yhK r fs]
  exact q
 .obtain ⟨its,r,pl,hz⟩:=I.tuple hq
  refine SeqAt.in_tupleAt (eqU x) pl (fun w hw=>ygg rx fx r fs w (by simpa using hw)) ⟨.bl _,H,I,rfl,?_⟩
  rw [show its.toArray.any (eqU x)=its.any (eqU x) by simp,yhK r fs]
  exact q
theorem yhf:OpR X (compareOp .NotIn) (rIn X.K true):=by
 intro pins s σ H x y v u Q I rx ry h
 obtain ⟨p,xs,rfl,hq,fx,fs,q⟩:=h
 cases ry
 rcases hq with hq|hq
 .obtain ⟨its,r,pl,hz⟩:=I.list hq
  refine SeqAt.notIn_listAt (eqU x) pl.isList (fun w hw=>ygg rx fx r fs w (by simpa using hw)) ⟨.bl _,H,I,rfl,?_⟩
  rw [show its.toArray.any (eqU x)=its.any (eqU x) by simp,yhK r fs]
  exact q
 .obtain ⟨its,r,pl,hz⟩:=I.tuple hq
  refine SeqAt.notIn_tupleAt (eqU x) pl (fun w hw=>ygg rx fx r fs w (by simpa using hw)) ⟨.bl _,H,I,rfl,?_⟩
  rw [show its.toArray.any (eqU x)=its.any (eqU x) by simp,yhK r fs]
  exact q
theorem yG:yfK X (.builtin "len") (fun xs H Q=>∃ p ys,xs=[.ref p]/\(SqL X.K H p ys\/SqT X.K H p ys)/\Q (.int ys.length) H):=by
 intro pins s σ H xs us Q I r h
 obtain ⟨p,ys,rfl,hq,q⟩:=h
 obtain ⟨u,rfl,rx⟩:=vals1 r
 cases rx
 have hn:=yjm
 rcases hq with hq|hq
 .obtain ⟨its,r',pl,hz⟩:=I.list hq
  have hlen:=r'.length
  exact Calls.call_len_list pl.isList (by simp only [size_toArray]<;>omega) ⟨.int ys.length,H,I.tok _,⟨s.toks+1,by rw [size_toArray,hlen]⟩,q⟩
 .obtain ⟨its,r',pl,hz⟩:=I.tuple hq
  have hlen:=r'.length
  exact len_tuple pl (by simp only [size_toArray]<;>omega) ⟨.int ys.length,H,I.tok _,⟨s.toks+1,by rw [size_toArray,hlen]⟩,q⟩
theorem ydO:yfK X (.builtin "len") (fun xs H Q=>∃ z,xs=[.str z]/\z.length<=sizeLine/\Q (.int z.length) H):=by
 intro pins s σ H xs us Q I r h
 obtain ⟨z,rfl,hz,q⟩:=h
 obtain ⟨u,rfl,t,rfl⟩:=vals1 r
 have hn:=yjm
 exact len_str (by omega) ⟨.int z.length,H,I.tok _,⟨_,rfl⟩,q⟩
theorem yC:yfK X (.type "list") (fun xs H Q=>∃ p ys,xs=[.ref p]/\(SqL X.K H p ys\/SqT X.K H p ys)/\∀ l,H l=none->Q (.ref l) (upd H l (.lst ys))):=by
 intro pins s σ H xs us Q I r h
 obtain ⟨p,ys,rfl,hq,q⟩:=h
 obtain ⟨u,rfl,rx⟩:=vals1 r
 cases rx
 have fin:∀ (its:List Value),Vals ys its->ys.length<=sizeLine->∀ (h':Heap) (c':Nat),(∀ b o',s.heap.get? b=some o'->h'.get? b=some o') ->
   h'.get? s.heap.objs.size=some { cls:=.type "list",dict:=none,data:=.seq its.toArray c',slots:=#[] }->EP X pins σ Q (.ref s.heap.objs.size) { s with heap:=h' }:=fun its r' hz h' c' kp e =>
  ⟨.ref s.heap.objs.size,_,I.laid (t':=s.toks) kp (Nat.le_refl _) (show ObjOk X.prog X.w _ h' _ (.lst ys) from ⟨hz,its,c',r',e⟩),rfl,q _ (I.hok.fresh (Nat.le_refl _))⟩
 rcases hq with hq|hq
 .obtain ⟨its,r',pl,hz⟩:=I.list hq
  have hlen:=r'.length
  obtain ⟨o,ho,hc,n,hd⟩:=pl.isList
  exact call_list_seq p (.inl rfl) ho hc hd (fun h' c' kp e=>fin its r' hz h' c' kp e) (by simp only [size_toArray]<;>omega)
 .obtain ⟨its,r',pl,hz⟩:=I.tuple hq
  have hlen:=r'.length
  obtain ⟨o,ho,hc,n,hd⟩:=pl
  exact call_list_seq p (.inr rfl) ho hc hd (fun h' c' kp e=>fin its r' hz h' c' kp e) (by simp only [size_toArray]<;>omega)
def tyV (K:PySem.W.Frag) (T:String) (x:V) (H:Hp):Prop:=match x with
 | .str _=>T = "str"
 | .int _=>T = "int"
 | .ref p=>(T = "list"/\∃ xs,SqL K H p xs)\/(T = "tuple"/\∃ o,K.lookup p=some o/\o.cls=.type "tuple"/\o.dict=none) \/
   (T = "dict"/\((∃ kvs,H p=some (.dK kvs))\/∃ kvs,H p=some (.dT kvs)))\/(T = "set"/\∃ S n,H p=some (.set S n))
 | _=>False
theorem yvB {pins:List (Addr×Obj)}{σ:St}{H:Hp}{s:Shared}{T:String}{x:V}{v:Value}(I:Inv X pins σ H s) (r:RelV x v) (ty:tyV X.K T x H) :
  s.TypeIs v T/\∀ a,v=.ref a->∃ ob,s.heap.get? a=some ob/\ob.dict=none:=by
 cases x with
 | str z =>
  obtain ⟨t,rfl⟩:=r
  cases (show T = "str" from ty)
  exact ⟨typeIs_str s z t,fun _ e=>nomatch e⟩
 | int i =>
  obtain ⟨t,rfl⟩:=r
  cases (show T = "int" from ty)
  exact ⟨typeIs_int s i t,fun _ e=>nomatch e⟩
 | ref p =>
  cases r
  rcases ty with ⟨rfl,xs,hq⟩|⟨rfl,o,hk,hc,hd⟩|⟨rfl,hk⟩|⟨rfl,S,n,hk⟩
  .obtain ⟨its,_,pl,_⟩:=I.list hq
   refine ⟨pl.isList.typeIs,fun a e=>?_⟩
   cases e
   obtain ⟨o,n,e,c,hd,_⟩:=pl
   exact ⟨o,e,hd⟩
  .refine ⟨⟨o,I.kIn p o hk,hc⟩,fun a e=>?_⟩
   cases e
   exact ⟨o,I.kIn _ o hk,hd⟩
  .have z:∃ o,s.heap.get? p=some o/\o.ExactDict:=by
    rcases hk with ⟨kvs,hk⟩|⟨kvs,hk⟩
    .obtain ⟨_,_,_,_,o,_,_,e,ex,_⟩:=I.hok p _ hk
     exact ⟨o,e,ex⟩
    .obtain ⟨_,_,_,_,o,_,_,e,ex,_⟩:=I.hok p _ hk
     exact ⟨o,e,ex⟩
   obtain ⟨o,e,ex⟩:=z
   refine ⟨⟨o,e,ex.1⟩,fun a e2=>?_⟩
   cases e2
   exact ⟨o,e,ex.2.1⟩
  .obtain ⟨o,_,_,_,e,ex,_⟩:=I.hok p _ hk
   refine ⟨⟨o,e,ex.1⟩,fun a e2=>?_⟩
   cases e2
   exact ⟨o,e,ex.2.1⟩
 | _=>exact False.elim ty
def yCH (K:PySem.W.Frag) (T:String) (r:V->List V->Hp->VK->Prop) (to:TE):TE:=fun σ H Q=>to σ H fun x H1=>tyV K T x H1/\r x [] H1 Q
def tBM (K:PySem.W.Frag) (T:String) (r:V->List V->Hp->VK->Prop) (to:TE) (t:TA):TE:=fun σ H Q=>to σ H fun x H1=>tyV K T x H1/\t σ H1 fun xs H2=>r x xs H2 Q
variable {o e:Expr}{es:List Expr}{to:TE}{t:TA}{name:Str}{apos cpos:Pos}{T id:String}{r:V->List V->Hp->VK->Prop}
theorem yvC (pa:PlainAttrs T) (slot:Slot T name id) (hty:typeOf (.builtin id)=pure (.type "method_descriptor")) (hm:MtR X id r) (ho:PE X o to)
  (hbase:attributeBase o name X.env (eval o X.env)=eval o X.env:=by rfl) (hline:(apos.endLine == cpos.line)=true:=by rfl):PE X (.Call (.Attribute o name apos) [] [] cpos) (yCH X.K T r to):=by
 intro pins s σ H Q I h
 refine wpAny_Call_method0_late hbase hline (thn (ho pins s σ H _ I h) fun v s1 ⟨x,H1,I1,r1,ty,q1⟩=>?_)
 obtain ⟨h1,h2⟩:=yvB I1 r1 ty
 exact ⟨T,id,pa,slot,hty,h1,h2,Calls.callWith_builtin rfl (PySem.evalArgs_none (hm pins s1 σ H1 x [] v [] Q I1 r1 .nil q1))⟩
theorem ywJ (pa:PlainAttrs T) (slot:Slot T name id) (hty:typeOf (.builtin id)=pure (.type "method_descriptor")) (hm:MtR X id r) (ho:PE X o to) (ha:PA X (e::es) t)
  (hbase:attributeBase o name X.env (eval o X.env)=eval o X.env:=by rfl)
  (hfew:((backTo cpos (starEach (e::es) X.env)).all (fun x=>!x.1) && (backToKw cpos (keywordEach [] X.env)).all (fun x=>x.1.isSome)
   && decide ((e::es).length+([]:List Keyword).length+(if ([]:List Keyword).isEmpty then 0 else 1)<30))=true:=by rfl)
  (hline:(apos.endLine == cpos.line)=true:=by rfl) (hs:starEach (e::es) X.env=(false,eval e X.env)::starEach es X.env:=by rfl) (hplain:(backTo cpos (starEach es X.env)).any (·.1)=false:=by rfl) :
  PE X (.Call (.Attribute o name apos) (e::es) [] cpos) (tBM X.K T r to t):=by
 intro pins s σ H Q I h
 refine wpAny_Call_method_late hbase hfew hline rfl (thn (ho pins s σ H _ I h) fun v s1 ⟨x,H1,I1,r1,ty,q1⟩=>?_)
 obtain ⟨h1,h2⟩:=yvB I1 r1 ty
 refine ⟨T,id,pa,slot,hty,h1,h2,?_⟩
 have hA:=ha cpos pins s1 σ H1 _ I1 q1
 rw [hs] at hA ⊢
 refine Calls.callWith_builtin (by show (false || (backTo cpos (starEach es X.env)).any (·.1))=false;rw [hplain]<;>rfl) (Calls.evalArgs_plain ?_)
 exact thn hA fun us s2 ⟨vs,H2,I2,r2,q2⟩=>hm pins s2 σ H2 x vs v us Q I2 r1 r2 q2
end
end L2
namespace L2
open PySem PySem.Spec PyProof.Rows
def MtM (X:Cx) (id:String) (r:V->List V->Hp->VK->Prop):Prop :=
 ∀ (pins:List (Addr×Obj)) (s:Shared) (σ:St) (H:Hp) (x:V) (xs:List V) (v:Value) (us:List Value) (Q:VK),Inv X pins σ H s->RelV x v->Vals xs us->r x xs H Q ->
  wpAny (model X.prog X.w) X.A (call (.builtin id) (v::us)) (EP X pins σ Q) X.xe s
theorem Vals.one:∀ {x:V}{us:List Value},Vals [x] us->∃ u,us=[u]/\RelV x u
 | _,_,.cons r .nil=>⟨_,rfl,r⟩
theorem Vals.zero:∀ {us:List Value},Vals [] us->us=[]
 | _,.nil=>rfl
theorem Vals.dropLast {xs:List V}{us:List Value}(h:Vals xs us):Vals xs.dropLast us.dropLast:=by
 induction h with
 | nil=>exact .nil
 | cons r t ih =>
  cases t with
  | nil=>exact .nil
  | cons q t'=>exact .cons r ih
theorem Vals.rep {xs:List V}{us:List Value}(h:Vals xs us):∀ k:Nat,Vals (replicate k xs).flatten (replicate k us).flatten
 | 0=>.nil
 | k+1=>by
  rw [List.replicate_succ,List.replicate_succ,List.flatten_cons,List.flatten_cons]
  exact Vals.append h (Vals.rep h k)
theorem ypr {α:Type}(l:List α):l.eraseIdx (l.length-1)=l.dropLast:=by
 induction l with
 | nil=>rfl
 | cons a r ih =>
  cases r with
  | nil=>rfl
  | cons b r =>
   have e:(a::b::r).length-1=((b::r).length-1)+1:=by
    have h1:(a::b::r).length=r.length+2:=rfl
    have h2:(b::r).length=r.length+1:=rfl
    omega
   rw [e,List.eraseIdx_cons_succ,ih]
   all_goals rfl
theorem foldl_rep (its:List Value):∀ (k:Nat) (acc:List Value),
  List.foldl (fun x1 x2=>x1++x2) acc.toArray (replicate k its.toArray)=(acc++(replicate k its).flatten).toArray
 | 0,acc=>by simp
 | k+1,acc=>by
  have e:acc.toArray++its.toArray=(acc++its).toArray:=by simp
  have e2:(acc++its)++(replicate k its).flatten=acc++(replicate (k+1) its).flatten:=by
   rw [List.replicate_succ,List.flatten_cons,append_assoc]
  rw [<- e2,<- foldl_rep its k (acc++its),<- e,List.replicate_succ,List.foldl_cons]
section
variable {X:Cx}{pins:List (Addr×Obj)}{σ:St}{H:Hp}{s:Shared}{l b:Addr}{xs ys zs:List V}
theorem Inv.lset {its its':List Value}{n:Nat}{f:Array Value->Array Value}{t':Nat}(I:Inv X pins σ H s) (hH:H l=some (.lst xs))
  (e:s.heap.get? l=some { cls:=.type "list",data:=.seq its.toArray n }) (hf:f its.toArray=its'.toArray) (hv:Vals ys its') (hz:ys.length<=sizeLine) :
  Inv X pins σ (upd H l (.lst ys)) { s with heap:=s.heap.update l (Obj.mapSeq f),toks:=t' }:=by
 have q:=PySem.IsL.update e f
 rw [hf] at q
 refine I.write (x:=l) (e:=l) (by rw [hH];exact trivial) (.inl rfl) (fun b' u hb hu=>(Heap.get?_update_other s.heap (Obj.mapSeq f) (Ne.symm hb)).trans hu) ⟨_,q⟩ ?_
 exact ⟨hz,its',_,hv,q⟩
theorem Inv.lnew {its:List Value}{t':Nat}(I:Inv X pins σ H s) (hv:Vals ys its) (hz:ys.length<=sizeLine) :
  Inv X pins σ (upd H s.heap.objs.size (.lst ys)) { s with heap:=s.heap.push { cls:=.type "list",data:=.seq its.toArray },toks:=t' } :=
 I.laid (fun _ _ q=>Heap.get?_push_of_some _ q) (Nat.le_refl _) ⟨hz,its,0,hv,Heap.get?_push_size _ rfl⟩
theorem Inv.fresh (I:Inv X pins σ H s):H s.heap.objs.size=none:=I.hok.fresh (Nat.le_refl _)
theorem Inv.lstM (I:Inv X pins σ H s) (hH:H l=some (.lst xs)):xs.length<=sizeLine/\∃ (its:List Value) (n:Nat),Vals xs its/\xs.length=its.length/\s.heap.get? l=some { cls:=.type "list",data:=.seq its.toArray n }:=by
 obtain ⟨z,its,n,r,e⟩:=I.hok l _ hH
 exact ⟨z,its,n,r,r.length,e⟩
theorem ynZ {n:Nat}(h:n<=sizeLine):Builtin.List.listTooLong n=false:=by
 unfold Builtin.List.listTooLong
 exact decide_eq_false (by omega)
end
section
variable {X:Cx}
noncomputable def ymF:V->List V->Hp->VK->Prop:=fun x vs H Q=>∃ l xs y,x=.ref l/\vs=[y]/\H l=some (.lst xs)/\xs.length<sizeLine/\Q .non (upd H l (.lst (xs++[y])))
theorem ydD:MtM X "list.append" ymF:=by
 intro pins s σ H x vs v us Q I rx rv h
 obtain ⟨l,xs,y,rfl,rfl,hH,hz,q⟩:=h
 cases rx
 obtain ⟨u,rfl,ru⟩:=rv.one
 obtain ⟨z,its,n,r,hl,e⟩:=I.lstM hH
 refine call_meets F.slot_list_append ⟨_,e,rfl⟩ F.entry_list_append (F.args_list_append_2 _ _) (PySem.list_append l its.toArray n u (by rw [size_toArray];omega)) ⟨e,?_⟩
 refine ⟨.non,_,I.lset (its':=its++[u]) hH e (by simp) (r.append (.cons ru .nil)) ?_,rfl,q⟩
 rw [length_append,List.length_singleton]
 omega
noncomputable def yqD:V->List V->Hp->VK->Prop:=fun x vs H Q=>∃ l b xs zs,x=.ref l/\vs=[.ref b]/\H l=some (.lst xs)/\H b=some (.lst zs)/\xs.length+zs.length<=sizeLine/\Q .non (upd H l (.lst (xs++zs)))
theorem yqE:MtM X "list.extend" yqD:=by
 intro pins s σ H x vs v us Q I rx rv h
 obtain ⟨l,b,xs,zs,rfl,rfl,hH,hB,hz,q⟩:=h
 cases rx
 obtain ⟨u,rfl,ru⟩:=rv.one
 cases ru
 obtain ⟨z,its,n,r,hl,e⟩:=I.lstM hH
 obtain ⟨z2,its2,n2,r2,hl2,e2⟩:=I.lstM hB
 have hsz:its.toArray.size+its2.toArray.size<=sizeLine:=by rw [size_toArray,size_toArray];omega
 have hlong:¬ (!its.toArray.isEmpty && Builtin.List.listTooLong (its.toArray.size+its2.toArray.size))=true:=by
  rw [ynZ hsz,Bool.and_false]
  exact Bool.false_ne_true
 refine call_meets F.slot_list_extend ⟨_,e,rfl⟩ F.entry_list_extend (F.args_list_extend_2 _ _)
  (AutoSeq1.list_extend_list_list_0 l its.toArray n b its2.toArray n2 hlong (by rw [size_toArray];omega) (by omega)) ⟨e,e2,?_⟩
 refine ⟨.non,_,I.lset (its':=its++its2) hH e (by simp) (r.append r2) ?_,rfl,q⟩
 rw [length_append]
 omega
noncomputable def yFk:V->List V->Hp->VK->Prop:=fun x vs H Q=>∃ l xs y,x=.ref l/\vs=[]/\H l=some (.lst xs)/\xs[xs.length-1]?=some y/\Q y (upd H l (.lst xs.dropLast))
theorem yoa:MtM X "list.pop" yFk:=by
 intro pins s σ H x vs v us Q I rx rv h
 obtain ⟨l,xs,y,rfl,rfl,hH,hy,q⟩:=h
 cases rx
 have hus:=rv.zero
 subst hus
 obtain ⟨z,its,n,r,hl,e⟩:=I.lstM hH
 obtain ⟨u,hu,ru⟩:=r.get hy
 have hy':its.toArray[its.toArray.size-1]?=some u:=by
  show its.toArray[its.length-1]?=some u
  rw [<- Array.getElem?_toList,<- hl]
  exact hu
 refine call_meets F.slot_list_pop ⟨_,e,rfl⟩ F.entry_list_pop (F.args_list_pop_1 _) (MeetsSeq.list_pop_last l its.toArray n u hy' (by rw [size_toArray];omega)) ⟨e,?_⟩
 refine ⟨y,_,I.lset (its':=its.dropLast) hH e ?_ r.dropLast ?_,ru,q⟩
 .show its.toArray.eraseIdxIfInBounds (its.toArray.size-1)=its.dropLast.toArray
  rw [size_toArray,List.eraseIdxIfInBounds_toArray,ypr]
 .rw [List.length_dropLast]
  omega
noncomputable def yFl:R2:=fun x y H Q=>∃ l b xs zs,x=.ref l/\y=.ref b/\H l=some (.lst xs)/\H b=some (.lst zs)/\xs.length+zs.length<=sizeLine/\∀ p,H p=none->Q (.ref p) (upd H p (.lst (xs++zs)))
theorem yob:OpR X (binaryOp .Add) yFl:=by
 intro pins s σ H x y v u Q I rx ry h
 obtain ⟨l,b,xs,zs,rfl,rfl,hH,hB,hz,q⟩:=h
 cases rx
 cases ry
 obtain ⟨z,its,n,r,hl,e⟩:=I.lstM hH
 obtain ⟨z2,its2,n2,r2,hl2,e2⟩:=I.lstM hB
 refine PySem.P.add_list e e2 ?_ (by rw [size_toArray,size_toArray];omega)
 have ea:its.toArray++its2.toArray=(its++its2).toArray:=by simp
 rw [ea]
 exact ⟨.ref _,_,I.lnew (t':=s.toks) (r.append r2) (by rw [length_append];omega),rfl,q _ I.fresh⟩
noncomputable def yFm:R2:=fun x y H Q=>∃ l k xs,x=.ref l/\y=.int k/\H l=some (.lst xs)/\-(2 ^ 63)<=k/\k<2 ^ 63/\xs.length*k.toNat<=sizeLine /\
 ∀ p,H p=none->Q (.ref p) (upd H p (.lst (replicate k.toNat xs).flatten))
theorem len_rep {α:Type}(xs:List α) (k:Nat):(replicate k xs).flatten.length=k*xs.length:=by
 induction k with
 | zero=>simp
 | succ k ih=>rw [List.replicate_succ,List.flatten_cons,length_append,ih,Nat.succ_mul,Nat.add_comm]
theorem yqF:OpR X (binaryOp .Mult) yFm:=by
 intro pins s σ H x y v u Q I rx ry h
 obtain ⟨l,k,xs,rfl,rfl,hH,h1,h2,hz,q⟩:=h
 cases rx
 obtain ⟨t,rfl⟩:=ry
 obtain ⟨z,its,n,r,hl,e⟩:=I.lstM hH
 have hlen:its.toArray.size*k.toNat<=sizeLine:=by rw [size_toArray,<- hl];exact hz
 have hcap:¬ its.toArray.size*k.toNat>(2 ^ 63-1)/8:=by
  have:(sizeLine:Nat)<=(2 ^ 63-1)/8:=by decide
  omega
 have hfit:¬ (!Builtin.List.listFitsIndex k)=true:=by
  rw [fitsIndex_both h1 h2]
  exact Bool.false_ne_true
 have hlong:¬ Builtin.List.listTooLong (its.toArray.size*k.toNat)=true:=by
  rw [ynZ hlen]
  exact Bool.false_ne_true
 have hnew:List.foldl (fun x1 x2=>x1++x2) #[] (replicate (if its.toArray.isEmpty=true then 0 else k.toNat) its.toArray)=(replicate k.toNat its).flatten.toArray:=by
  have f0:∀ m:Nat,List.foldl (fun x1 x2=>x1++x2) #[] (replicate m its.toArray)=(replicate m its).flatten.toArray:=fun m=>by
   have:=foldl_rep its m []
   rw [List.nil_append] at this
   exact this
  rw [f0]
  cases its with
  | nil=>simp
  | cons a r'=>rw [if_neg (by simp)]
 refine wpAny_binaryOp_repeat_ref (T:="list") (U:="int") (by decide) ⟨_,e,rfl⟩ (fun s'=>typeIs_int s' k t) noFill_list_mul F.fills_int_mul F.slot_int_rmul repeat_list F.slot_int_index.lookup
  (call_meets F.slot_int_rmul (typeIs_int s k t) F.entry_int_rmul (F.args_int_rmul_2 _ _) (int___rmul___int_list k t l its.toArray n)
   ⟨e,rfl,⟨_,e,rfl⟩,call_meets F.slot_list_mul ⟨_,e,rfl⟩ F.entry_list_mul (F.args_list_mul_2 _ _) (AutoListH.list___mul___list_int_3 l its.toArray n k t hfit hcap hlong) ⟨e,?_⟩⟩)
 rw [hnew]
 exact ⟨.ref _,_,I.lnew (t':=s.toks) (r.rep k.toNat) (by rw [len_rep,Nat.mul_comm];exact hz),rfl,q _ I.fresh⟩
end
section
variable {prog:Program}{w:World}{A:Around}{E:Value->Shared->Prop}{s:Shared}
end
section
variable {X:Cx}
end
end L2
namespace Att
open PySem PySem.W PySem.Calls PyProof.Rows
theorem yhL {P:Params}{h:Heap}:∀ (ns:List Int) (vs:List Value),WellAll P h vs (ns.map WData.int)->IntsAre vs ns:=by
 intro ns
 induction ns with
 | nil =>
  intro vs w
  rw [map_nil] at w
  cases w
  exact .nil
 | cons n ns ih =>
  intro vs w
  rw [map_cons] at w
  cases w with
  | cons a b =>
   cases a
   exact .cons _ _ (ih _ b)
theorem yqG {l:OpenLaw}{n:Nat}(hn:l.most=some n) {P:Params}{h:Heap}{args:List WData}{vals:List Value}
  (hpre:l.row.toRowW.claim.pre args=true) (hwl:WellAll P h vals args) :
  ∃ a vs ns,vals=[Value.ref a]/\args=[WData.list (ns.map WData.int)]/\h.get? a=some { cls:=.type "list",data:=.seq vs.toArray }/\IntsAre vs ns/\ns.length<=n:=by
 have hsh:WShape.hasAll [] args [.list .int]=true:=(pre_splitW hpre).1
 have hc:l.pre.holds [] { args:=args }=true:=(pre_splitW hpre).2
 obtain ⟨d,r,rfl,h1,h2⟩:=hasAllW_cons hsh
 obtain rfl:=hasAllW_nil h2
 obtain ⟨xs,rfl,h3⟩:=hasW_list h1
 obtain ⟨ns,rfl⟩:=items_int h3
 have hlen:ns.length<=n:=by
  unfold OpenLaw.pre at hc
  have h4:(WTm.not (.lt (.lit (.int (n:Int))) (.len (.arg 0)))).holds [] { args:=[.list (ns.map .int)] }=true:=by
   have h4:=(holds_andW hc).1
   rw [hn] at h4
   exact h4
  have h5:=condW_of h4 (w_not (w_lt w_lit (w_len_list (w_arg rfl))))
  rw [length_map] at h5
  refine Nat.le_of_not_lt fun q=>?_
  have q':(n:Int)<((ns.length:Nat):Int):=by omega
  first
   | (rw [decide_eq_true q'] at h5;exact absurd h5 (by decide))
   | (simp at h5;omega)
 cases hwl with
 | cons w1 w2 =>
  cases w2
  cases w1 with
  | list ho hall=>exact ⟨_,_,ns,rfl,rfl,ho,yhL ns _ hall,hlen⟩
theorem yqH (l:OpenLaw) (args:List WData):l.row.toRowW.claim.post args (.bool true) args=true :=
 postW_of (r:=l.row.toRowW) (X:=(true == true))
  (show WShape.has [] (.bool true) .bool=true by first|rfl|decide|simp [WShape.has,WShape.arms,WShape.armsAll])
  (show (WTm.eq .res (.lit (.bool true))).value [] { args:=args,res:=some (.bool true),after:=args }=some (.bool (true == true)) from w_eq_bool (w_res rfl) w_lit) rfl
theorem attach_call {l:OpenLaw}{n:Nat}{q:Program}{loose:List Str}{XP:(Str->Option Value)->Heap->Prop}{YP:World->Heap->Prop}{d:DefRec}
  (hn:l.most=some n) (hdf:d.params.defaults=[])
  (call:∀ (w:World) (s₀ s₁:Shared) (mg mb:Str->Option Value) (fa:Addr) (o:Obj) (pm cd doc:Value) (a:Addr) (vs:List Value) (ns:List Int),
   Ground q loose [] XP w s₀ mg mb s₁.heap->YP w s₁.heap ->
   s₁.heap.get? fa=some o->o.data=.func (docDef d.name d.params d.body d.scope pm cd doc)->s₁.heap.CodeRec cd d.name->mg d.name=some (.ref fa) ->
   s₁.heap.get? a=some { cls:=.type "list",data:=.seq vs.toArray }->IntsAre vs ns->ns.length<=n->s₁.gens = #[] ->
   codeAny (model l.prog w) callerA (.call (.ref fa) ⟨[.ref a],[]⟩) (fun r s'=>r=.ok (.ret (.bool true))/\OldK s₁.heap s'.heap/\s'.os=s₁.os/\AllBare s'.gens) s₁) :
  WalkO q loose XP YP l.row.toRowW d [] (fun f vs=>PySem.call f vs):=by
 intro w s₀ s₁ mg mb G Y fa o pm cd doc dV kV ho hd hcd hD hmg hg args vals as hpre hlay hrd hwl hlo
 obtain rfl:dV=.none:=Dflts.none hD hdf
 obtain rfl:kV=.none:=Dflts.noKw hD
 obtain ⟨a,vs,ns,rfl,rfl,hobj,hints,hlen⟩:=yqG hn hpre hwl
 refine enter_call (codeAny_mono (call w s₀ s₁ mg mb fa o pm cd doc a vs ns G Y ho (fd_plain hd) hcd hmg hobj hints hlen hg) fun r s' hq=>?_)
 obtain ⟨rfl,h2,h3,h4⟩:=hq
 exact ⟨.inl ⟨.bool true,.bool true,[],rfl,fun _=>rfl,.bool true,yqH l _,fun _=>⟨List.Pairwise.nil,fun _ hm=>(nomatch hm)⟩⟩,h2,h3,h4⟩
section
variable {prog:Program}{w:World}{A:Around}{E:Value->Shared->Prop}{s:Shared}{K:Frag}
end
end Att
namespace L2
open PySem PySem.Spec PyProof.Rows
theorem yhM:∀ {vs:List Value}{ns:List Int},IntsAre vs ns->Vals (ns.map V.int) vs
 | _,_,.nil=>.nil
 | _,_,.cons n t h=>.cons ⟨t,rfl⟩ (yhM h)
def yCI (H:Hp):Prop:=∀ b,H b=none\/∃ o xs,H b=some (.frz o (.lst xs))
theorem yts {P:Program}{w:World}{K:PySem.W.Frag}{mg mb:Str->Option Value}{CX:CXT}{k:Nat}{fa a:Addr}{fd:FuncData}{x:Str}{sp:Sp}{s₁:Shared}{vs:List Value}{ns:List Int}
  (KX:K.In s₁.heap) (hns:s₁.heap.Ns mainGlobals mg) (hb:s₁.heap.Ns builtinsNs mb) (hbb:∀ x:Str,x≠"__name__"->mb x=bootBuiltins x) (hlim:s₁.heap.NoLimit) (hg:s₁.gens = #[])
  (ha:s₁.heap.get? a=some { cls:=.type "list",data:=.seq vs.toArray }) (hi:IntsAre vs ns) (hl:ns.length<=sizeLine) (hr:Room k callerA)
  (F:∀ base:Heap,K.In base->base.Ns mainGlobals mg->FnOk P w K mg base CX k fa fd [x] sp) (hbind:∀ (s:Shared) (u:Value),BindsTo s fd ⟨[u],[]⟩ [(x,u)])
  (hsp:∀ H:Hp,yCI H->SqL K H a (ns.map V.int)->sp [.ref a] H (fun v _=>v=.bl true) fun _ _ _=>False)
  (hCX:∀ H e s',CX [] H s₁ (fun _ _ _=>False) e s'->False) :
  codeAny (model P w) callerA (.call (.ref fa) ⟨[.ref a],[]⟩) (fun r s'=>r=.ok (.ret (.bool true))/\OldK s₁.heap s'.heap/\s'.os=s₁.os/\AllBare s'.gens) s₁:=by
 have rv:=yhM hi
 have lenV:=hi.length
 have core:∀ H:Hp,yCI H->SqL K H a (ns.map V.int)->HOk P w H s₁.heap->(∀ b,H b≠none->b=a)->(H a≠none->K.lookup a=none) ->
   codeAny (model P w) callerA (.call (.ref fa) ⟨[.ref a],[]⟩) (fun r s'=>r=.ok (.ret (.bool true))/\OldK s₁.heap s'.heap/\s'.os=s₁.os/\AllBare s'.gens) s₁:=by
  intro H hO hS hok hA hK
  have base_of:∀ {b:Addr}{o:Obj},s₁.heap.get? b=some o->H b=none->(ysY s₁.heap H).get? b=some o:=fun e n=>ysZ e n
  have noA:∀ {b:Addr}{o:Obj}{es:Array DictEntry}{ep:Nat},s₁.heap.get? b=some o->o.data=.dict es ep->H b=none:=fun {b o es ep} e d=>by
   cases q:H b with
   | none=>rfl
   | some u =>
    have e':b=a:=hA b (by rw [q];simp)
    subst e'
    rw [ha] at e;cases e
    have d':Data.seq vs.toArray _=Data.dict es ep:=d
    cases d'
  have nsK:∀ {b:Addr}{m:Str->Option Value},s₁.heap.Ns b m->(ysY s₁.heap H).Ns b m:=fun {b m} ⟨o,es,ep,e,d,r⟩=>⟨o,es,ep,base_of e (noA e d),d,r⟩
  have hKb:K.In (ysY s₁.heap H):=fun b o e=>base_of (KX b o e) (by
   cases q:H b with
   | none=>rfl
   | some u =>
    have e':b=a:=hA b (by rw [q];simp)
    subst e'
    rw [hK (by rw [q];simp)] at e;cases e)
  have hM:Mod K mg (ysY s₁.heap H):=⟨hKb,nsK hns,⟨mb,nsK hb,hbb⟩,let ⟨mc,h1,h2⟩:=hlim;⟨mc,nsK h1,h2⟩⟩
  have e0:Env0 P w K mg (ysY s₁.heap H) callerA [] s₁ H:=⟨rfl,hM,fun b o e=>ywt e,le_of_eq (yqf _ _),trivial,fun b hb=>absurd (show b∈([]:List Addr) from hb) (by simp),hok,.of_eq hg⟩
  refine codeAny_mono ((F _ hKb (nsK hns)).run callerA [] s₁ H ⟨[.ref a],[]⟩ [.ref a] [.ref a] _ _ hr e0 (hbind s₁ (.ref a)) (.cons rfl .nil) (hsp H hO hS)) fun r s' h=>?_
  cases r with
  | error e=>exact (hCX H e s' h).elim
  | ok fl =>
   cases fl with
   | next=>exact False.elim h
   | brk=>exact False.elim h
   | cont=>exact False.elim h
   | ret u =>
    obtain ⟨v,H',os,bare,un,hok',r',q⟩:=h
    have q':v=.bl true:=q
    subst q'
    obtain rfl:u=Value.bool true:=r'
    refine ⟨rfl,OldK.of_keep fun b o e=>?_,os,bare⟩
    cases q:H b with
    | none=>exact un.keep b o e q (by intro z;exact absurd (show b∈([]:List Addr) from z) (by simp)) (by simp)
    | some u =>
     rcases hO b with z|⟨ob,xs,z⟩
     .rw [q] at z;cases z
     .have z2:=un.frzs b ob _ z
      obtain ⟨e1,_⟩:=hok b _ z
      obtain ⟨e2,_⟩:=hok' b _ z2
      rw [e] at e1;cases e1
      exact e2
 cases hk:K.lookup a with
 | some o =>
  have e:=KX a o hk
  rw [ha] at e
  cases e
  refine core (fun _=>none) (fun _=>.inl rfl) (.inr ⟨_,vs.toArray,_,hk,rfl,rfl,rfl,by rw [size_toArray,lenV];exact hl,by simpa using rv⟩) (fun b u z=>by have z':(none:Option HO)=some u:=z;cases z') (fun b z=>absurd rfl z) fun z=>absurd rfl z
 | none =>
  refine core (fun b=>if b=a then some (.frz { cls:=.type "list",data:=.seq vs.toArray } (.lst (ns.map V.int))) else none) (fun b=>?_) (.inl (.inr ⟨{ cls:=.type "list",data:=.seq vs.toArray },if_pos rfl⟩)) (fun b u z=>?_) (fun b z=>?_) fun _=>hk
  .by_cases hb:b=a
   .exact .inr ⟨_,_,if_pos hb⟩
   .exact .inl (if_neg hb)
  .by_cases hb:b=a
   .have z':=(if_pos hb).symm.trans z
    cases z'
    subst hb
    exact ⟨ha,by rw [length_map];exact hl,vs,_,rv,ha⟩
   .have z':=(if_neg hb).symm.trans z
    cases z'
  .by_cases hb:b=a
   .exact hb
   .exact absurd (if_neg hb) z
end L2
namespace L2
open PySem PySem.Spec PyProof.Rows
theorem walk_of {l:PySem.W.OpenLaw}{n k:Nat}{q:Program}{loose:List Str}{XP:(Str->Option Value)->Heap->Prop}{YP:World->Heap->Prop}{d:DefRec}{K:Params->PySem.W.Frag}{CX:World->CXT}{sp:World->Sp}{x:Str}
  (hn:l.most=some n) (hn2:n<=sizeLine) (hdf:d.params.defaults=[]) (hr:Room k callerA)
  (hY:∀ (w:World) (h:Heap),YP w h->(K w.params).In h)
  (F:∀ (w:World) (mg:Str->Option Value) (fa:Addr) (h:Heap),(K w.params).In h->h.Ns mainGlobals mg->mg d.name=some (.ref fa) ->
   ∃ fd:FuncData,(∀ (s:Shared) (u:Value),BindsTo s fd ⟨[u],[]⟩ [(x,u)]) /\
    ∀ base:Heap,(K w.params).In base->base.Ns mainGlobals mg->FnOk l.prog w (K w.params) mg base (CX w) k fa fd [x] (sp w))
  (hsp:∀ (w:World) (H:Hp) (a:Addr) (ns:List Int),ns.length<=n->yCI H->SqL (K w.params) H a (ns.map V.int)->sp w [.ref a] H (fun v _=>v=.bl true) fun _ _ _=>False)
  (hCX:∀ (w:World) (H:Hp) (s:Shared) (e:Value) (s':Shared),CX w [] H s (fun _ _ _=>False) e s'->False) :
  PySem.W.WalkO q loose XP YP l.row.toRowW d [] (fun f vs=>PySem.call f vs):=by
 refine Att.attach_call hn hdf fun w s₀ s₁ mg mb fa o pm cd doc a vs ns G Y ho hd hcd hmg hobj hints hlen hg=>?_
 have KX:=hY w _ Y
 obtain ⟨fd,hb,hF⟩:=F w mg fa _ KX G.T.g hmg
 exact yts KX G.T.g G.T.b G.T.builtins G.T.nolimit hg hobj hints (Nat.le_trans hlen hn2) hr hF hb (fun H hO hS=>hsp w H a ns hlen hO hS) fun H e s'=>hCX w H s₁ e s'
end L2
namespace L2
open PySem PySem.Spec PyProof.Rows
noncomputable def inClass (s:Stmt) (j:Nat):Stmt:=match s with
 | .ClassDef _ _ _ body _ _ _ _ _ _ _=>body.getD j (.Pass ⟨0,0,0,0⟩)
 | _=>.Pass ⟨0,0,0,0⟩
noncomputable def ymG (s:Stmt):Arguments:=match s with
 | .FunctionDef _ a _ _ _ _ _ _ _ _=>a
 | _=>{ posonlyargs:=[],args:=[],vararg:=none,kwonlyargs:=[],kw_defaults:=[],kwarg:=none,defaults:=[] }
def yfM (s:Stmt):List Stmt:=match s with
 | .FunctionDef _ _ b _ _ _ _ _ _ _=>b
 | _=>[]
noncomputable def ybz (s:Stmt):Scope:=match s with
 | .FunctionDef _ _ _ _ _ _ sc _ _ _=>sc
 | _=>{ kind:=.function,names:=[],isGenerator:=false,isCoroutine:=false }
abbrev CX0:CXT:=fun _ _ _ _ _ _=>False
abbrev E0:XK:=fun _ _ _=>False
theorem ylk {X:Cx}:yge CX0 X E0:=fun _ _ _ _ _ _ _ h=>h.elim
structure Fun (K:PySem.W.Frag) (x qual:Str) (st:Stmt) (f:Addr) (fd:FuncData):Prop where
 ex:∃ (oc:Value) (od:Option Addr) (kV doc pm:Value) (an:Option Addr) (cdv ct:Value) (osl:Array (Option Value)),
  fd=fnOf x qual (ymG st) (yfM st) (ybz st) .none kV doc pm an cdv ct/\K.lookup f=some ⟨oc,od,.func fd,osl⟩/\codeIn K cdv qual=true
 kp:keepIn K (.ref f)=true
section
variable {P:Program}{w:World}{K:PySem.W.Frag}{mg:Str->Option Value}{base:Heap}
theorem Fun.ok {x qual:Str}{st:Stmt}{f:Addr}{fd:FuncData}{N ps:List Str}{k:Nat}{sp:Sp}(F:Fun K x qual st f fd) (S:yev N ps (ybz st)) (len:∀ vs H Q E,sp vs H Q E->vs.length=ps.length)
  (hbody:∀ (cdv:Value) (A:Around) (outer:List Env) (s:Shared) (H:Hp) (vs:List V) (Q:VK) (E:XK),Room k (A.deeper (envOfC qual (ybz st) s.heap.objs.size f cdv))->sp vs H Q E ->
   ∃ t,PSs (ytq CX0 P w K mg base N qual (ybz st) f cdv A outer s H E).nox (yfM st) t/\t { nx:=fun _ H'=>Q .non H',rt:=Q } (start N vs) H):FnOk P w K mg base CX0 (k+1) f fd ps sp:=by
 obtain ⟨oc,od,kV,doc,pm,an,cdv,ct,osl,rfl,lk,hcd⟩:=F.ex
 refine yCF lk hcd S len fun A outer s H vs Q E hr hsp=>?_
 obtain ⟨t,h,q⟩:=hbody cdv A outer s H vs Q E hr hsp
 exact ⟨t,h.nox,q⟩
theorem fun_mk {x qual:Str}{st:Stmt}{f:Addr}{oc:Value}{od an:Option Addr}{osl:Array (Option Value)}{kV doc pm cdv ct:Value}(l:K.lookup f=some ⟨oc,od,.func (fnOf x qual (ymG st) (yfM st) (ybz st) .none kV doc pm an cdv ct),osl⟩)
  (c:codeIn K cdv qual=true) (k:keepIn K (.ref f)=true):Fun K x qual st f (fnOf x qual (ymG st) (yfM st) (ybz st) .none kV doc pm an cdv ct):=⟨⟨oc,od,kV,doc,pm,an,cdv,ct,osl,rfl,l,c⟩,k⟩
end
theorem ywK {A:Around}{k:Nat}(hr:Room k A):A.units+1<cLine:=Nat.lt_of_le_of_lt (Nat.add_le_add_left (by decide:1<=64) _) hr.units
theorem yll {n:Nat}(h:n<=1000):n<sizeLine:=Nat.lt_of_le_of_lt h (by decide)
section
variable {X:Cx}
end
def Same (H H':Hp):Prop:=∀ b o,H b=some o->H' b=some o
theorem Same.refl (H:Hp):Same H H:=fun _ _ h=>h
theorem Same.trans {H H1 H2:Hp}(a:Same H H1) (b:Same H1 H2):Same H H2:=fun c o h=>b c o (a c o h)
theorem Same.free {H H':Hp}(e:Same H H') {l:Addr}(h:H' l=Option.none):H l=Option.none:=by
 cases q:H l with
 | none=>rfl
 | some o =>
  rw [e l o q] at h
  cases h
theorem Same.seq {K:PySem.W.Frag}{H H':Hp}{a:Addr}{xs:List V}(e:Same H H') (h:SqL K H a xs):SqL K H' a xs:=by
 rcases h with (h|⟨o,h⟩)|h
 .exact .inl (.inl (e _ _ h))
 .exact .inl (.inr ⟨o,e _ _ h⟩)
 .exact .inr h
end L2
namespace L2
open PySem PySem.Spec PyProof.Rows
def cV:V->Option Value
 | .ty n=>some (.type n)
 | .ref a=>some (.ref a)
 | _=>none
def IsI (K:PySem.W.Frag) (H:Hp) (x c:V) (b:Bool):Prop:=∃ t u,ynW K H x t/\cV c=some u/\PySem.W.kitOne K t u=some b
theorem ymH {K:PySem.W.Frag}{H:Hp}{i:Int}:IsI K H (.int i) (.ty "int") true:=⟨_,_,.int i,rfl,by with_unfolding_all rfl⟩
theorem ylm {K:PySem.W.Frag}{H:Hp}{i:Int}:IsI K H (.int i) (.ty "bool") false:=⟨_,_,.int i,rfl,by with_unfolding_all rfl⟩
theorem ymI {K:PySem.W.Frag}{H:Hp}:IsI K H .non (.ty "int") false:=⟨_,_,.non,rfl,by with_unfolding_all rfl⟩
theorem ymJ {K:PySem.W.Frag}{H:Hp}{i:Bool}:IsI K H (.bl i) (.ty "bool") true:=⟨_,_,.bl i,rfl,by with_unfolding_all rfl⟩
theorem ymK {K:PySem.W.Frag}{H:Hp}{i:Str}:IsI K H (.str i) (.ty "str") true:=⟨_,_,.str i,rfl,by with_unfolding_all rfl⟩
theorem yln {K:PySem.W.Frag}{H:Hp}{a:Addr}{xs:List V}(e:H a=some (.lst xs)):IsI K H (.ref a) (.ty "list") true:=⟨_,_,.lst e,rfl,by with_unfolding_all rfl⟩
theorem str_len {v:Int}(h0:0<=v) {k:Nat}(hk:0<k) (h:v<10 ^ k):(Str.ofString (toString v)).length<=k:=toString_length_le h0 hk h
end L2
namespace L2
open PySem
abbrev yCJ:R2:=rI0 fun i j=>.int (i+j)
abbrev yCK:R2:=rI0 fun i j=>.int (i-j)
abbrev yCL:R2:=rI CMul fun i j=>.int (i*j)
abbrev yCM:R2:=rI yFc fun i j=>.int (i/j)
abbrev yCN:R2:=rI (fun _ j=>0<j) fun i j=>.int (i%j)
abbrev yCO:R2:=rI yCC fun i j=>.int (i ^ j.toNat)
abbrev yFJ:R2:=rI0 fun i j=>.bl (decide (i<j))
abbrev yFK:R2:=rI0 fun i j=>.bl (decide (i<=j))
abbrev yFL:R2:=rI0 fun i j=>.bl (decide (j<i))
abbrev yFM:R2:=rI0 fun i j=>.bl (decide (j<=i))
abbrev yCP:V->Hp->VK->Prop:=rU fun i=>.int (-i)
def yCQ:R2:=fun x y H Q=>∃ i j,x=.str i/\y=.str j/\i.length+j.length<=sizeLine/\Q (.str (i++j)) H
def yFN:R2:=fun x y H Q=>y=.non/\Q (.bl (decide (x=.non))) H
def yCR:R2:=fun x y H Q=>y=.non/\Q (.bl (!decide (x=.non))) H
def yCS:List V->Hp->VK->Prop:=fun xs H Q=>∃ z,xs=[.str z]/\z.length<=sizeLine/\Q (.int z.length) H
def yzK (K:PySem.W.Frag):List V->Hp->VK->Prop:=fun xs H Q=>∃ p ys,xs=[.ref p]/\(SqL K H p ys\/SqT K H p ys)/\Q (.int ys.length) H
def yCT:List V->Hp->VK->Prop:=fun xs H Q=>∃ i,xs=[.int i]/\i.natAbs.log2<1920/\Q (.str (toString i)) H
def yFn (K:PySem.W.Frag):List V->Hp->VK->Prop:=fun xs H Q=>∃ x c b,xs=[x,c]/\IsI K H x c b/\Q (.bl b) H
theorem ydP {H:Hp}{p:Addr}(h:H p=none) (o:HO):Same H (upd H p o):=fun b u q=>by rw [yF (ybr q h)];exact q
section
variable {K:PySem.W.Frag}{σ:St}{H:Hp}{Q:VK}{ta tb tc:TE}{tA tB':TT}{t u:TS}{D:Ends}
theorem w_not {Q:Bool->Hp->Prop}:yCv tA σ H Q=tA σ H fun c H1=>Q (!c) H1:=rfl
end
end L2
namespace L2
open PySem
def ywL (cs:List Nat):Int:=cs.foldl (fun (a:Int) (c:Nat)=>a*10+((c:Int)-48)) 0
noncomputable def yzL:List V->Hp->VK->Prop:=fun xs H Q=>∃ x:Str,xs=[.str x]/\x.cps.toList≠[]/\(∀ c∈x.cps.toList,48<=c/\c<=57)/\x.length<=640/\Q (.int (ywL x.cps.toList)) H
def yFo:R2:=fun x y H Q=>∃ (c:Nat) (j:Str),x=.str ⟨#[c]⟩/\y=.str j/\Q (.bl (decide (c∈j.cps.toList))) H
noncomputable def yqI:V->List V->Hp->VK->Prop:=fun x vs H Q=>∃ (z:Str) (c:Nat),x=.str z/\vs=[.str ⟨#[c]⟩]/\z.length<=1000/\c∈z.cps.toList/\Q (.int (z.cps.toList.idxOf c)) H
noncomputable def yFp:List V->Hp->VK->Prop:=fun xs H Q=>∃ (p:Addr) (bs:List Bool),xs=[.ref p]/\H p=some (.lst (bs.map V.bl))/\Q (.bl (bs.all id)) H
noncomputable def yFq:List V->Hp->VK->Prop:=fun xs H Q=>∃ (p:Addr) (ns:List Int),xs=[.ref p]/\H p=some (.lst (ns.map V.int))/\Q (.int ns.sum) H
def ywM (K:PySem.W.Frag):List V->Hp->VK->Prop:=fun xs H Q=>∃ p ys,xs=[.ref p]/\(SqL K H p ys\/SqT K H p ys)/\∀ l,H l=none->Q (.ref l) (upd H l (.lst ys))
noncomputable def Its (z:Str):It:=⟨fun i _=>i<z.length,fun i H x H'=>H'=H/\∃ c,z.cps.toList[i]?=some c/\x=.str ⟨#[c]⟩,fun i _=>i=z.length⟩
def yFr (ta:TE):TI:=fun σ H R=>ta σ H fun x H1=>∃ z,x=.str z/\z.length<=sizeLine/\R (Its z) H1
noncomputable def yCU (J:It) (te:TE) (inn:V->St) (D:Addr) (Q:VK) (H:Hp):Prop:=∃ W:Nat->Nat->Hp->Prop,(∃ m,W 0 m H)/\∀ i m H,W i m H ->
 (J.stop i H/\Q (.ref D) H)\/(J.go i H/\∀ x H',J.yld i H x H'->te (inn x) H' fun y H2=>∃ acc,H2 D=some (.lst acc)/\acc.length<sizeLine/\∃ m',m'<m/\W (i+1) m' (upd H2 D (.lst (acc++[y]))))
def inner (ix:List Nat) (σ:St) (x:V):St:=some x::ix.map fun i=>(σ[i]?).getD none
def yps (wi:TI) (ix:List Nat) (te:TE):TE:=fun σ H Q=>wi σ H fun J H1=>∀ D,H1 D=none->yCU J te (inner ix σ) D Q (upd H1 D (.lst []))
section
variable {K:PySem.W.Frag}{σ:St}{H:Hp}{Q:VK}{ta tb tc:TE}{tA tB':TT}{t u:TS}{D:Ends}
end
end L2
namespace L2
open PySem
def yvD (C:Addr):TE:=fun _ H Q=>∀ x dx,H x=none->H dx=none->dx≠x->Q (.ref x) (upd (upd H dx (.own x)) x (.ins C dx []))
noncomputable def yvE {κ:Type}(A:κ->Addr) (m:Str) (sp:κ->Sp) (ta:TE):TE:=fun σ H Q=>ta σ H fun x H1=>∃ a k dx fs,x=.ref a/\H1 a=some (.ins (A k) dx fs)/\fs.lookup m=none/\sp k [x] H1 Q E0
theorem yCV {k:Str}{v:V}{r:List (Str×V)}:List.lookup k ((k,v)::r)=some v:=by simp [List.lookup]
theorem yzM {k k':Str}{v:V}{r:List (Str×V)}(h:¬ k=k'):List.lookup k ((k',v)::r)=List.lookup k r:=by
 have:(k == k')=false:=by simpa using h
 simp [List.lookup,this]
section
variable {K:PySem.W.Frag}{σ:St}{H:Hp}{Q:VK}{ta tb tc:TE}{t u:TS}{D:Ends}
end
end L2
namespace L2
open PySem PySem.Builtin PySem.Builtin.Str
theorem at_one {z:Str}{c i:Nat}:StrLaws.At z ⟨#[c]⟩ z.length i ↔ z.cps.toList[i]?=some c:=by
 unfold StrLaws.At subAt
 have e1:(⟨#[c]⟩:Str).length=1:=rfl
 rw [e1]
 have e2:(z.cps.extract i (i+1) == (⟨#[c]⟩:Str).cps)=true ↔ z.cps.extract i (i+1) = #[c]:=by simp
 rw [e2]
 constructor
 .rintro ⟨h1,h2⟩
  have h3:(z.cps.extract i (i+1)).toList=[c]:=by rw [h2]
  rw [Array.toList_extract,List.extract_eq_take_drop] at h3
  have h4:((z.cps.toList.drop i).take (i+1-i))[0]?=some c:=by rw [h3];rfl
  rw [List.getElem?_take_of_lt (by omega),List.getElem?_drop] at h4
  simpa using h4
 .intro h
  obtain ⟨hlt,hc⟩:=List.getElem?_eq_some_iff.mp h
  have hl:i<z.length:=by simpa [Str.length] using hlt
  refine ⟨by omega,?_⟩
  apply Array.ext'
  rw [Array.toList_extract,List.extract_eq_take_drop]
  have e:i+1-i=1:=by omega
  rw [e,List.drop_eq_getElem_cons hlt,hc]
  rfl
theorem yqJ (z:Str) (c:Nat):(occurrences z ⟨#[c]⟩ 0 z.length 1=[]/\c∉z.cps.toList)\/∃ r,occurrences z ⟨#[c]⟩ 0 z.length 1=z.cps.toList.idxOf c::r/\c∈z.cps.toList:=by
 rcases StrLaws.occ_head z ⟨#[c]⟩ 1 (Nat.le_refl _) with ⟨h1,h2⟩|⟨i,r,h1,h2,h3⟩
 .refine .inl ⟨h1,fun hc=>?_⟩
  obtain ⟨i,hi,e⟩:=getElem_of_mem hc
  exact h2 i (at_one.mpr (List.getElem?_eq_some_iff.mpr ⟨hi,e⟩))
 .have hi:=at_one.mp h2
  obtain ⟨hlt,hc⟩:=List.getElem?_eq_some_iff.mp hi
  have hm:c∈z.cps.toList:=mem_of_getElem? hi
  refine .inr ⟨r,?_,hm⟩
  have hj:z.cps.toList.idxOf c<z.cps.toList.length:=List.idxOf_lt_length_of_mem hm
  have hg:z.cps.toList[z.cps.toList.idxOf c]?=some c:=by
   rw [List.getElem?_eq_getElem hj,List.getElem_idxOf hj]
  have e:i=z.cps.toList.idxOf c:=by
   rcases Nat.lt_trichotomy i (z.cps.toList.idxOf c) with h|h|h
   .exact absurd hc (by
     have:=List.not_of_lt_findIdx (p:=(· == c)) (xs:=z.cps.toList) (i:=i) (by simpa [idxOf] using h)
     simpa using this)
   .exact h
   .exact absurd (at_one.mpr hg) (h3 _ h)
  rw [h1,e]
end L2
namespace L2
open PySem PySem.Spec PyProof.Rows
theorem yct {env:Env}(y:Str):∀ names:List (Str×NameKind),
  (names.map fun (n,k)=>if (k == NameKind.free && env.scope.kind == .function && env.kindOf n == some .cell) then (n,NameKind.cell) else (n,k)).lookup y
   = (names.lookup y).map fun k=>if (k == NameKind.free && env.scope.kind == .function && env.kindOf y == some .cell) then NameKind.cell else k
 | []=>rfl
 | (n,k)::r=>by
  have ih:=yct (env:=env) y r
  show List.lookup y ((if (k == NameKind.free && env.scope.kind == .function && env.kindOf n == some .cell)=true then (n,NameKind.cell) else (n,k))::_)=_
  cases hx:y == n with
  | true =>
   have e:y=n:=eq_of_beq hx
   subst e
   by_cases hc:(k == NameKind.free && env.scope.kind == .function && env.kindOf y == some .cell)=true
   .rw [if_pos hc]
    simp only [lookup_cons,hx,map_some,if_pos hc]
   .rw [if_neg hc]
    simp only [lookup_cons,hx,map_some,if_neg hc]
  | false =>
   by_cases hc:(k == NameKind.free && env.scope.kind == .function && env.kindOf n == some .cell)=true
   .rw [if_pos hc];simp only [lookup_cons,hx];exact ih
   .rw [if_neg hc];simp only [lookup_cons,hx];exact ih
theorem ydQ {env:Env}:∀ (names:List (Str×NameKind)) (cs:List (Str×Addr)),(∀ n,(n,NameKind.free)∈names->∃ c,env.cells.lookup n=some c) ->
  ∃ cl,(forIn names cs (fun (x:Str×NameKind) (r:List (Str×Addr))=>if (x.2 == NameKind.free)=true then do let c <- cellOf env x.1;pure (ForInStep.yield ((x.1,c)::r)) else pure (ForInStep.yield r)):Sem (List (Str×Addr)))=pure cl /\
   (∀ y,(y,NameKind.free)∈names->cl.lookup y=env.cells.lookup y)/\(∀ y,(y,NameKind.free)∉names->cl.lookup y=cs.lookup y)
 | [],cs,_=>⟨cs,rfl,fun y h=>by simp at h,fun y _=>rfl⟩
 | (n,k)::r,cs,h=>by
  by_cases hk:k=.free
  .subst hk
   obtain ⟨c,hc⟩:=h n mem_cons_self
   obtain ⟨cl,e,h1,h2⟩:=ydQ r ((n,c)::cs) fun y hy=>h y (mem_cons_of_mem _ hy)
   refine ⟨cl,?_,fun y hy=>?_,fun y hy=>?_⟩
   .rw [List.forIn_cons]
    have e0:cellOf env n=pure c:=by unfold cellOf;rw [hc]
    simp only [beq_self_eq_true,if_true,e0,pure_bind]
    exact e
   .by_cases hr:(y,NameKind.free)∈r
    .exact h1 y hr
    .rw [h2 y hr]
     rcases mem_cons.mp hy with z|z
     .cases z
      rw [hc];simp [List.lookup]
     .exact absurd z hr
   .have hr:(y,NameKind.free)∉r:=fun z=>hy (mem_cons_of_mem _ z)
    rw [h2 y hr]
    have hn:(y == n)=false:=by
     cases e:y == n with
     | false=>rfl
     | true=>exact absurd (by rw [eq_of_beq e];exact mem_cons_self) hy
    simp [List.lookup,hn]
  .obtain ⟨cl,e,h1,h2⟩:=ydQ r cs fun y hy=>h y (mem_cons_of_mem _ hy)
   have hb:(k == NameKind.free)=false:=by simpa using hk
   refine ⟨cl,?_,fun y hy=>?_,fun y hy=>?_⟩
   .rw [List.forIn_cons]
    simp only [hb,Bool.false_eq_true,if_false,pure_bind]
    exact e
   .rcases mem_cons.mp hy with z|z
    .cases z;exact absurd rfl hk
    .exact h1 y z
   .exact h2 y fun z=>hy (mem_cons_of_mem _ z)
noncomputable def cxC (X:Cx) (scope:Scope) (cl:List (Str×Addr)) (C:Addr) (N:List Str) (s₃:Shared) (H₃:Hp) (fp:List Addr) (pins:List (Addr×Obj)):Cx :=
 { prog:=X.prog,w:=X.w,K:=X.K,mg:=X.mg,base:=X.base,A:=X.A,N:=N,s₀:=s₃,H₀:=H₃,env:=compEnvC scope cl C X.env,outer:=X.stack,stack:=X.stack,ex:=fp,fn:=fun _=>false,calm:=X.calm,pn:=X.pn++pins,xe:=fun _ _=>False }
noncomputable def FrOk (X:Cx) (scope:Scope):List Nat->List Str->Prop
 | [],[]=>True
 | i::is,y::ys=>X.N[i]?=some y/\scope.names.lookup y=some .free/\X.env.kindOf y=some .cell/\FrOk X scope is ys
 | _,_=>False
theorem FrOk.len {X:Cx}{scope:Scope}:∀ {is:List Nat}{ys:List Str},FrOk X scope is ys->is.length=ys.length
 | [],[],_=>rfl
 | _::is,_::ys,h=>by rw [length_cons,length_cons,FrOk.len h.2.2.2]
theorem FrOk.get {X:Cx}{scope:Scope}:∀ {is:List Nat}{ys:List Str}{j:Nat}{y:Str},FrOk X scope is ys->ys[j]?=some y->∃ i,is[j]?=some i/\X.N[i]?=some y/\scope.names.lookup y=some .free/\X.env.kindOf y=some .cell
 | [],[],_,_,_,e=>by simp at e
 | [],_::_,_,_,h,_=>h.elim
 | _::_,[],_,_,h,_=>h.elim
 | i::is,z::ys,0,y,h,e=>by
  simp at e
  subst e
  exact ⟨i,rfl,h.1,h.2.1,h.2.2.1⟩
 | i::is,z::ys,j+1,y,h,e=>by
  obtain ⟨k,h1,h2⟩:=FrOk.get (j:=j) h.2.2.2 (by simpa using e)
  exact ⟨k,by simpa using h1,h2⟩
end L2
namespace L2
open PySem PySem.Spec PyProof.Rows
theorem ytt {P:Program}{w:World}{K:PySem.W.Frag}{tg:Expr}{ty:String}(hty:ty = "str_ascii_iterator"\/ty = "str_iterator") (z:Str) (t:Tok) (it:Addr):Turn P w K tg (Its z) [it] it (fun i h=>h.IsStrIter it ty z t i) where
 mem:=by simp
 obj:=fun i h st b hb=>by
  have e:b=it:=by simpa using hb
  subst e
  obtain ⟨o,e,c,d⟩:=st
  exact ⟨o,e,fun v q=>by rw [d] at q;cases q⟩
 keep:=fun i h h' st k=>by
  obtain ⟨o,e,c,d⟩:=st
  exact ⟨o,k it (by simp) o e,c,d⟩
 item:=by
  intro X hP hw hK hc i pins s σ H E I hf st hg
  subst hP hw hK
  obtain ⟨f0,f1,f2,f3,f4,f5⟩:=hf it (by simp)
  have hg:i<z.length:=hg
  obtain ⟨ch,hz⟩:∃ ch,z.cps[i]?=some ch:=⟨_,Array.getElem?_eq_getElem (show i<z.cps.size from hg)⟩
  have fin:∀ h',h'.IsStrIter it ty z t (i+1)->Heap.SameBut it s.heap h'->∃ u,some (Value.str ⟨#[ch]⟩ s.toks)=some u /\
    wpAny (model X.prog X.w) X.A (letOwnedTupleGo tg (.ref it) u) (fun _ s2=>∃ x H',Inv X pins σ H' s2/\RelV x u/\(Its z).yld i H x H'/\s2.heap.IsStrIter it ty z t (i+1)/\∀ b∈[it],H' b=none) E { s with heap:=h',toks:=s.toks+1 }:=fun h' st' sb=>by
   have I1:Inv X pins σ H { s with heap:=h',toks:=s.toks+1 }:=I.turned (t':=s.toks+1) (fun b o hb e=>(sb.2 b hb).trans e) f0 f1 f3 f4 f5
   obtain ⟨o,e,c,d⟩:=id st'
   refine ⟨_,rfl,yqk (s:={ s with heap:=h',toks:=s.toks+1 }) e c d (by rcases hty with rfl|rfl<;>decide) ⟨.str ⟨#[ch]⟩,H,I1,⟨_,rfl⟩,⟨rfl,_,by simpa using hz,rfl⟩,st',fun b hb=>(hf b hb).1⟩⟩
  rcases hty with rfl|rfl
  .exact wpAny_pyNext_ascii_item st hz fun h' st' sb=>fin h' st' sb
  .exact wpAny_pyNext_wide_item st hz fun h' st' sb=>fin h' st' sb
 done:=by
  intro X hP hw hK hc i pins s σ H E I hf st hg
  subst hP hw hK
  obtain ⟨f0,f1,f2,f3,f4,f5⟩:=hf it (by simp)
  have hg:i=z.length:=hg
  have hz:z.cps[i]?=none:=by simp [hg,Str.length]
  rcases hty with rfl|rfl
  .exact wpAny_pyNext_ascii_end (I.ok.hd hc) st hz fun h' eb=>⟨rfl,I.turned (t':=s.toks) (fun b o hb e=>eb b o hb e) f0 f1 f3 f4 f5⟩
  .exact wpAny_pyNext_wide_end (I.ok.hd hc) st hz fun h' eb=>⟨rfl,I.turned (t':=s.toks) (fun b o hb e=>eb b o hb e) f0 f1 f3 f4 f5⟩
 self:=fun _ _ _ _ _ st h=>by
  rcases hty with rfl|rfl
  .exact wpAny_pyIter_striter_ascii st h
  .exact wpAny_pyIter_striter_wide st h
section
variable {X:Cx}{tg:Expr}
theorem yzN {l:Expr}{tl:TE}(hl:PE X l tl):PI X tg l (yFr tl):=by
 intro pins s σ H R I h
 refine thn (hl pins s σ H _ I h) fun v s1 ⟨x,H1,I1,r1,q1⟩=>?_
 obtain ⟨z,e,hz,q⟩:=q1
 subst e
 obtain ⟨t,rfl⟩:=r1
 have fin:∀ ty,(ty = "str_ascii_iterator"\/ty = "str_iterator")->PIE X pins σ tg R (.ref s1.heap.objs.size) { s1 with heap:=s1.heap.push { cls:=.type ty,data:=.fields #[.str z t,.int 0 0] } }:=fun ty hty=>by
  refine ⟨s1.heap.objs.size,[s1.heap.objs.size],_,_,H1,rfl,I1.kept (t':=s1.toks) fun b o e=>Heap.get?_push_of_some _ e,ytt hty z t _,⟨_,Heap.get?_push_size _ rfl,rfl,rfl⟩,fun b hb=>?_,q⟩
  have e:b=s1.heap.objs.size:=by simpa using hb
  subst e
  exact I1.fpOk (Nat.le_refl _) (I1.hok.fresh (Nat.le_refl _))
 cases ha:z.cps.all (· < 128)
 .exact wpAny_pyIter_wide ha (fin _ (.inr rfl))
 .exact wpAny_pyIter_ascii ha (fin _ (.inl rfl))
theorem yjT:∀ {bs:List Bool}{us:List Value},Vals (bs.map V.bl) us->us=bs.map Value.bool
 | [],_,.nil=>rfl
 | b::bs,_,.cons r t=>by rw [show _=Value.bool b from r,yjT t];rfl
theorem yoc (hc:X.calm=true):yfK X (.builtin "all") yFp:=by
 intro pins s σ H xs us Q I r h
 obtain ⟨p,bs,rfl,hp,q⟩:=h
 obtain ⟨u,rfl,rx⟩:=vals1 r
 cases rx
 obtain ⟨its,n,rv,e,hz⟩:=I.lst hp
 have eb:=yjT rv
 subst eb
 have hl:s.heap.IsList p (bs.map Value.bool).toArray:=⟨_,e,rfl,n,rfl⟩
 have hlt:p<s.heap.objs.size:=Heap.lt_size e
 refine call_all_walk (wpAny_pyIter_list hl ?_)
 refine ⟨s.heap.objs.size,[s.heap.objs.size,p],[s.heap.objs.size],(bs.map Value.bool).toArray.size,_,_,fun i=>(bs[i]?).getD true,rfl,Walks.list (A:=X.A.in1) (I.ok.hd hc) _ p (ne_of_lt hlt) _,
  ⟨⟨_,Heap.get?_push_size _ rfl,rfl,rfl⟩,hl.push _⟩,fun i v s' Q' E' hP hQ=>?_,fun h' tk hk=>?_⟩
 .have hP:(bs.map Value.bool)[i]?=some v:=by simpa using hP
  rw [getElem?_map] at hP
  cases eb:bs[i]? with
  | none=>rw [eb] at hP;cases hP
  | some b =>
   rw [eb] at hP
   cases hP
   simp only [eb,Option.getD_some] at hQ
   exact wpAny_truthy_bool hQ
 .have ea:((List.range (bs.map Value.bool).toArray.size).all fun i=>(bs[i]?).getD true)=bs.all id:=by
   rw [size_toArray,length_map]
   exact LSm.range_all bs
  rw [ea]
  exact ⟨.bl _,H,I.kept (t':=tk) fun b o eo=>hk b o (fun hm=>by rw [List.mem_singleton.mp hm] at eo;exact absurd (Heap.lt_size eo) (lt_irrefl _)) (Heap.get?_push_of_some _ eo),rfl,q⟩
theorem ytu (hc:X.calm=true):yfK X (.builtin "sum") yFq:=by
 intro pins s σ H xs us Q I r h
 obtain ⟨p,ns,rfl,hp,q⟩:=h
 obtain ⟨u,rfl,rx⟩:=vals1 r
 cases rx
 obtain ⟨its,n,rv,e,hz⟩:=I.lst hp
 have hi:IntsAre its ns:=intsAre_of rv
 have hl:s.heap.IsList p its.toArray:=⟨_,e,rfl,n,rfl⟩
 obtain ⟨xs,hx⟩:=hi.allInts.items
 have hl':s.heap.IsList p (intItems xs):=hx ▸ hl
 refine sum_intListG (I.ok.hd hc) hl' fun h' tk t' hk=>?_
 have e1:ns=xs.toList.map (·.1):=by
  rw [<- nums_intItems,<- hx]
  exact (show numsOf its.toArray.toList=ns from hi.numsOf).symm
 have e2:preSum (numAt xs) xs.size=ns.sum:=by
  rw [preSum_eq,List.take_of_length_le (by simp),e1]
 rw [e2]
 exact ⟨.int ns.sum,H,I.kept (t':=tk) hk,⟨_,rfl⟩,q⟩
theorem ylo:OpR X (compareOp .In) yFo:=by
 intro pins s σ H x y v u Q I rx ry h
 obtain ⟨c,j,rfl,rfl,q⟩:=h
 refine yqu pins s σ H _ _ v u Q I rx ry ⟨_,_,rfl,rfl,?_⟩
 have e:(!(Builtin.Str.occurrences j ⟨#[c]⟩ 0 j.length 1).isEmpty)=decide (c∈j.cps.toList):=by
  rcases yqJ j c with ⟨h1,h2⟩|⟨r,h1,h2⟩
  .rw [h1];simp [h2]
  .rw [h1];simp [h2]
 rw [e]
 exact q
theorem ytv {C:Addr}{x:Str}{p pos:Pos}(hm:makesIn X.K C=true) (hi:findIn X.K (.ref C) "__init__" = some (some (.builtin "object.__init__"))) (hk:keepIn X.K (.ref C)=true)
  (hg:Gl X x) (hmg:X.mg x=some (.ref C)) (hdb:(x == ("__debug__":Str))=false:=by decide):PE X (.Call (.Name x p) [] [] pos) (yvD C):=by
 intro pins s σ H Q I h
 refine wpAny_Call_Name_kw (yhG I hg hmg ?_ hdb)
 refine PySem.W.callWith_K0 I.kIn hk (wpAny_call ?_)
 have I2:=Inv.made (C:=C) I
 have q:=h (s.heap.objs.size+1) s.heap.objs.size (I.hok.fresh (Nat.le_succ _)) (I.hok.fresh (Nat.le_refl _)) (ne_of_lt (Nat.lt_succ_self _))
 have kin:=I.kIn
 obtain ⟨hh,g,d,t,os⟩:=s
 have Y:=PySem.W.makes_of (M:=model X.prog X.w) kin hm
 refine PySem.W.make_core Y (PySem.W.looks_findIn kin hi) (fun self=>PySem.W.Looks.of_pure (PySem.W.oi_bind self)) (.inr ⟨rfl,rfl⟩) ?_
 have e1:((hh.push emptyDict).push (instObj C hh.objs.size)).get? (hh.objs.size+1)=some (instObj C hh.objs.size):=by
  have:=Heap.get?_push_size (h:=hh.push emptyDict) (o:=instObj C hh.objs.size) rfl
  rwa [Heap.size_push] at this
 have t1:PySem.W.Looks (model X.prog X.w) ((hh.push emptyDict).push (instObj C hh.objs.size)) (typeOf (.ref (hh.objs.size+1))) (.ref C):=(PySem.W.Looks.ld e1).andThen .now
 have t2:PySem.W.Looks (model X.prog X.w) ((hh.push emptyDict).push (instObj C hh.objs.size)) (isInstance (.ref (hh.objs.size+1)) (.type "object")) true:=t1.andThen (Y.top.keeps fun b o e=>Heap.get?_push_of_some _ (Heap.get?_push_of_some _ e))
 refine codeAny_call_builtin PySem.W.oi_plain PySem.W.entry_oi (@PySem.W.check_slot (model X.prog X.w) _ _ _ "object.__init__" "object" "__init__" (.ref (hh.objs.size+1)) [] [] _ PySem.W.oi_kind PySem.W.oi_split t2 (PySem.W.oi_args (.ref (hh.objs.size+1))) ?_)
 show wpAny _ _ (Builtin.«object.__init__» ⟨[.ref (hh.objs.size+1)],[]⟩) _ _ _
 rw [PySem.W.oi_run]
 exact wpAny_pure (And.intro rfl ⟨.ref _,_,I2,rfl,q⟩)
def ymL {κ:Type}(P:Program) (w:World) (K:PySem.W.Frag) (mg:Str->Option Value) (base:Heap) (k:Nat) (A:κ->Addr) (m:Str) (sp:κ->Sp):Prop :=
 ∀ c:κ,Cls K (A c)/\((∀ vs H Q E,¬ sp c vs H Q E)\/∃ f fd ps,Meth K (A c) m f/\FnOk P w K mg base CX0 k f fd ps (sp c)/\Binds K fd ps [])
theorem yqK {κ:Type}{A:κ->Addr}{m:Str}{sp:κ->Sp}{k:Nat}{o:Expr}{ta:TE}{apos pos:Pos}{pl:Sem Bool}(he:PE X o ta) (G:ymL X.prog X.w X.K X.mg X.base k A m sp) (hr:Room k X.A)
  (ht:eval (.Call (.Attribute o m apos) [] [] pos) X.env=(do
   let ov <- eval o X.env
   standAt apos.atName
   let (f,first) <- holding [ov] (getMethod ov m pl)
   callWith pos f first (backTo pos (starEach [] X.env)) (backToKw pos (keywordEach [] X.env))):=by rfl):PE X (.Call (.Attribute o m apos) [] [] pos) (yvE A m sp ta):=by
 intro pins s σ H Q I h
 refine PySem.W.methodCall_KW (pl:=pl) (thn (he pins s σ H _ I h) fun u s1 ⟨x,H1,I1,rx,a,c,dx,fs,ex,ea,l,q⟩=>?_) ht
 subst ex
 obtain rfl:u=Value.ref a:=rx
 obtain ⟨cl,hn|⟨f,fd,ps,hm,F,hb⟩⟩:=G c
 .exact (hn _ _ _ _ q).elim
 refine ygN I1 ea cl hm l ?_
 exact PySem.W.callWith_K0 (first:=[.ref a]) I1.kIn hm.kp (ylb (us:=[.ref a]) (vs:=[.ref a]) (dvs:=[]) (ds:=[]) F hr hb .nil ylk I1 (.cons rfl .nil) q)
end
end L2
namespace L2
open PySem PySem.Spec PyProof.Rows
section
variable {X:Cx}
theorem yX:yfK X (.builtin "isinstance") (yFn X.K):=by
 intro pins s σ H xs us Q I r h
 obtain ⟨x,c,b,rfl,⟨t,u',ty,hc,hk⟩,q⟩:=h
 obtain ⟨u,w',rfl,ru,rc⟩:=vals2 r
 have e:w'=u':=by
  cases c<;>first|(cases hc;exact rc)|cases hc
 subst e
 exact yqy I ru ty hk fun tk=>⟨.bl b,H,I.tok tk,rfl,q⟩
theorem yjp:∀ (cs:List Nat) (a:Nat),(∀ c∈cs,48<=c/\c<=57)->((cs.foldl (fun acc c=>acc*10+(c-48)) a:Nat):Int)=cs.foldl (fun (a:Int) (c:Nat)=>a*10+((c:Int)-48)) (a:Int)
 | [],_,_=>rfl
 | c::cs,a,h=>by
  have hc:=h c mem_cons_self
  rw [List.foldl_cons,List.foldl_cons,yjp cs _ fun d hd=>h d (mem_cons_of_mem _ hd)]
  congr 1
  omega
theorem ylp:yfK X (.type "int") yzL:=by
 intro pins s σ H xs us Q I r h
 obtain ⟨z,rfl,hne,hd,hl,q⟩:=h
 obtain ⟨u,rfl,t,rfl⟩:=vals1 r
 have e:=PySem.intText_digits (x:=z) hd hne (by omega)
 have e2:((PySem.NumText.digitsVal z.cps.toList:Nat):Int)=ywL z.cps.toList:=yjp z.cps.toList 0 hd
 rw [e2] at e
 exact PySem.W.KIN.call_text e hl ⟨.int _,H,I.tok _,⟨_,rfl⟩,q⟩
end
end L2
namespace L2
open PySem PySem.Spec PyProof.Rows
section
variable {X:Cx}
theorem ywN {x:Str}{n:Int}{t:Tok}{pos:Pos}(hg:Gl X x) (hm:X.mg x=some (.int n t)) (hd:(x == ("__debug__":Str))=false:=by decide):PE X (.Name x pos) (tC (.int n)):=ymz hg hm ⟨t,rfl⟩ hd
theorem ywO {x:Str}{n:Str}{t:Tok}{pos:Pos}(hg:Gl X x) (hm:X.mg x=some (.str n t)) (hd:(x == ("__debug__":Str))=false:=by decide):PE X (.Name x pos) (tC (.str n)):=ymz hg hm ⟨t,rfl⟩ hd
theorem yqL {x:Str}{a:Addr}{pos:Pos}(hg:Gl X x) (hm:X.mg x=some (.ref a)) (hd:(x == ("__debug__":Str))=false:=by decide):PE X (.Name x pos) (tC (.ref a)):=ymz hg hm rfl hd
theorem yzO {x:Str}{n:String}{pos:Pos}(hg:Gl X x) (hm:X.mg x=none) (hv:bootBuiltins x=some (.type n)) (hn:x≠"__name__":=by decide) (hd:(x == ("__debug__":Str))=false:=by decide):PE X (.Name x pos) (tC (.ty n)):=ywv hg hm hv rfl hn hd
end
end L2
namespace L2
open PySem PySem.Spec PyProof.Rows
theorem ymM {K:PySem.W.Frag}{H:Hp}{i:Int}:IsI K H (.int i) (.ty "str") false:=⟨_,_,.int i,rfl,by with_unfolding_all rfl⟩
theorem ylq {K:PySem.W.Frag}{H:Hp}{i:Int}:IsI K H (.int i) (.ty "list") false:=⟨_,_,.int i,rfl,by with_unfolding_all rfl⟩
theorem yjU {K:PySem.W.Frag}{H:Hp}{i:Int}:IsI K H (.int i) (.ty "tuple") false:=⟨_,_,.int i,rfl,by with_unfolding_all rfl⟩
theorem ylr {K:PySem.W.Frag}{H:Hp}{i:Int}:IsI K H (.int i) (.ty "dict") false:=⟨_,_,.int i,rfl,by with_unfolding_all rfl⟩
theorem ypt {K:PySem.W.Frag}{H:Hp}{i:Bool}:IsI K H (.bl i) (.ty "int") true:=⟨_,_,.bl i,rfl,by with_unfolding_all rfl⟩
theorem ypu {K:PySem.W.Frag}{H:Hp}{i:Bool}:IsI K H (.bl i) (.ty "str") false:=⟨_,_,.bl i,rfl,by with_unfolding_all rfl⟩
theorem ymN {K:PySem.W.Frag}{H:Hp}{i:Bool}:IsI K H (.bl i) (.ty "list") false:=⟨_,_,.bl i,rfl,by with_unfolding_all rfl⟩
theorem yls {K:PySem.W.Frag}{H:Hp}{i:Bool}:IsI K H (.bl i) (.ty "tuple") false:=⟨_,_,.bl i,rfl,by with_unfolding_all rfl⟩
theorem ymO {K:PySem.W.Frag}{H:Hp}{i:Bool}:IsI K H (.bl i) (.ty "dict") false:=⟨_,_,.bl i,rfl,by with_unfolding_all rfl⟩
theorem ymP {K:PySem.W.Frag}{H:Hp}{i:Str}:IsI K H (.str i) (.ty "int") false:=⟨_,_,.str i,rfl,by with_unfolding_all rfl⟩
theorem ylt {K:PySem.W.Frag}{H:Hp}{i:Str}:IsI K H (.str i) (.ty "bool") false:=⟨_,_,.str i,rfl,by with_unfolding_all rfl⟩
theorem ylu {K:PySem.W.Frag}{H:Hp}{i:Str}:IsI K H (.str i) (.ty "list") false:=⟨_,_,.str i,rfl,by with_unfolding_all rfl⟩
theorem yjV {K:PySem.W.Frag}{H:Hp}{i:Str}:IsI K H (.str i) (.ty "tuple") false:=⟨_,_,.str i,rfl,by with_unfolding_all rfl⟩
theorem ylv {K:PySem.W.Frag}{H:Hp}{i:Str}:IsI K H (.str i) (.ty "dict") false:=⟨_,_,.str i,rfl,by with_unfolding_all rfl⟩
theorem ylw {K:PySem.W.Frag}{H:Hp}:IsI K H (.non) (.ty "bool") false:=⟨_,_,.non,rfl,by with_unfolding_all rfl⟩
theorem ymQ {K:PySem.W.Frag}{H:Hp}:IsI K H (.non) (.ty "str") false:=⟨_,_,.non,rfl,by with_unfolding_all rfl⟩
theorem ylx {K:PySem.W.Frag}{H:Hp}:IsI K H (.non) (.ty "list") false:=⟨_,_,.non,rfl,by with_unfolding_all rfl⟩
theorem yjW {K:PySem.W.Frag}{H:Hp}:IsI K H (.non) (.ty "tuple") false:=⟨_,_,.non,rfl,by with_unfolding_all rfl⟩
theorem yly {K:PySem.W.Frag}{H:Hp}:IsI K H (.non) (.ty "dict") false:=⟨_,_,.non,rfl,by with_unfolding_all rfl⟩
theorem ymR {K:PySem.W.Frag}{H:Hp}{a:Addr}{xs:List V}(e:H a=some (.lst xs)):IsI K H (.ref a) (.ty "int") false:=⟨_,_,.lst e,rfl,by with_unfolding_all rfl⟩
theorem ylz {K:PySem.W.Frag}{H:Hp}{a:Addr}{xs:List V}(e:H a=some (.lst xs)):IsI K H (.ref a) (.ty "bool") false:=⟨_,_,.lst e,rfl,by with_unfolding_all rfl⟩
theorem ymS {K:PySem.W.Frag}{H:Hp}{a:Addr}{xs:List V}(e:H a=some (.lst xs)):IsI K H (.ref a) (.ty "str") false:=⟨_,_,.lst e,rfl,by with_unfolding_all rfl⟩
theorem yjX {K:PySem.W.Frag}{H:Hp}{a:Addr}{xs:List V}(e:H a=some (.lst xs)):IsI K H (.ref a) (.ty "tuple") false:=⟨_,_,.lst e,rfl,by with_unfolding_all rfl⟩
theorem ylA {K:PySem.W.Frag}{H:Hp}{a:Addr}{xs:List V}(e:H a=some (.lst xs)):IsI K H (.ref a) (.ty "dict") false:=⟨_,_,.lst e,rfl,by with_unfolding_all rfl⟩
theorem yjY {K:PySem.W.Frag}{H:Hp}{a:Addr}(e:(∃ xs,H a=some (.tup xs))\/∃ o,K.lookup a=some o/\o.cls=.type "tuple"):IsI K H (.ref a) (.ty "tuple") true:=e.elim (fun ⟨_,e⟩=>⟨_,_,.tup e,rfl,by with_unfolding_all rfl⟩) fun ⟨_,e,c⟩=>⟨_,_,.kt e c,rfl,by with_unfolding_all rfl⟩
theorem ymT {K:PySem.W.Frag}{H:Hp}{a:Addr}(e:(∃ xs,H a=some (.tup xs))\/∃ o,K.lookup a=some o/\o.cls=.type "tuple"):IsI K H (.ref a) (.ty "int") false:=e.elim (fun ⟨_,e⟩=>⟨_,_,.tup e,rfl,by with_unfolding_all rfl⟩) fun ⟨_,e,c⟩=>⟨_,_,.kt e c,rfl,by with_unfolding_all rfl⟩
theorem ylB {K:PySem.W.Frag}{H:Hp}{a:Addr}(e:(∃ xs,H a=some (.tup xs))\/∃ o,K.lookup a=some o/\o.cls=.type "tuple"):IsI K H (.ref a) (.ty "bool") false:=e.elim (fun ⟨_,e⟩=>⟨_,_,.tup e,rfl,by with_unfolding_all rfl⟩) fun ⟨_,e,c⟩=>⟨_,_,.kt e c,rfl,by with_unfolding_all rfl⟩
theorem ymU {K:PySem.W.Frag}{H:Hp}{a:Addr}(e:(∃ xs,H a=some (.tup xs))\/∃ o,K.lookup a=some o/\o.cls=.type "tuple"):IsI K H (.ref a) (.ty "str") false:=e.elim (fun ⟨_,e⟩=>⟨_,_,.tup e,rfl,by with_unfolding_all rfl⟩) fun ⟨_,e,c⟩=>⟨_,_,.kt e c,rfl,by with_unfolding_all rfl⟩
theorem ylC {K:PySem.W.Frag}{H:Hp}{a:Addr}(e:(∃ xs,H a=some (.tup xs))\/∃ o,K.lookup a=some o/\o.cls=.type "tuple"):IsI K H (.ref a) (.ty "list") false:=e.elim (fun ⟨_,e⟩=>⟨_,_,.tup e,rfl,by with_unfolding_all rfl⟩) fun ⟨_,e,c⟩=>⟨_,_,.kt e c,rfl,by with_unfolding_all rfl⟩
theorem ylD {K:PySem.W.Frag}{H:Hp}{a:Addr}(e:(∃ xs,H a=some (.tup xs))\/∃ o,K.lookup a=some o/\o.cls=.type "tuple"):IsI K H (.ref a) (.ty "dict") false:=e.elim (fun ⟨_,e⟩=>⟨_,_,.tup e,rfl,by with_unfolding_all rfl⟩) fun ⟨_,e,c⟩=>⟨_,_,.kt e c,rfl,by with_unfolding_all rfl⟩
end L2
namespace L2
open PySem PySem.Spec PyProof.Rows
theorem ytw {K:PySem.W.Frag}{C:Addr}:PySem.W.kitOne K (.ref C) (.ref C)=some true:=by
 unfold PySem.W.kitOne
 have:((Value.ref C) == (Value.ref C))=true:=by simp
 rw [if_pos this]
theorem ytx {K:PySem.W.Frag}{C C':Addr}{b:Bool}(hm:mroIn K C' (.type "object")=some true) (ht:typeIn K (.ref C')=some (.type "type")) (hs:subIn K (.ref C) (.ref C')=some b):PySem.W.kitCls K (.ref C) (.ref C')=some b:=by
 unfold PySem.W.kitCls
 have h1:(PySem.W.clsIn K C').isSome=true:=by
  unfold mroIn at hm
  cases e:PySem.W.clsIn K C' with
  | none=>rw [e] at hm;cases hm
  | some c=>rfl
 have h2:(typeIn K (.ref C') == some (.type "type"))=true:=by rw [ht];simp
 show (if _ then _ else _)=_
 rw [if_pos (by rw [h1,h2];rfl)]
 exact hs
theorem yty {K:PySem.W.Frag}{C C':Addr}(hn:(C == C')=false) (hm:mroIn K C' (.type "object")=some true) (ht:typeIn K (.ref C')=some (.type "type")) (hs:subIn K (.ref C) (.ref C')=some false):PySem.W.kitOne K (.ref C) (.ref C')=some false:=by
 unfold PySem.W.kitOne
 have:¬ ((Value.ref C) == (Value.ref C'))=true:=by
  intro z
  have z:=eq_of_beq z
  cases z
  simp at hn
 rw [if_neg this]
 exact ytx hm ht hs
theorem all_cons {α:Type}{p:α->Prop}{a:α}{l:List α}(h:p a) (t:∀ x∈l,p x):∀ x∈a::l,p x:=fun x hx=>by
 rcases mem_cons.mp hx with e|e
 .rw [e];exact h
 .exact t x e
end L2
namespace PX
open PySem L2
structure Ck where
 K:PySem.W.Frag
 A:Nat->Addr
inductive PV where
 | non|bl (b:Bool)|int (i:Int)|str (s:Str)|ty (n:String)|cls (k:Nat)
 | scr (ns:List Int)
 | lst (xs:List PV)|tup (xs:List PV)
 | ins (k:Nat) (ns:List Str) (xs:List PV)
 | loc (n:Nat)
inductive Nd where
 | lst (xs:List PV)|dct (ks:List Key) (xs:List PV)|fz (ks:List Key) (xs:List PV)|ins (k:Nat) (ns:List Str) (xs:List PV)|dead
abbrev AH:=List Nd
inductive PVar where|no|val (x:PV)|own (d:Nd)
abbrev PSt:=List PVar
inductive Out where|nx (ρ:PSt)|rt (x:PV)|bk (ρ:PSt)|ct (ρ:PSt)
abbrev XE:=PSt->AH->Option (PV×AH)
abbrev XT:=PSt->AH->Option (Bool×AH)
abbrev XA:=PSt->AH->Option (List PV×AH)
abbrev XO:=PSt->AH->Option (Nd×AH)
abbrev XS:=PSt->AH->Option (Out×AH)
abbrev Fn:=List PV->AH->Option (PV×AH)
def KTp (K:PySem.W.Frag) (a:Addr) (xs:List V):Prop:=∃ (o:Obj) (its:Array Value) (n:Nat),K.lookup a=some o/\o.cls=.type "tuple"/\o.data=.seq its n/\its.size<=sizeLine/\Vals xs its.toList
def TpAt (K:PySem.W.Frag) (F:Hp) (a:Addr) (xs:List V):Prop:=F a=some (.tup xs)\/KTp K a xs
theorem TpAt.mono {K:PySem.W.Frag}{F F':Hp}{a:Addr}{xs:List V}(s:Same F F') (h:TpAt K F a xs):TpAt K F' a xs:=h.elim (fun h=>.inl (s _ _ h)) .inr
mutual
noncomputable def Rep (K:Ck) (F:Hp) (m:List Addr):PV->V->Prop
 | .non,v=>v=.non
 | .bl b,v=>v=.bl b
 | .int i,v=>v=.int i
 | .str s,v=>v=.str s
 | .ty n,v=>v=.ty n
 | .cls k,v=>v=.ref (K.A k)
 | .scr ns,v=>∃ a,v=.ref a/\SqL K.K F a (ns.map V.int)
 | .lst xs,v=>∃ a vs,v=.ref a/\F a=some (.lst vs)/\RepL K F m xs vs
 | .tup xs,v=>∃ a vs,v=.ref a/\TpAt K.K F a vs/\RepL K F m xs vs
 | .ins k ns xs,v=>∃ a dx vs,v=.ref a/\F a=some (.ins (K.A k) dx (ns.zip vs))/\vs.length=ns.length/\RepL K F m xs vs
 | .loc n,v=>∃ a,v=.ref a/\m[n]?=some a
noncomputable def RepL (K:Ck) (F:Hp) (m:List Addr):List PV->List V->Prop
 | [],vs=>vs=[]
 | x::xs,vs=>∃ v r,vs=v::r/\Rep K F m x v/\RepL K F m xs r
end
section
variable {K:Ck}{F F' H H':Hp}{m m':List Addr}
theorem yew {n:Nat}{a:Addr}(p:m <+: m') (h:m[n]?=some a):m'[n]?=some a:=by
 obtain ⟨r,rfl⟩:=p
 rw [getElem?_append_left (List.getElem?_eq_some_iff.mp h).1];exact h
mutual
theorem Rep.mono (s:Same F F') (p:m <+: m'):∀ (x:PV) (v:V),Rep K F m x v->Rep K F' m' x v
 | .non,_,h=>h
 | .bl _,_,h=>h
 | .int _,_,h=>h
 | .str _,_,h=>h
 | .ty _,_,h=>h
 | .cls _,_,h=>h
 | .scr _,_,⟨a,e,h⟩=>⟨a,e,s.seq h⟩
 | .lst xs,_,⟨a,vs,e,h,r⟩=>⟨a,vs,e,s _ _ h,RepL.mono s p xs vs r⟩
 | .tup xs,_,⟨a,vs,e,h,r⟩=>⟨a,vs,e,h.mono s,RepL.mono s p xs vs r⟩
 | .ins _ _ xs,_,⟨a,dx,vs,e,h,l,r⟩=>⟨a,dx,vs,e,s _ _ h,l,RepL.mono s p xs vs r⟩
 | .loc _,_,⟨a,e,h⟩=>⟨a,e,yew p h⟩
theorem RepL.mono (s:Same F F') (p:m <+: m'):∀ (xs:List PV) (vs:List V),RepL K F m xs vs->RepL K F' m' xs vs
 | [],_,h=>h
 | x::xs,_,⟨v,r,e,h,l⟩=>⟨v,r,e,Rep.mono s p x v h,RepL.mono s p xs r l⟩
end
theorem RepL.len:∀ {xs:List PV}{vs:List V},RepL K F m xs vs->vs.length=xs.length
 | [],_,h=>by rw [show _=[] from h];rfl
 | x::xs,_,⟨v,r,e,h,l⟩=>by rw [e,length_cons,length_cons,RepL.len l]
theorem RepL.get:∀ {xs:List PV}{vs:List V}{i:Nat}{x:PV},RepL K F m xs vs->xs[i]?=some x->∃ v,vs[i]?=some v/\Rep K F m x v
 | x::xs,_,0,y,⟨v,r,e,h,l⟩,q=>by
  simp at q;subst q;subst e;exact ⟨v,rfl,h⟩
 | x::xs,_,i+1,y,⟨v,r,e,h,l⟩,q=>by
  subst e
  obtain ⟨w,h1,h2⟩:=RepL.get (i:=i) l (by simpa using q)
  exact ⟨w,by simpa using h1,h2⟩
theorem RepL.get' {xs:List PV}{vs:List V}{i:Nat}{v:V}(h:RepL K F m xs vs) (e:vs[i]?=some v):∃ x,xs[i]?=some x/\Rep K F m x v:=by
 have hl:=h.len
 have hi:i<vs.length:=(List.getElem?_eq_some_iff.mp e).1
 have hx:xs[i]?=some xs[i]:=List.getElem?_eq_getElem (by omega)
 obtain ⟨w,h1,h2⟩:=h.get hx
 rw [e] at h1;cases h1
 exact ⟨_,hx,h2⟩
theorem RepL.app:∀ {xs ys:List PV}{vs us:List V},RepL K F m xs vs->RepL K F m ys us->RepL K F m (xs++ys) (vs++us)
 | [],_,_,_,h,k=>by rw [show _=[] from h];exact k
 | x::xs,ys,_,us,⟨v,r,e,h,l⟩,k=>by subst e;exact ⟨v,r++us,rfl,h,RepL.app l k⟩
theorem RepL.snoc {xs:List PV}{vs:List V}{x:PV}{v:V}(h:RepL K F m xs vs) (k:Rep K F m x v):RepL K F m (xs++[x]) (vs++[v]):=h.app ⟨v,[],rfl,k,rfl⟩
theorem RepL.drop:∀ {xs:List PV}{vs:List V}(n:Nat),RepL K F m xs vs->RepL K F m (xs.drop n) (vs.drop n)
 | _,_,0,h=>by simpa using h
 | [],_,n+1,h=>by rw [show _=[] from h];rfl
 | x::xs,_,n+1,⟨v,r,e,h,l⟩=>by subst e;simpa using RepL.drop n l
theorem RepL.take:∀ {xs:List PV}{vs:List V}(n:Nat),RepL K F m xs vs->RepL K F m (xs.take n) (vs.take n)
 | _,_,0,h=>by simp;rfl
 | [],_,n+1,h=>by rw [show _=[] from h];rfl
 | x::xs,_,n+1,⟨v,r,e,h,l⟩=>by subst e;exact ⟨v,r.take n,rfl,h,RepL.take n l⟩
theorem RepL.set:∀ {xs:List PV}{vs:List V}{x:PV}{v:V}(i:Nat),RepL K F m xs vs->Rep K F m x v->RepL K F m (xs.set i x) (vs.set i v)
 | [],_,_,_,_,h,_=>by rw [show _=[] from h];rfl
 | y::xs,_,x,v,0,⟨w,r,e,h,l⟩,k=>by subst e;exact ⟨v,r,rfl,k,l⟩
 | y::xs,_,x,v,i+1,⟨w,r,e,h,l⟩,k=>by subst e;exact ⟨w,r.set i v,rfl,h,RepL.set i l k⟩
theorem RepL.of_ints:∀ (ns:List Int),RepL K F m (ns.map PV.int) (ns.map V.int)
 | []=>rfl
 | n::ns=>⟨_,_,rfl,rfl,RepL.of_ints ns⟩
end
noncomputable def NdAt (K:Ck) (F H:Hp) (m:List Addr):Nd->Addr->Prop
 | .dead,a=>∃ o,H a=some o
 | .lst xs,a=>F a=none/\∃ vs,H a=some (.lst vs)/\RepL K F m xs vs
 | .dct ks xs,a=>F a=none/\∃ vs,H a=some (.dK (ks.zip vs))/\vs.length=ks.length/\RepL K F m xs vs
 | .fz ks xs,a=>F a=none/\∃ o vs,H a=some (.frz o (.dK (ks.zip vs)))/\vs.length=ks.length/\RepL K F m xs vs
 | .ins k ns xs,a=>F a=none/\∃ dx vs,H a=some (.ins (K.A k) dx (ns.zip vs))/\vs.length=ns.length/\RepL K F m xs vs
structure Wd where
 F:Hp
 H:Hp
 m:List Addr
 h:AH
structure WOk (K:Ck) (W:Wd):Prop where
 le:Same W.F W.H
 len:W.m.length=W.h.length
 nd:W.m.Nodup
 at_:∀ (n:Nat) (d:Nd) (a:Addr),W.h[n]?=some d->W.m[n]?=some a->NdAt K W.F W.H W.m d a
structure Le (K:Ck) (W W':Wd):Prop where
 ok:WOk K W'
 fs:Same W.F W'.F
 pre:W.m <+: W'.m
 keep:∀ b o,W.H b=some o->b∉W.m->W'.H b=some o
 new:∀ b o,W.H b=some o->b∉W.m->W.F b=none->W'.F b=none
 mn:∀ b∈W'.m,b∉W.m->W.H b=none
 fz:∀ (n:Nat) (ks:List Key) (xs:List PV),W.h[n]?=some (.fz ks xs)->W'.h[n]?=some (.fz ks xs)/\∀ a,W.m[n]?=some a->W'.H a=W.H a
theorem Le.refl {K:Ck}{W:Wd}(h:WOk K W):Le K W W:=⟨h,Same.refl _,prefix_refl _,fun _ _ e _=>e,fun _ _ _ _ e=>e,fun _ h h'=>absurd h h',fun _ _ _ e=>⟨e,fun _ _=>rfl⟩⟩
theorem Le.trans {K:Ck}{W W1 W2:Wd}(a:Le K W W1) (b:Le K W1 W2):Le K W W2 where
 ok:=b.ok
 fs:=a.fs.trans b.fs
 pre:=a.pre.trans b.pre
 keep:=fun c o e n=>b.keep c o (a.keep c o e n) fun z=>by rw [a.mn c z n] at e;cases e
 new:=fun c o e n f=>b.new c o (a.keep c o e n) (fun z=>by rw [a.mn c z n] at e;cases e) (a.new c o e n f)
 mn:=fun c z n=>by
  by_cases hc:c∈W1.m
  .exact a.mn c hc n
  .have:=b.mn c z hc
   cases e:W.H c with
   | none=>rfl
   | some o=>rw [a.keep c o e n] at this;cases this
 fz:=fun n ks xs e=>by
  obtain ⟨e1,q1⟩:=a.fz n ks xs e
  obtain ⟨e2,q2⟩:=b.fz n ks xs e1
  exact ⟨e2,fun c em=>(q2 c (yew a.pre em)).trans (q1 c em)⟩
abbrev ycH (K:Ck) (W:Wd) (x:PV) (v:V):Prop:=Rep K W.F W.m x v
abbrev ycI (K:Ck) (W:Wd) (x:List PV) (v:List V):Prop:=RepL K W.F W.m x v
theorem Le.rep {K:Ck}{W W':Wd}(l:Le K W W') {x:PV}{v:V}(h:ycH K W x v):ycH K W' x v:=Rep.mono l.fs l.pre x v h
theorem Le.repL {K:Ck}{W W':Wd}(l:Le K W W') {x:List PV}{v:List V}(h:ycI K W x v):ycI K W' x v:=RepL.mono l.fs l.pre x v h
theorem NdAt.mono {K:Ck}{F F' H H':Hp}{m m':List Addr}(s:Same F F') (p:m <+: m') {d:Nd}{a:Addr}(hH:∀ o,H a=some o->H' a=some o) (hF:F a=none->F' a=none) (h:NdAt K F H m d a):NdAt K F' H' m' d a:=by
 cases d with
 | dead=>obtain ⟨o,e⟩:=h;exact ⟨o,hH _ e⟩
 | lst xs=>obtain ⟨f,vs,e,r⟩:=h;exact ⟨hF f,vs,hH _ e,RepL.mono s p _ _ r⟩
 | dct ks xs=>obtain ⟨f,vs,e,l,r⟩:=h;exact ⟨hF f,vs,hH _ e,l,RepL.mono s p _ _ r⟩
 | fz ks xs=>obtain ⟨f,o,vs,e,l,r⟩:=h;exact ⟨hF f,o,vs,hH _ e,l,RepL.mono s p _ _ r⟩
 | ins C ns xs=>obtain ⟨f,dx,vs,e,l,r⟩:=h;exact ⟨hF f,dx,vs,hH _ e,l,RepL.mono s p _ _ r⟩
theorem NdAt.some {K:Ck}{F H:Hp}{m:List Addr}{d:Nd}{a:Addr}(h:NdAt K F H m d a):∃ o,H a=some o:=by
 cases d with
 | dead=>exact h
 | lst xs=>obtain ⟨f,vs,e,r⟩:=h;exact ⟨_,e⟩
 | dct ks xs=>obtain ⟨f,vs,e,r⟩:=h;exact ⟨_,e⟩
 | fz ks xs=>obtain ⟨f,o,vs,e,r⟩:=h;exact ⟨_,e⟩
 | ins C ns xs=>obtain ⟨f,dx,vs,e,r⟩:=h;exact ⟨_,e⟩
structure Good (K:Ck) (W0 W:Wd) (ρ:PSt) (σ:St):Prop where
 le:Le K W0 W
 len:σ.length=ρ.length
 val:∀ (i:Nat) (x:PV),ρ[i]?=some (.val x)->∃ v,σ[i]?=some (some v)/\ycH K W x v
 own:∀ (i:Nat) (d:Nd),ρ[i]?=some (.own d)->∃ p,σ[i]?=some (some (.ref p))/\p∉W.m/\W0.H p=none/\d≠.dead/\NdAt K W.F W.H W.m d p
 ne:∀ (i j:Nat) (d d':Nd),i≠j->ρ[i]?=some (.own d)->ρ[j]?=some (.own d')->σ[i]?≠σ[j]?
theorem Good.ok {K:Ck}{W0 W:Wd}{ρ:PSt}{σ:St}(g:Good K W0 W ρ σ):WOk K W:=g.le.ok
theorem Good.step {K:Ck}{W0 W W':Wd}{ρ:PSt}{σ:St}(g:Good K W0 W ρ σ) (l:Le K W W'):Good K W0 W' ρ σ where
 le:=g.le.trans l
 len:=g.len
 val:=fun i x e=>let ⟨v,h1,h2⟩:=g.val i x e;⟨v,h1,l.rep h2⟩
 own:=fun i d e=>by
  obtain ⟨p,h1,h2,h3,h4,h5⟩:=g.own i d e
  obtain ⟨o,ho⟩:=h5.some
  have n':p∉W'.m:=fun z=>by rw [l.mn p z h2] at ho;cases ho
  refine ⟨p,h1,n',h3,h4,h5.mono l.fs l.pre (fun o e=>l.keep p o e h2) fun f=>l.new p o ho h2 f⟩
 ne:=g.ne
theorem WOk.some {K:Ck}{W:Wd}(w:WOk K W) {a:Addr}(h:a∈W.m):∃ o,W.H a=some o:=by
 obtain ⟨n,hn,e⟩:=getElem_of_mem h
 have hl:n<W.h.length:=by rw [<- w.len];exact hn
 exact (w.at_ n W.h[n] a (List.getElem?_eq_getElem hl) (by rw [List.getElem?_eq_getElem hn,e])).some
theorem Le.fresh {K:Ck}{W W':Wd}(l:Le K W W') {p:Addr}(h:W'.H p=none):W.H p=none:=by
 cases e:W.H p with
 | none=>rfl
 | some o =>
  by_cases hm:p∈W.m
  .obtain ⟨o,q⟩:=l.ok.some (l.pre.subset hm)
   rw [h] at q;cases q
  .rw [l.keep p o e hm] at h;cases h
theorem WOk.out {K:Ck}{W:Wd}(w:WOk K W) {p:Addr}(h:W.H p=none):p∉W.m:=fun z=>by
 obtain ⟨o,q⟩:=w.some z
 rw [h] at q;cases q
theorem WOk.ff {K:Ck}{W:Wd}(w:WOk K W) {p:Addr}(h:W.H p=none):W.F p=none:=Same.free w.le h
structure Lf (K:Ck) (W W':Wd):Prop where
 fs:Same W.F W'.F
 pre:W.m <+: W'.m
 fz:∀ (n:Nat) (ks:List Key) (xs:List PV),W.h[n]?=some (.fz ks xs)->W'.h[n]?=some (.fz ks xs)/\∀ a,W.m[n]?=some a->W'.H a=W.H a
theorem Le.lf {K:Ck}{W W':Wd}(l:Le K W W'):Lf K W W':=⟨l.fs,l.pre,l.fz⟩
theorem Lf.refl {K:Ck}{W:Wd}:Lf K W W:=⟨Same.refl _,prefix_refl _,fun _ _ _ e=>⟨e,fun _ _=>rfl⟩⟩
theorem Lf.trans {K:Ck}{W W1 W2:Wd}(a:Lf K W W1) (b:Lf K W1 W2):Lf K W W2:=⟨a.fs.trans b.fs,a.pre.trans b.pre,fun n ks xs e=>by
  obtain ⟨e1,q1⟩:=a.fz n ks xs e
  obtain ⟨e2,q2⟩:=b.fz n ks xs e1
  exact ⟨e2,fun c em=>(q2 c (yew a.pre em)).trans (q1 c em)⟩⟩
theorem Lf.rep {K:Ck}{W W':Wd}(l:Lf K W W') {x:PV}{v:V}(h:ycH K W x v):ycH K W' x v:=Rep.mono l.fs l.pre x v h
noncomputable def ybN (K:Ck) (t:TE) (e:XE):Prop:=∀ (W0 W:Wd) (ρ:PSt) (σ:St) (Q:VK) (x:PV) (h':AH),Good K W0 W ρ σ->e ρ W.h=some (x,h') ->
 (∀ v W',W'.h=h'->Le K W W'->ycH K W' x v->Q v W'.H)->t σ W.H Q
noncomputable def ylE (K:Ck) (t:TT) (e:XT):Prop:=∀ (W0 W:Wd) (ρ:PSt) (σ:St) (Q:Bool->Hp->Prop) (x:Bool) (h':AH),Good K W0 W ρ σ->e ρ W.h=some (x,h') ->
 (∀ W',W'.h=h'->Le K W W'->Q x W'.H)->t σ W.H Q
noncomputable def ymq (K:Ck) (t:TA) (e:XA):Prop:=∀ (W0 W:Wd) (ρ:PSt) (σ:St) (Q:List V->Hp->Prop) (x:List PV) (h':AH),Good K W0 W ρ σ->e ρ W.h=some (x,h') ->
 (∀ v W',W'.h=h'->Le K W W'->ycI K W' x v->Q v W'.H)->t σ W.H Q
def ylF (K:Ck) (t:TE) (e:XO):Prop:=∀ (W0 W:Wd) (ρ:PSt) (σ:St) (Q:VK) (d:Nd) (h':AH),Good K W0 W ρ σ->e ρ W.h=some (d,h') ->
 (∀ p W',W'.h=h'->Le K W W'->p∉W'.m->W.H p=none->d≠.dead->NdAt K W'.F W'.H W'.m d p->Q (.ref p) W'.H)->t σ W.H Q
noncomputable def Ends.Ok (K:Ck) (W0 W:Wd) (D:Ends) (h':AH):Out->Prop
 | .nx ρ'=>∀ W' σ',W'.h=h'->Lf K W W'->Good K W0 W' ρ' σ'->D.nx σ' W'.H
 | .bk ρ'=>∀ W' σ',W'.h=h'->Lf K W W'->Good K W0 W' ρ' σ'->D.bk σ' W'.H
 | .ct ρ'=>∀ W' σ',W'.h=h'->Lf K W W'->Good K W0 W' ρ' σ'->D.ct σ' W'.H
 | .rt x=>∀ W' v,W'.h=h'->Le K W0 W'->ycH K W' x v->D.rt v W'.H
def yfB (K:Ck) (t:TS) (s:XS):Prop:=∀ (W0 W:Wd) (ρ:PSt) (σ:St) (D:Ends) (o:Out) (h':AH),Good K W0 W ρ σ->s ρ W.h=some (o,h')->Ends.Ok K W0 W D h' o->t D σ W.H
noncomputable def ob {α β:Type}(o:Option (α×AH)) (f:α->AH->Option β):Option β:=o.bind fun q=>f q.1 q.2
theorem yg {α β:Type}{o:Option (α×AH)}{f:α->AH->Option β}{b:β}(h:ob o f=some b):∃ x h',o=some (x,h')/\f x h'=some b:=by
 obtain ⟨⟨x,h'⟩,e,k⟩:=Option.bind_eq_some_iff.mp h
 exact ⟨x,h',e,k⟩
end PX
namespace PX
open PySem L2
variable {K:Ck}
def yf (i:Nat):XE:=fun ρ h=>match ρ[i]? with|some (.val x)=>some (x,h)|_=>none
def xC (x:PV):XE:=fun _ h=>some (x,h)
abbrev P2:=PV->PV->AH->Option (PV×AH)
abbrev P2O:=PV->PV->AH->Option (Nd×AH)
def xOp (p:P2) (a b:XE):XE:=fun ρ h=>ob (a ρ h) fun x h1=>ob (b ρ h1) fun y h2=>p x y h2
def yqM (p:P2O) (a b:XE):XO:=fun ρ h=>ob (a ρ h) fun x h1=>ob (b ρ h1) fun y h2=>p x y h2
def xUn (p:PV->AH->Option (PV×AH)) (a:XE):XE:=fun ρ h=>ob (a ρ h) fun x h1=>p x h1
def oB (x:PV) (h:AH):Option (Bool×AH):=match x with|.bl b=>some (b,h)|_=>none
def yfC (p p':P2) (a b c:XE):XE:=fun ρ h=>ob (a ρ h) fun x h1=>ob (b ρ h1) fun y h2=>ob (p x y h2) fun z h3=>ob (oB z h3) fun k h3=>if k=true then ob (c ρ h3) fun w h4=>p' y w h4 else some (.bl false,h3)
def yp (a:XE):XT:=fun ρ h=>ob (a ρ h) oB
def yiX (a b:XE):XE:=fun ρ h=>ob (a ρ h) fun x h1=>ob (oB x h1) fun k h1=>if k=true then b ρ h1 else some (.bl false,h1)
def ywP (a:XE):XE:=fun ρ h=>ob (a ρ h) fun x h1=>ob (oB x h1) fun k h1=>some (.bl (!k),h1)
def yvF (a b:XT):XT:=fun ρ h=>ob (a ρ h) fun k h1=>if k=true then b ρ h1 else some (false,h1)
def xOr (a b:XT):XT:=fun ρ h=>ob (a ρ h) fun k h1=>if k=true then some (true,h1) else b ρ h1
def yjZ (a:XT):XT:=fun ρ h=>ob (a ρ h) fun k h1=>some (!k,h1)
def xIf (c:XT) (a b:XE):XE:=fun ρ h=>ob (c ρ h) fun k h1=>if k=true then a ρ h1 else b ρ h1
def yi:XA:=fun _ h=>some ([],h)
def yc (a:XE) (r:XA):XA:=fun ρ h=>ob (a ρ h) fun x h1=>ob (r ρ h1) fun xs h2=>some (x::xs,h2)
def yeg (a:XA):XE:=fun ρ h=>ob (a ρ h) fun xs h1=>if xs.length<=1000 then some (.tup xs,h1) else none
def ydY (a:XA):XO:=fun ρ h=>ob (a ρ h) fun xs h1=>if xs.length<=1000 then some (.lst xs,h1) else none
def xFz (e:XO):XE:=fun ρ h=>ob (e ρ h) fun d h1=>match d with|.lst xs=>some (.lst xs,h1)|.ins k ns xs=>some (.ins k ns xs,h1)|_=>none
def ygd (e:XO):XE:=fun ρ h=>ob (e ρ h) fun d h1=>some (.loc h1.length,h1++[d])
def ybg (f:Fn) (a:XA):XE:=fun ρ h=>ob (a ρ h) f
def xCB (p:List PV->AH->Option (PV×AH)) (a:XA):XE:=fun ρ h=>ob (a ρ h) p
def yiU (p:List PV->AH->Option (Nd×AH)) (a:XA):XO:=fun ρ h=>ob (a ρ h) p
abbrev PM:=PV->List PV->AH->Option (PV×AH)
def xBM (c:PV->AH->Bool) (p:PM) (o:XE) (a:XA):XE:=fun ρ h=>ob (o ρ h) fun x h1=>if c x h1=true then ob (a ρ h1) fun xs h2=>p x xs h2 else none
def ymV (e:XE):PSt->AH->Option (Option Int×AH):=fun ρ h=>ob (e ρ h) fun x h1=>match x with|.int i=>some (some i,h1)|_=>none
def yzP (p:PV->Option Int->Option Int->AH->Option (Nd×AH)) (e:XE) (lo hi:PSt->AH->Option (Option Int×AH)):XO:=fun ρ h=>ob (e ρ h) fun x h1=>ob (lo ρ h1) fun l h2=>ob (hi ρ h2) fun u h3=>p x l u h3
noncomputable def ybZ (K:Ck) (r:R2) (p:P2):Prop:=∀ (W:Wd) (x y:PV) (v u:V) (Q:VK) (z:PV) (h':AH),WOk K W->ycH K W x v->ycH K W y u->p x y W.h=some (z,h')->(∀ w W',W'.h=h'->Le K W W'->ycH K W' z w->Q w W'.H)->r v u W.H Q
def ypv (K:Ck) (W:Wd) (d:Nd) (h':AH) (Q:VK):Prop:=∀ p W',W'.h=h'->Le K W W'->p∉W'.m->W.H p=none->d≠.dead->NdAt K W'.F W'.H W'.m d p->Q (.ref p) W'.H
def yod (K:Ck) (r:R2) (p:P2O):Prop:=∀ (W:Wd) (x y:PV) (v u:V) (Q:VK) (d:Nd) (h':AH),WOk K W->ycH K W x v->ycH K W y u->p x y W.h=some (d,h')->ypv K W d h' Q->r v u W.H Q
noncomputable def ywQ (K:Ck) (r:V->Hp->VK->Prop) (p:PV->AH->Option (PV×AH)):Prop:=∀ (W:Wd) (x:PV) (v:V) (Q:VK) (z:PV) (h':AH),WOk K W->ycH K W x v->p x W.h=some (z,h')->(∀ w W',W'.h=h'->Le K W W'->ycH K W' z w->Q w W'.H)->r v W.H Q
noncomputable def yhN (K:Ck) (r:List V->Hp->VK->Prop) (p:List PV->AH->Option (PV×AH)):Prop:=∀ (W:Wd) (xs:List PV) (vs:List V) (Q:VK) (z:PV) (h':AH),WOk K W->ycI K W xs vs->p xs W.h=some (z,h')->(∀ w W',W'.h=h'->Le K W W'->ycH K W' z w->Q w W'.H)->r vs W.H Q
def yqN (K:Ck) (r:List V->Hp->VK->Prop) (p:List PV->AH->Option (Nd×AH)):Prop:=∀ (W:Wd) (xs:List PV) (vs:List V) (Q:VK) (d:Nd) (h':AH),WOk K W->ycI K W xs vs->p xs W.h=some (d,h')->ypv K W d h' Q->r vs W.H Q
def yka (K:Ck) (T:String) (c:PV->AH->Bool) (r:V->List V->Hp->VK->Prop) (p:PM):Prop :=
 (∀ (W:Wd) (x:PV) (v:V),WOk K W->ycH K W x v->c x W.h=true->tyV K.K T v W.H) /\
 ∀ (W:Wd) (x:PV) (v:V) (xs:List PV) (vs:List V) (Q:VK) (z:PV) (h':AH),WOk K W->ycH K W x v->ycI K W xs vs->p x xs W.h=some (z,h')->(∀ w W',W'.h=h'->Le K W W'->ycH K W' z w->Q w W'.H)->r v vs W.H Q
theorem ywR (i:Nat):ybN K (ypW i) (yf i):=by
 intro W0 W ρ σ Q x h' g e q
 unfold yf at e
 split at e
 .rename_i y hy
  cases e
  obtain ⟨v,h1,h2⟩:=g.val i _ hy
  exact ⟨v,h1,q v W rfl (.refl g.ok) h2⟩
 .cases e
theorem ypw {v:V}{x:PV}(h:∀ W:Wd,ycH K W x v):ybN K (tC v) (xC x):=by
 intro W0 W ρ σ Q y h' g e q
 cases e
 exact q v W rfl (.refl g.ok) (h W)
theorem yqO {i:Int}:ybN K (tC (.int i)) (xC (.int i)):=ypw fun _=>rfl
theorem yqP {i:Str}:ybN K (tC (.str i)) (xC (.str i)):=ypw fun _=>rfl
theorem yzQ {i:Bool}:ybN K (tC (.bl i)) (xC (.bl i)):=ypw fun _=>rfl
theorem ywS:ybN K (tC .non) (xC .non):=ypw fun _=>rfl
theorem yzR {n:String}:ybN K (tC (.ty n)) (xC (.ty n)):=ypw fun _=>rfl
theorem ywT {k:Nat}:ybN K (tC (.ref (K.A k))) (xC (.cls k)):=ypw fun _=>rfl
section
variable {ta tb tc:TE}{ea eb ec:XE}{t:TA}{e:XA}
theorem yoe {r:R2}{p:P2}(o:ybZ K r p) (a:ybN K ta ea) (b:ybN K tb eb):ybN K (tOp r ta tb) (xOp p ea eb):=by
 intro W0 W ρ σ Q z h' g e q
 obtain ⟨x,h1,e1,f1⟩:=yg e
 obtain ⟨y,h2,e2,f2⟩:=yg f1
 refine a W0 W ρ σ _ x h1 g e1 fun v W1 w1 l1 r1=>?_
 subst w1
 refine b W0 W1 ρ σ _ y h2 (g.step l1) e2 fun u W2 w2 l2 r2=>?_
 subst w2
 exact o W2 x y v u Q z h' l2.ok (l2.rep r1) r2 f2 fun w W3 w3 l3 r3=>q w W3 w3 (l1.trans (l2.trans l3)) r3
theorem ygO {W W1:Wd}{d:Nd}{h':AH}{Q:VK}(l:Le K W W1) (q:ypv K W d h' Q):ypv K W1 d h' Q:=fun p W' e l' n f=>q p W' e (l.trans l') n (l.fresh f)
theorem ywU {r:R2}{p:P2O}(o:yod K r p) (a:ybN K ta ea) (b:ybN K tb eb):ylF K (tOp r ta tb) (yqM p ea eb):=by
 intro W0 W ρ σ Q z h' g e q
 obtain ⟨x,h1,e1,f1⟩:=yg e
 obtain ⟨y,h2,e2,f2⟩:=yg f1
 refine a W0 W ρ σ _ x h1 g e1 fun v W1 w1 l1 r1=>?_
 subst w1
 refine b W0 W1 ρ σ _ y h2 (g.step l1) e2 fun u W2 w2 l2 r2=>?_
 subst w2
 exact o W2 x y v u Q z h' l2.ok (l2.rep r1) r2 f2 (ygO (l1.trans l2) q)
theorem yzS {r} {p} (o:ywQ K r p) (a:ybN K ta ea):ybN K (tUn r ta) (xUn p ea):=by
 intro W0 W ρ σ Q z h' g e q
 obtain ⟨x,h1,e1,f1⟩:=yg e
 refine a W0 W ρ σ _ x h1 g e1 fun v W1 w1 l1 r1=>?_
 subst w1
 exact o W1 x v Q z h' l1.ok r1 f1 fun w W3 w3 l3 r3=>q w W3 w3 (l1.trans l3) r3
theorem ykb {x:PV}{h:AH}{k:Bool}{h':AH}(e:oB x h=some (k,h')):x=.bl k/\h'=h:=by
 unfold oB at e
 split at e
 .cases e;exact ⟨rfl,rfl⟩
 .cases e
theorem ylG {r r':R2}{p p':P2}(o:ybZ K r p) (o':ybZ K r' p') (a:ybN K ta ea) (b:ybN K tb eb) (c:ybN K tc ec):ybN K (yqv r r' ta tb tc) (yfC p p' ea eb ec):=by
 intro W0 W ρ σ Q z h' g e q
 obtain ⟨x,h1,e1,f1⟩:=yg e
 obtain ⟨y,h2,e2,f2⟩:=yg f1
 obtain ⟨z',h3,e3,f3⟩:=yg f2
 obtain ⟨k,h3',e3',f4⟩:=yg f3
 obtain ⟨rfl,rfl⟩:=ykb e3'
 refine a W0 W ρ σ _ x h1 g e1 fun v W1 w1 l1 r1=>?_
 subst w1
 refine b W0 W1 ρ σ _ y h2 (g.step l1) e2 fun u W2 w2 l2 r2=>?_
 subst w2
 refine o W2 x y v u _ _ _ l2.ok (l2.rep r1) r2 e3 fun w W3 w3 l3 r3=>⟨k,r3,?_⟩
 subst w3
 have l:=l1.trans (l2.trans l3)
 cases k with
 | false =>
  rw [if_neg (by decide)] at f4 ⊢
  cases f4
  exact q _ W3 rfl l rfl
 | true =>
  rw [if_pos rfl] at f4 ⊢
  obtain ⟨w',h4,e4,f5⟩:=yg f4
  refine c W0 W3 ρ σ _ w' h4 (g.step l) e4 fun u' W4 w4 l4 r4=>?_
  subst w4
  exact o' W4 y w' u u' Q z h' l4.ok ((l3.trans l4).rep r2) r4 f5 fun w W5 w5 l5 r5=>q w W5 w5 (l.trans (l4.trans l5)) r5
theorem yhC (a:ybN K ta ea):ylE K (ywz ta) (yp ea):=by
 intro W0 W ρ σ Q k h' g e q
 obtain ⟨x,h1,e1,f1⟩:=yg e
 obtain ⟨rfl,rfl⟩:=ykb f1
 exact a W0 W ρ σ _ _ _ g e1 fun v W1 w1 l1 r1=>⟨k,r1,q W1 w1 l1⟩
theorem yzT (a:ybN K ta ea):ylE K (tB ta) (yp ea):=yhC a
theorem ytz (a:ybN K ta ea) (b:ybN K tb eb):ybN K (yzs ta tb) (yiX ea eb):=by
 intro W0 W ρ σ Q z h' g e q
 obtain ⟨x,h1,e1,f1⟩:=yg e
 obtain ⟨k,h1',e1',f2⟩:=yg f1
 obtain ⟨rfl,rfl⟩:=ykb e1'
 refine a W0 W ρ σ _ _ _ g e1 fun v W1 w1 l1 r1=>⟨k,r1,?_⟩
 subst w1
 cases k with
 | false =>
  rw [if_neg (by decide)] at f2 ⊢
  cases f2
  exact q _ W1 rfl l1 rfl
 | true =>
  rw [if_pos rfl] at f2 ⊢
  exact b W0 W1 ρ σ _ z h' (g.step l1) f2 fun v W2 w2 l2 r2=>q v W2 w2 (l1.trans l2) r2
theorem ytA (a:ybN K ta ea):ybN K (yzt ta) (ywP ea):=by
 intro W0 W ρ σ Q z h' g e q
 obtain ⟨x,h1,e1,f1⟩:=yg e
 obtain ⟨k,h1',e1',f2⟩:=yg f1
 obtain ⟨rfl,rfl⟩:=ykb e1'
 cases f2
 exact a W0 W ρ σ _ _ _ g e1 fun v W1 w1 l1 r1=>⟨k,r1,q _ W1 w1 l1 rfl⟩
section
variable {tA tB':TT}{eA eB:XT}
theorem ywV (a:ylE K tA eA) (b:ylE K tB' eB):ylE K (yEW tA tB') (yvF eA eB):=by
 intro W0 W ρ σ Q z h' g e q
 obtain ⟨k,h1,e1,f1⟩:=yg e
 refine a W0 W ρ σ _ _ _ g e1 fun W1 w1 l1=>?_
 subst w1
 cases k with
 | false =>
  rw [if_neg (by decide)] at f1 ⊢
  cases f1
  exact q W1 rfl l1
 | true =>
  rw [if_pos rfl] at f1 ⊢
  exact b W0 W1 ρ σ _ z h' (g.step l1) f1 fun W2 w2 l2=>q W2 w2 (l1.trans l2)
theorem yzU (a:ylE K tA eA) (b:ylE K tB' eB):ylE K (tOr tA tB') (xOr eA eB):=by
 intro W0 W ρ σ Q z h' g e q
 obtain ⟨k,h1,e1,f1⟩:=yg e
 refine a W0 W ρ σ _ _ _ g e1 fun W1 w1 l1=>?_
 subst w1
 cases k with
 | true =>
  rw [if_pos rfl] at f1 ⊢
  cases f1
  exact q W1 rfl l1
 | false =>
  rw [if_neg (by decide)] at f1 ⊢
  exact b W0 W1 ρ σ _ z h' (g.step l1) f1 fun W2 w2 l2=>q W2 w2 (l1.trans l2)
theorem ywW (a:ylE K tA eA):ylE K (yCv tA) (yjZ eA):=by
 intro W0 W ρ σ Q z h' g e q
 obtain ⟨k,h1,e1,f1⟩:=yg e
 cases f1
 exact a W0 W ρ σ _ _ _ g e1 fun W1 w1 l1=>q W1 w1 l1
theorem yzV (c:ylE K tA eA) (a:ybN K ta ea) (b:ybN K tb eb):ybN K (tIf tA ta tb) (xIf eA ea eb):=by
 intro W0 W ρ σ Q z h' g e q
 obtain ⟨k,h1,e1,f1⟩:=yg e
 refine c W0 W ρ σ _ _ _ g e1 fun W1 w1 l1=>?_
 subst w1
 cases k with
 | true =>
  rw [if_pos rfl] at f1 ⊢
  exact a W0 W1 ρ σ _ z h' (g.step l1) f1 fun v W2 w2 l2 r2=>q v W2 w2 (l1.trans l2) r2
 | false =>
  rw [if_neg (by decide)] at f1 ⊢
  exact b W0 W1 ρ σ _ z h' (g.step l1) f1 fun v W2 w2 l2 r2=>q v W2 w2 (l1.trans l2) r2
end
theorem ykc:ymq K ytl yi:=by
 intro W0 W ρ σ Q z h' g e q
 cases e
 exact q [] W rfl (.refl g.ok) rfl
theorem ytB (a:ybN K ta ea) (r:ymq K t e):ymq K (ymC ta t) (yc ea e):=by
 intro W0 W ρ σ Q z h' g e q
 obtain ⟨x,h1,e1,f1⟩:=yg e
 obtain ⟨xs,h2,e2,f2⟩:=yg f1
 cases f2
 refine a W0 W ρ σ _ x h1 g e1 fun v W1 w1 l1 r1=>?_
 subst w1
 exact r W0 W1 ρ σ _ xs _ (g.step l1) e2 fun vs W2 w2 l2 r2=>q (v::vs) W2 w2 (l1.trans l2) ⟨v,vs,rfl,l2.rep r1,r2⟩
def ywX (W:Wd) (p:Addr) (o:HO):Wd:=⟨upd W.F p o,upd W.H p o,W.m,W.h⟩
theorem yqQ {W:Wd}{p:Addr}{o:HO}(w:WOk K W) (h:W.H p=none):Le K W (ywX W p o):=by
 have hm:=w.out h
 have hf:=w.ff h
 have sF:Same W.F (upd W.F p o):=ydP hf o
 refine ⟨⟨?_,w.len,w.nd,fun n d a e1 e2=>?_⟩,sF,prefix_refl _,fun b u e _=>ydP h o b u e,fun b u e _ f=>?_,fun b z n=>absurd z n,fun n ks xs e1=>⟨e1,fun a e2=>yF fun z=>hm (z ▸ mem_of_getElem? e2)⟩⟩
 .intro b u e
  show upd W.H p o b=some u
  by_cases hb:b=p
  .subst hb;rw [show (ywX W b o).F b=upd W.F b o b from rfl,yx] at e;rw [yx];exact e
  .rw [show (ywX W p o).F b=upd W.F p o b from rfl,yF hb] at e;rw [yF hb];exact w.le _ _ e
 .have ha:a≠p:=fun z=>hm (z ▸ mem_of_getElem? e2)
  exact (w.at_ n d a e1 e2).mono sF (prefix_refl _) (fun u e=>by rw [show (ywX W p o).H a=upd W.H p o a from rfl,yF ha];exact e) fun f=>(yF ha).trans f
 .have:b≠p:=ybr e h
  rw [show (ywX W p o).F b=upd W.F p o b from rfl,yF this];exact f
def ygM (W:Wd) (p:Addr) (o:HO):Wd:=⟨W.F,upd W.H p o,W.m,W.h⟩
theorem ycC {W:Wd}{p:Addr}{o:HO}(w:WOk K W) (h:W.H p=none):Le K W (ygM W p o):=by
 have hm:=w.out h
 refine ⟨⟨?_,w.len,w.nd,fun n d a e1 e2=>?_⟩,Same.refl _,prefix_refl _,fun b u e _=>ydP h o b u e,fun b u e _ f=>f,fun b z n=>absurd z n,fun n ks xs e1=>⟨e1,fun a e2=>yF fun z=>hm (z ▸ mem_of_getElem? e2)⟩⟩
 .exact fun b u e=>ydP h o b u (w.le _ _ e)
 .exact (w.at_ n d a e1 e2).mono (Same.refl _) (prefix_refl _) (fun u e=>ydP h o _ _ e) id
theorem small {n:Nat}(h:n<=1000):n<=sizeLine:=le_of_lt (yll h)
theorem ywY (a:ymq K t e):ybN K (yFe t) (yeg e):=by
 intro W0 W ρ σ Q z h' g e q
 obtain ⟨xs,h1,e1,f1⟩:=yg e
 split at f1
 .rename_i hl
  cases f1
  refine a W0 W ρ σ _ xs _ g e1 fun vs W1 w1 l1 r1=>⟨small (by rw [r1.len];exact hl),fun p hp=>?_⟩
  have l2:=yqQ (o:=.tup vs) l1.ok hp
  exact q (.ref p) (ywX W1 p (.tup vs)) w1 (l1.trans l2) ⟨p,vs,rfl,.inl yx,l2.repL r1⟩
 .cases f1
theorem ywZ (a:ymq K t e):ylF K (yFf t) (ydY e):=by
 intro W0 W ρ σ Q z h' g e q
 obtain ⟨xs,h1,e1,f1⟩:=yg e
 split at f1
 .rename_i hl
  cases f1
  refine a W0 W ρ σ _ xs _ g e1 fun vs W1 w1 l1 r1=>⟨small (by rw [r1.len];exact hl),fun p hp=>?_⟩
  have l2:=ycC (o:=.lst vs) l1.ok hp
  exact q p (ygM W1 p (.lst vs)) w1 (l1.trans l2) (l1.ok.out hp) (l1.fresh hp) (fun z=>by cases z) ⟨l1.ok.ff hp,vs,yx,r1⟩
 .cases f1
def ytC (W:Wd) (p:Addr) (o:HO):Wd:=⟨upd W.F p o,W.H,W.m,W.h⟩
theorem yqR {W:Wd}{p:Addr}{o:HO}(w:WOk K W) (h:W.H p=some o) (hm:p∉W.m) (hf:W.F p=none):WOk K (ytC W p o)/\Same W.F (upd W.F p o):=by
 have sF:Same W.F (upd W.F p o):=ydP hf o
 refine ⟨⟨?_,w.len,w.nd,fun n d a e1 e2=>?_⟩,sF⟩
 .intro b u e
  by_cases hb:b=p
  .subst hb;rw [show (ytC W b o).F b=upd W.F b o b from rfl,yx] at e;cases e;exact h
  .rw [show (ytC W p o).F b=upd W.F p o b from rfl,yF hb] at e;exact w.le _ _ e
 .have ha:a≠p:=fun z=>hm (z ▸ mem_of_getElem? e2)
  exact (w.at_ n d a e1 e2).mono sF (prefix_refl _) (fun u e=>e) fun f=>(yF ha).trans f
theorem ymW {W W1:Wd}{p:Addr}{o:HO}(l:Le K W W1) (h:W1.H p=some o) (hm:p∉W1.m) (hf:W1.F p=none) (hn:W.H p=none):Le K W (ytC W1 p o):=by
 obtain ⟨k,sF⟩:=yqR l.ok h hm hf
 refine ⟨k,l.fs.trans sF,l.pre,l.keep,fun b u e n f=>?_,l.mn,l.fz⟩
 have:b≠p:=ybr e hn
 rw [show (ytC W1 p o).F b=upd W1.F p o b from rfl,yF this];exact l.new b u e n f
theorem yvG {o:XO}(a:ylF K ta o):ybN K ta (xFz o):=by
 intro W0 W ρ σ Q z h' g e q
 obtain ⟨d,h1,e1,f1⟩:=yg e
 refine a W0 W ρ σ _ d h1 g e1 fun p W1 w1 l1 hm hn hd at_=>?_
 split at f1
 .rename_i xs
  cases f1
  obtain ⟨hf,vs,hp,r⟩:=at_
  have l2:=ymW l1 hp hm hf hn
  exact q (.ref p) (ytC W1 p (.lst vs)) w1 l2 ⟨p,vs,rfl,yx,RepL.mono (ydP hf _) (prefix_refl _) _ _ r⟩
 .rename_i k ns xs
  cases f1
  obtain ⟨hf,dx,vs,hp,hl,r⟩:=at_
  have l2:=ymW l1 hp hm hf hn
  exact q (.ref p) (ytC W1 p _) w1 l2 ⟨p,dx,vs,rfl,yx,hl,RepL.mono (ydP hf _) (prefix_refl _) _ _ r⟩
 .cases f1
theorem yqS {o:XO}(a:ylF K ta o):ybN K ta (ygd o):=by
 intro W0 W ρ σ Q z h' g e q
 obtain ⟨d,h1,e1,f1⟩:=yg e
 cases f1
 refine a W0 W ρ σ _ d h1 g e1 fun p W1 w1 l1 hm hn hd at_=>?_
 subst w1
 have pre:W1.m <+: W1.m++[p]:=List.prefix_append _ _
 refine q (.ref p) ⟨W1.F,W1.H,W1.m++[p],W1.h++[d]⟩ rfl ⟨⟨l1.ok.le,?_,?_,fun n d' a e1 e2=>?_⟩,l1.fs,l1.pre.trans pre,l1.keep,l1.new,fun b z n=>?_,fun n ks xs e1=>⟨by
  have:=(l1.fz n ks xs e1).1
  show (W1.h++[d])[n]?=_
  rw [getElem?_append_left (List.getElem?_eq_some_iff.mp this).1];exact this,(l1.fz n ks xs e1).2⟩⟩ ⟨p,rfl,?_⟩
 .show (W1.m++[p]).length=(W1.h++[d]).length
  rw [length_append,length_append,l1.ok.len];rfl
 .show (W1.m++[p]).Nodup
  rw [List.nodup_append]
  refine ⟨l1.ok.nd,by simp,?_⟩
  intro a ha b hb
  simp at hb
  subst hb
  exact fun z=>hm (z ▸ ha)
 .have e1:(W1.h++[d])[n]?=some d':=e1
  have e2:(W1.m++[p])[n]?=some a:=e2
  by_cases hlt:n<W1.h.length
  .rw [getElem?_append_left hlt] at e1
   rw [getElem?_append_left (by rw [l1.ok.len];exact hlt)] at e2
   exact (l1.ok.at_ n d' a e1 e2).mono (Same.refl _) pre (fun _ f1=>f1) id
  .rw [getElem?_append_right (by omega)] at e1
   rw [getElem?_append_right (by rw [l1.ok.len];omega)] at e2
   rw [l1.ok.len] at e2
   cases hk:n-W1.h.length with
   | zero =>
    rw [hk] at e1 e2
    simp at e1 e2
    subst e1 e2
    exact at_.mono (Same.refl _) pre (fun _ f1=>f1) id
   | succ k=>rw [hk] at e1;simp at e1
 .have z:b∈W1.m++[p]:=z
  rcases List.mem_append.mp z with z|z
  .exact l1.mn b z n
  .simp at z;subst z;exact hn
 .show (W1.m++[p])[W1.h.length]?=some p
  rw [<- l1.ok.len];simp
noncomputable def spE (K:Ck) (n:Nat) (f:Fn):Sp:=fun vs H Q _=>∃ (W:Wd) (xs:List PV) (x:PV) (h':AH),W.H=H/\WOk K W/\ycI K W xs vs/\xs.length=n/\f xs W.h=some (x,h')/\∀ v W',W'.h=h'->Le K W W'->ycH K W' x v->Q v W'.H
theorem ytD {n:Nat}{f:Fn}{ex:XK}(a:ymq K t e) (hn:∀ ρ h xs h',e ρ h=some (xs,h')->xs.length=n):ybN K (ytm (spE K n f) [] ex t) (ybg f e):=by
 intro W0 W ρ σ Q z h' g e' q
 obtain ⟨xs,h1,e1,e2⟩:=yg e'
 refine a W0 W ρ σ _ xs h1 g e1 fun vs W1 w1 l1 r1=>?_
 subst w1
 rw [append_nil]
 exact ⟨W1,xs,z,h',rfl,l1.ok,r1,hn _ _ _ _ e1,e2,fun v W2 w2 l2 r2=>q v W2 w2 (l1.trans l2) r2⟩
theorem ymX:∀ ρ h xs h',yi ρ h=some (xs,h')->xs.length=0:=fun ρ h xs h' e=>by cases e;rfl
theorem ytE {n:Nat}(l:∀ ρ h xs h',e ρ h=some (xs,h')->xs.length=n):∀ ρ h xs h',yc ea e ρ h=some (xs,h')->xs.length=n+1:=fun ρ h xs h' q=>by
 obtain ⟨x,h1,e1,q⟩:=yg q
 obtain ⟨ys,h2,e2,q⟩:=yg q
 cases q
 rw [length_cons,l _ _ _ _ e2]
theorem yvH {r} {p} (o:yhN K r p) (a:ymq K t e):ybN K (tCB r t) (xCB p e):=by
 intro W0 W ρ σ Q z h' g e' q
 obtain ⟨xs,h1,e1,e2⟩:=yg e'
 refine a W0 W ρ σ _ xs h1 g e1 fun vs W1 w1 l1 r1=>?_
 subst w1
 exact o W1 xs vs Q z h' l1.ok r1 e2 fun v W2 w2 l2 r2=>q v W2 w2 (l1.trans l2) r2
theorem yxa {r} {p} (o:yqN K r p) (a:ymq K t e):ylF K (tCB r t) (yiU p e):=by
 intro W0 W ρ σ Q z h' g e' q
 obtain ⟨xs,h1,e1,e2⟩:=yg e'
 refine a W0 W ρ σ _ xs h1 g e1 fun vs W1 w1 l1 r1=>?_
 subst w1
 exact o W1 xs vs Q z h' l1.ok r1 e2 (ygO l1 q)
theorem yvI {T:String}{c} {r} {p} (o:yka K T c r p) (b:ybN K ta ea) (a:ymq K t e):ybN K (tBM K.K T r ta t) (xBM c p ea e):=by
 intro W0 W ρ σ Q z h' g e' q
 obtain ⟨x,h1,e1,f1⟩:=yg e'
 split at f1
 .rename_i hc
  obtain ⟨xs,h2,e2,f2⟩:=yg f1
  refine b W0 W ρ σ _ x h1 g e1 fun v W1 w1 l1 r1=>⟨o.1 W1 x v l1.ok r1 (by rw [w1];exact hc),?_⟩
  subst w1
  refine a W0 W1 ρ σ _ xs h2 (g.step l1) e2 fun vs W2 w2 l2 r2=>?_
  subst w2
  exact o.2 W2 x v xs vs Q z h' l2.ok (l2.rep r1) r2 f2 fun w W3 w3 l3 r3=>q w W3 w3 (l1.trans (l2.trans l3)) r3
 .cases f1
theorem yxb {T:String}{c} {r} {p} (o:yka K T c r p) (b:ybN K ta ea):ybN K (yCH K.K T r ta) (xBM c p ea yi):=yvI (t:=ytl) o b ykc
end
noncomputable def yzW (K:Ck) (t:TO) (e:PSt->AH->Option (Option Int×AH)):Prop:=∀ (W0 W:Wd) (ρ:PSt) (σ:St) (Q:Option Int->Hp->Prop) (x:Option Int) (h':AH),Good K W0 W ρ σ->e ρ W.h=some (x,h') ->
 (∀ W',W'.h=h'->Le K W W'->Q x W'.H)->t σ W.H Q
theorem ytF {ta:TE}{ea:XE}(a:ybN K ta ea):yzW K (yzG ta) (ymV ea):=by
 intro W0 W ρ σ Q z h' g e q
 obtain ⟨x,h1,e1,f1⟩:=yg e
 split at f1
 .rename_i i
  cases f1
  exact a W0 W ρ σ _ _ _ g e1 fun v W1 w1 l1 r1=>⟨i,r1,q W1 w1 l1⟩
 .cases f1
def yqT (K:Ck) (r:V->Option Int->Option Int->Hp->VK->Prop) (p:PV->Option Int->Option Int->AH->Option (Nd×AH)):Prop:=∀ (W:Wd) (x:PV) (v:V) (lo hi:Option Int) (Q:VK) (d:Nd) (h':AH),WOk K W->ycH K W x v->p x lo hi W.h=some (d,h')->ypv K W d h' Q->r v lo hi W.H Q
theorem yxc {r} {p} {ta:TE}{ea:XE}{tl th:TO}{el eh} (o:yqT K r p) (a:ybN K ta ea) (b:yzW K tl el) (c:yzW K th eh):ylF K (tSl r ta tl th) (yzP p ea el eh):=by
 intro W0 W ρ σ Q z h' g e q
 obtain ⟨x,h1,e1,f1⟩:=yg e
 obtain ⟨l,h2,e2,f2⟩:=yg f1
 obtain ⟨u,h3,e3,f3⟩:=yg f2
 refine a W0 W ρ σ _ x h1 g e1 fun v W1 w1 l1 r1=>?_
 subst w1
 refine b W0 W1 ρ σ _ l h2 (g.step l1) e2 fun W2 w2 l2=>?_
 subst w2
 refine c W0 W2 ρ σ _ u h3 (g.step (l1.trans l2)) e3 fun W3 w3 l3=>?_
 subst w3
 exact o W3 x v l u Q z h' l3.ok ((l2.trans l3).rep r1) f3 (ygO (l1.trans (l2.trans l3)) q)
end PX
namespace PX
open PySem L2
variable {K:Ck}
def yO:XS:=fun ρ h=>some (.nx ρ,h)
def yl (s u:XS):XS:=fun ρ h=>ob (s ρ h) fun o h1=>match o with|.nx ρ'=>u ρ' h1|.rt x=>some (.rt x,h1)|.bk ρ'=>some (.bk ρ',h1)|.ct ρ'=>some (.ct ρ',h1)
def ybj (e:XE):XS:=fun ρ h=>ob (e ρ h) fun _ h1=>some (.nx ρ,h1)
def yP (e:XE):XS:=fun ρ h=>ob (e ρ h) fun x h1=>some (.rt x,h1)
def ybK (c:XT) (s u:XS):XS:=fun ρ h=>ob (c ρ h) fun k h1=>if k=true then s ρ h1 else u ρ h1
abbrev XG:=PV->PSt->Option PSt
abbrev XGs:=List PV->PSt->Option PSt
def yq (i:Nat):XG:=fun x ρ=>some (ρ.set i (.val x))
def yFO (g:XG) (r:XGs):XGs:=fun xs ρ=>match xs with|[]=>none|x::xs=>(g x ρ).bind fun ρ'=>r xs ρ'
def yGk (n:Nat) (g:XGs):XG:=fun x ρ=>match x with|.tup xs=>if xs.length=n then g xs ρ else none|_=>none
def ybG (e:XE) (g:XG):XS:=fun ρ h=>ob (e ρ h) fun x h1=>(g x ρ).bind fun ρ'=>some (.nx ρ',h1)
def ypx (e:XO) (i:Nat):XS:=fun ρ h=>ob (e ρ h) fun d h1=>some (.nx (ρ.set i (.own d)),h1)
def ysO:PVar->PVar
 | .own (.lst xs)=>.val (.lst xs)
 | .own (.ins k ns xs)=>.val (.ins k ns xs)
 | v=>v
def ymY (i:Nat) (ρ:PSt):PSt:=ρ.modify i ysO
def ypX (i:Nat) (s:XS):XS:=fun ρ h=>s (ymY i ρ) h
def ykd (i:Nat) (e:XE):XS:=fun ρ h=>match ρ[i]? with
 | some (.own (.lst xs))=>ob (e ρ h) fun x h1=>if xs.length<100000 then some (.nx (ρ.set i (.own (.lst (xs++[x])))),h1) else none
 | _=>none
def ygh (g:XG) (s:XS):List PV->PSt->AH->Option (Out×AH)
 | [],ρ,h=>some (.nx ρ,h)
 | x::xs,ρ,h=>(g x ρ).bind fun ρ1=>ob (s ρ1 h) fun o h1=>match o with|.nx ρ'=>ygh g s xs ρ' h1|.ct ρ'=>ygh g s xs ρ' h1|.bk ρ'=>some (.nx ρ',h1)|.rt y=>some (.rt y,h1)
def ymZ (it:XA) (g:XG) (s:XS):XS:=fun ρ h=>ob (it ρ h) fun xs h1=>ygh g s xs ρ h1
def whl (c:XT) (s:XS):Nat->PSt->AH->Option (Out×AH)
 | 0,_,_=>none
 | n+1,ρ,h=>ob (c ρ h) fun k h1=>if k=true then ob (s ρ h1) fun o h2=>(match o with|.nx ρ'=>whl c s n ρ' h2|.ct ρ'=>whl c s n ρ' h2|.bk ρ'=>some (.nx ρ',h2)|.rt y=>some (.rt y,h2)) else some (.nx ρ,h1)
def yfD (fuel:Nat) (c:XT) (s:XS):XS:=fun ρ h=>whl c s fuel ρ h
def ybt (N:Nat) (s:XS):Fn:=fun xs h=>ob (s (xs.map .val++replicate (N-xs.length) .no) h) fun o h1=>match o with|.rt x=>some (x,h1)|.nx _=>some (.non,h1)|_=>none
def yqU (ρ:PSt) (i:Nat):PVar:=match ρ[i]? with|some (.val y)=>.val y|_=>.no
def yfw (ix:List Nat) (ρ:PSt) (x:PV):PSt:=.val x::ix.map (yqU ρ)
def yke (e:XE) (inn:PV->PSt):List PV->AH->Option (List PV×AH)
 | [],h=>some ([],h)
 | x::xs,h=>ob (e (inn x) h) fun y h1=>ob (yke e inn xs h1) fun ys h2=>some (y::ys,h2)
def yiY (it:XA) (ix:List Nat) (e:XE):XO:=fun ρ h=>ob (it ρ h) fun xs h1=>if xs.length<=100000 then ob (yke e (yfw ix ρ) xs h1) fun ys h2=>some (.lst ys,h2) else none
theorem Ends.Ok.from_ {W0 W W1:Wd}{D:Ends}{h':AH}{o:Out}(l:Lf K W W1) (k:Ends.Ok K W0 W D h' o):Ends.Ok K W0 W1 D h' o:=by
 cases o with
 | nx ρ=>exact fun W' σ' e l' g=>k W' σ' e (l.trans l') g
 | bk ρ=>exact fun W' σ' e l' g=>k W' σ' e (l.trans l') g
 | ct ρ=>exact fun W' σ' e l' g=>k W' σ' e (l.trans l') g
 | rt x=>exact k
section
variable {ta tb:TE}{ea eb:XE}{t u:TS}{s s':XS}{tA:TT}{eA:XT}
theorem ytG:yfB K yzx yO:=by
 intro W0 W ρ σ D o h' g e q
 cases e
 exact q W σ rfl .refl g
theorem yxd (a:yfB K t s) (b:yfB K u s'):yfB K (yCx t u) (yl s s'):=by
 intro W0 W ρ σ D o h' g e q
 obtain ⟨o1,h1,e1,f1⟩:=yg e
 refine a W0 W ρ σ _ o1 h1 g e1 ?_
 cases o1 with
 | nx ρ'=>exact fun W' σ' w l g'=>b W0 W' ρ' σ' D o h' g' (by rw [w];exact f1) (q.from_ l)
 | rt x=>cases f1;exact q
 | bk ρ'=>cases f1;exact q
 | ct ρ'=>cases f1;exact q
theorem ytH (a:ybN K ta ea):yfB K (yqi ta) (ybj ea):=by
 intro W0 W ρ σ D o h' g e q
 obtain ⟨x,h1,e1,f1⟩:=yg e
 cases f1
 exact a W0 W ρ σ _ x _ g e1 fun v W1 w1 l1 r1=>q W1 σ w1 l1.lf (g.step l1)
theorem yxe (a:ybN K ta ea):yfB K (yEX ta) (yP ea):=by
 intro W0 W ρ σ D o h' g e q
 obtain ⟨x,h1,e1,f1⟩:=yg e
 cases f1
 exact a W0 W ρ σ _ x _ g e1 fun v W1 w1 l1 r1=>q W1 v w1 (g.le.trans l1) r1
theorem yxf (c:ylE K tA eA) (a:yfB K t s) (b:yfB K u s'):yfB K (yEY tA t u) (ybK eA s s'):=by
 intro W0 W ρ σ D o h' g e q
 obtain ⟨k,h1,e1,f1⟩:=yg e
 refine c W0 W ρ σ _ k h1 g e1 fun W1 w1 l1=>?_
 subst w1
 cases k with
 | true =>
  rw [if_pos rfl] at f1 ⊢
  exact a W0 W1 ρ σ D o h' (g.step l1) f1 (q.from_ l1.lf)
 | false =>
  rw [if_neg (by decide)] at f1 ⊢
  exact b W0 W1 ρ σ D o h' (g.step l1) f1 (q.from_ l1.lf)
theorem Good.set {W0 W:Wd}{ρ:PSt}{σ:St}(g:Good K W0 W ρ σ) (i:Nat) {x:PV}{v:V}(r:ycH K W x v):Good K W0 W (ρ.set i (.val x)) (σ.set i (some v)) where
 le:=g.le
 len:=by simp [g.len]
 val:=fun j y e=>by
  by_cases hj:i=j
  .subst hj
   by_cases hl:i<ρ.length
   .rw [getElem?_set_self hl] at e
    cases e
    exact ⟨v,getElem?_set_self (by rw [g.len];exact hl),r⟩
   .rw [getElem?_eq_none (by simp;omega)] at e;cases e
  .rw [getElem?_set_ne hj] at e
   obtain ⟨w,h1,h2⟩:=g.val j y e
   exact ⟨w,by rw [getElem?_set_ne hj];exact h1,h2⟩
 own:=fun j d e=>by
  by_cases hj:i=j
  .subst hj
   by_cases hl:i<ρ.length
   .rw [getElem?_set_self hl] at e;cases e
   .rw [getElem?_eq_none (by simp;omega)] at e;cases e
  .rw [getElem?_set_ne hj] at e
   obtain ⟨p,h1,h2⟩:=g.own j d e
   exact ⟨p,by rw [getElem?_set_ne hj];exact h1,h2⟩
 ne:=fun j k d d' hjk e1 e2=>by
  have f:∀ {j:Nat}{d:Nd},(ρ.set i (.val x))[j]?=some (.own d)->i≠j/\ρ[j]?=some (.own d):=fun {j d} e=>by
   by_cases hj:i=j
   .subst hj
    by_cases hl:i<ρ.length
    .rw [getElem?_set_self hl] at e;cases e
    .rw [getElem?_eq_none (by simp;omega)] at e;cases e
   .rw [getElem?_set_ne hj] at e;exact ⟨hj,e⟩
  obtain ⟨a1,a2⟩:=f e1
  obtain ⟨b1,b2⟩:=f e2
  rw [getElem?_set_ne a1,getElem?_set_ne b1]
  exact g.ne j k d d' hjk a2 b2
theorem Good.setO {W0 W:Wd}{ρ:PSt}{σ:St}(g:Good K W0 W ρ σ) (i:Nat) {d:Nd}{p:Addr}(hm:p∉W.m) (h0:W0.H p=none) (hd:d≠.dead) (at_:NdAt K W.F W.H W.m d p)
  (ne:∀ j d',i≠j->ρ[j]?=some (.own d')->σ[j]?≠some (some (.ref p))):Good K W0 W (ρ.set i (.own d)) (σ.set i (some (.ref p))) where
 le:=g.le
 len:=by simp [g.len]
 val:=fun j y e=>by
  by_cases hj:i=j
  .subst hj
   by_cases hl:i<ρ.length
   .rw [getElem?_set_self hl] at e;cases e
   .rw [getElem?_eq_none (by simp;omega)] at e;cases e
  .rw [getElem?_set_ne hj] at e
   obtain ⟨w,h1,h2⟩:=g.val j y e
   exact ⟨w,by rw [getElem?_set_ne hj];exact h1,h2⟩
 own:=fun j d' e=>by
  by_cases hj:i=j
  .subst hj
   by_cases hl:i<ρ.length
   .rw [getElem?_set_self hl] at e
    cases e
    exact ⟨p,getElem?_set_self (by rw [g.len];exact hl),hm,h0,hd,at_⟩
   .rw [getElem?_eq_none (by simp;omega)] at e;cases e
  .rw [getElem?_set_ne hj] at e
   obtain ⟨p,h1,h2⟩:=g.own j d' e
   exact ⟨p,by rw [getElem?_set_ne hj];exact h1,h2⟩
 ne:=fun j k d1 d2 hjk e1 e2=>by
  have self:∀ {j:Nat}{d':Nd},i=j->(ρ.set i (.own d))[j]?=some (.own d')->(σ.set i (some (.ref p)))[j]?=some (some (.ref p)):=fun {j d'} hj e=>by
   subst hj
   by_cases hl:i<ρ.length
   .exact getElem?_set_self (by rw [g.len];exact hl)
   .rw [getElem?_eq_none (by simp;omega)] at e;cases e
  by_cases hj:i=j
  .have hk:i≠k:=fun z=>hjk (hj.symm.trans z)
   rw [self hj e1,getElem?_set_ne hk]
   rw [getElem?_set_ne hk] at e2
   exact (ne k d2 hk e2).symm
  .rw [getElem?_set_ne hj]
   rw [getElem?_set_ne hj] at e1
   by_cases hk:i=k
   .rw [self hk e2]
    exact ne j d1 hj e1
   .rw [getElem?_set_ne hk] at e2 ⊢
    exact g.ne j k d1 d2 hjk e1 e2
noncomputable def yvJ (K:Ck) (g:TG) (y:XG):Prop:=∀ (W0 W:Wd) (ρ ρ':PSt) (σ:St) (x:PV) (v:V) (Q:St->Hp->Prop),Good K W0 W ρ σ->ycH K W x v->y x ρ=some ρ'->(∀ σ',Good K W0 W ρ' σ'->Q σ' W.H)->g v σ W.H Q
theorem ygi (i:Nat):yvJ K (ypj i) (yq i):=by
 intro W0 W ρ ρ' σ x v Q g r e q
 cases e
 exact q _ (g.set i r)
theorem yna {g:TG}{y:XG}(a:ybN K ta ea) (b:yvJ K g y):yfB K (yvt ta g) (ybG ea y):=by
 intro W0 W ρ σ D o h' gd e q
 obtain ⟨x,h1,e1,f1⟩:=yg e
 obtain ⟨ρ',e2,f2⟩:=Option.bind_eq_some_iff.mp f1
 cases f2
 exact a W0 W ρ σ _ x _ gd e1 fun v W1 w1 l1 r1=>b W0 W1 ρ ρ' σ x v _ (gd.step l1) r1 e2 fun σ' g'=>q W1 σ' w1 l1.lf g'
theorem ytI {o:XO}(i:Nat) (a:ylF K ta o):yfB K (yvt ta (ypj i)) (ypx o i):=by
 intro W0 W ρ σ D o h' gd e q
 obtain ⟨d,h1,e1,f1⟩:=yg e
 cases f1
 refine a W0 W ρ σ _ d _ gd e1 fun p W1 w1 l1 hm hn hd at_=>q W1 _ w1 l1.lf ((gd.step l1).setO i hm (gd.le.fresh hn) hd at_ fun j d' hj e hs=>?_)
 obtain ⟨p',h1,h2,_,_,h5⟩:=gd.own j d' e
 rw [h1] at hs
 cases hs
 obtain ⟨o,ho⟩:=h5.some
 rw [hn] at ho;cases ho
theorem Good.frz {W0 W:Wd}{ρ:PSt}{σ:St}(g:Good K W0 W ρ σ) (i:Nat):∃ W',W'.h=W.h/\W'.H=W.H/\Lf K W W'/\Good K W0 W' (ymY i ρ) σ:=by
 unfold ymY
 cases e:ρ[i]? with
 | none=>exact ⟨W,rfl,rfl,.refl,by rw [List.modify_eq_self (by simpa using e)];exact g⟩
 | some v =>
  have hl:i<ρ.length:=(List.getElem?_eq_some_iff.mp e).1
  have em:ρ.modify i ysO=ρ.set i (ysO v):=by
   apply List.ext_getElem?
   intro j
   rw [List.getElem?_modify,List.getElem?_set]
   by_cases hj:i=j
   .subst hj
    obtain ⟨_,ev⟩:=List.getElem?_eq_some_iff.mp e
    simp [hl,ev]
   .simp [hj]
  have same:ysO v=v->∃ W',W'.h=W.h/\W'.H=W.H/\Lf K W W'/\Good K W0 W' (ρ.modify i ysO) σ:=fun z=>⟨W,rfl,rfl,.refl,by
   rw [em,z]
   have:ρ.set i v=ρ:=by
    apply List.ext_getElem?
    intro j
    by_cases hj:i=j
    .subst hj;rw [getElem?_set_self hl,e]
    .rw [getElem?_set_ne hj]
   rw [this];exact g⟩
  have go:∀ (d:Nd) (x:PV) (p:Addr) (o:HO),v=.own d->ysO v=.val x->σ[i]?=some (some (.ref p))->p∉W.m->W0.H p=none->W.H p=some o->W.F p=none->(∀ (F':Hp),Same W.F F'->F' p=some o->Rep K F' W.m x (.ref p)) ->
    ∃ W',W'.h=W.h/\W'.H=W.H/\Lf K W W'/\Good K W0 W' (ρ.modify i ysO) σ:=fun d x p o hv hx hs hm h0 hp hf hr=>by
   obtain ⟨k,sF⟩:=yqR (K:=K) g.ok hp hm hf
   have lf:Lf K W (ytC W p o):=⟨sF,prefix_refl _,fun _ _ _ e=>⟨e,fun _ _=>rfl⟩⟩
   refine ⟨ytC W p o,rfl,rfl,lf,⟨ymW g.le hp hm hf h0,by rw [List.length_modify];exact g.len,fun j y e'=>?_,fun j d' e'=>?_,fun j1 j2 d1 d2 hj e1 e2=>?_⟩⟩
   .rw [em,hx] at e'
    by_cases hj:i=j
    .subst hj
     rw [getElem?_set_self hl] at e'
     cases e'
     exact ⟨_,hs,hr _ sF yx⟩
    .rw [getElem?_set_ne hj] at e'
     obtain ⟨w,a1,a2⟩:=g.val j y e'
     exact ⟨w,a1,lf.rep a2⟩
   .rw [em,hx] at e'
    by_cases hj:i=j
    .subst hj
     rw [getElem?_set_self hl] at e'
     cases e'
    .rw [getElem?_set_ne hj] at e'
     obtain ⟨q,a1,a2,a3,a4,a5⟩:=g.own j d' e'
     have hq:q≠p:=fun z=>g.ne j i d' d (fun z=>hj z.symm) e' (hv ▸ e) (by rw [a1,hs,z])
     exact ⟨q,a1,a2,a3,a4,a5.mono sF (prefix_refl _) (fun _ e=>e) fun f=>(yF hq).trans f⟩
   .rw [em,hx] at e1 e2
    have f:∀ {j:Nat}{d:Nd},(ρ.set i (.val x))[j]?=some (.own d)->ρ[j]?=some (.own d):=fun {j d} e=>by
     by_cases hj:i=j
     .subst hj;rw [getElem?_set_self hl] at e;cases e
     .rw [getElem?_set_ne hj] at e;exact e
    exact g.ne j1 j2 d1 d2 hj (f e1) (f e2)
  cases v with
  | no=>exact same rfl
  | val x=>exact same rfl
  | own d =>
   obtain ⟨p,a1,a2,a3,a4,a5⟩:=g.own i d e
   cases d with
   | lst xs =>
    obtain ⟨hf,vs,hp,r⟩:=a5
    exact go _ (.lst xs) p _ rfl rfl a1 a2 a3 hp hf fun F' s hF=>⟨p,vs,rfl,hF,RepL.mono s (prefix_refl _) _ _ r⟩
   | dct ks xs=>exact same rfl
   | fz ks xs=>exact same rfl
   | ins k ns xs =>
    obtain ⟨hf,dx,vs,hp,hl,r⟩:=a5
    exact go _ (.ins k ns xs) p _ rfl rfl a1 a2 a3 hp hf fun F' s hF=>⟨p,dx,vs,rfl,hF,hl,RepL.mono s (prefix_refl _) _ _ r⟩
   | dead=>exact same rfl
theorem yxg (i:Nat) (a:yfB K t s):yfB K t (ypX i s):=by
 intro W0 W ρ σ D o h' g e q
 obtain ⟨W',e1,e2,l,g'⟩:=g.frz i
 rw [<- e2]
 exact a W0 W' _ σ D o h' g' (by rw [e1];exact e) (q.from_ l)
end
end PX
namespace PX
open PySem L2
variable {K:Ck}
section
variable {ta tb:TE}{ea eb:XE}{t u:TS}{s s':XS}{tA:TT}{eA:XT}
def yqV (W:Wd) (p:Addr) (o:HO):Wd:=⟨W.F,upd W.H p o,W.m,W.h⟩
theorem yxh {W:Wd}{p:Addr}{o:HO}(w:WOk K W) (hm:p∉W.m) (hf:W.F p=none):WOk K (yqV W p o):=by
 refine ⟨fun b u e=>?_,w.len,w.nd,fun n d a e1 e2=>?_⟩
 .have:b≠p:=ybr e hf
  exact (yF this).trans (w.le _ _ e)
 .have ha:a≠p:=fun z=>hm (z ▸ mem_of_getElem? e2)
  exact (w.at_ n d a e1 e2).mono (Same.refl _) (prefix_refl _) (fun u e=>(yF ha).trans e) id
theorem yhO {W W1:Wd}{p:Addr}{o:HO}(l:Le K W W1) (hm:p∉W1.m) (hf:W1.F p=none) (hn:W.H p=none):Le K W (yqV W1 p o) :=
 ⟨yxh l.ok hm hf,l.fs,l.pre,fun b u e n=>(yF (ybr e hn)).trans (l.keep b u e n),l.new,l.mn,fun n ks xs e1=>⟨(l.fz n ks xs e1).1,fun a e2=>(yF (fun (z:a=p)=>hm (z ▸ mem_of_getElem? (yew l.pre e2)))).trans ((l.fz n ks xs e1).2 a e2)⟩⟩
theorem yqW {W W1:Wd}{p:Addr}{o:HO}(l:Le K W W1) (hm:p∉W1.m):Lf K W (yqV W1 p o) :=
 ⟨l.fs,l.pre,fun n ks xs e1=>⟨(l.fz n ks xs e1).1,fun a e2=>(yF (fun (z:a=p)=>hm (z ▸ mem_of_getElem? (yew l.pre e2)))).trans ((l.fz n ks xs e1).2 a e2)⟩⟩
theorem Good.mut {W0 W:Wd}{ρ:PSt}{σ:St}(g:Good K W0 W ρ σ) {i:Nat}{d d':Nd}{p:Addr}{o:HO}(e:ρ[i]?=some (.own d)) (hs:σ[i]?=some (some (.ref p))) (hm:p∉W.m) (h0:W0.H p=none) (hf:W.F p=none) (hd:d'≠.dead)
  (at_:NdAt K W.F (upd W.H p o) W.m d' p):Good K W0 (yqV W p o) (ρ.set i (.own d')) σ:=by
 have hl:i<ρ.length:=(List.getElem?_eq_some_iff.mp e).1
 refine ⟨yhO g.le hm hf h0,by rw [length_set];exact g.len,fun j y e'=>?_,fun j d1 e'=>?_,fun j1 j2 d1 d2 hj e1 e2=>?_⟩
 .by_cases hj:i=j
  .subst hj;rw [getElem?_set_self hl] at e';cases e'
  .rw [getElem?_set_ne hj] at e';exact g.val j y e'
 .by_cases hj:i=j
  .subst hj;rw [getElem?_set_self hl] at e';cases e';exact ⟨p,hs,hm,h0,hd,at_⟩
  .rw [getElem?_set_ne hj] at e'
   obtain ⟨q,a1,a2,a3,a4,a5⟩:=g.own j d1 e'
   have hq:q≠p:=fun z=>g.ne j i d1 d (fun z=>hj z.symm) e' e (by rw [a1,hs,z])
   exact ⟨q,a1,a2,a3,a4,a5.mono (Same.refl _) (prefix_refl _) (fun u e=>(yF hq).trans e) id⟩
 .have f:∀ {j:Nat}{d1:Nd},(ρ.set i (.own d'))[j]?=some (.own d1)->∃ d2,ρ[j]?=some (.own d2):=fun {j d1} e'=>by
   by_cases hj:i=j
   .subst hj;exact ⟨d,e⟩
   .rw [getElem?_set_ne hj] at e';exact ⟨_,e'⟩
  obtain ⟨_,f1⟩:=f e1
  obtain ⟨_,f2⟩:=f e2
  exact g.ne j1 j2 _ _ hj f1 f2
theorem big {n:Nat}(h:n<100000):n<sizeLine:=lt_of_lt_of_le h (by decide)
theorem yxi {n:Nat}(h:n<=100000):n<=sizeLine:=Nat.le_trans h (by decide)
theorem ytJ (i:Nat) (a:ybN K ta ea):yfB K (yqi (tBM K.K "list" ymF (ypW i) (ymC ta ytl))) (ykd i ea):=by
 intro W0 W ρ σ D o h' g e q
 unfold ykd at e
 split at e
 .rename_i xs0 hx
  obtain ⟨x,h1,e1,f1⟩:=yg e
  split at f1
  .rename_i hlen
   cases f1
   obtain ⟨p,a1,a2,a3,a4,hf,vs,hp,r⟩:=g.own i _ hx
   refine ⟨.ref p,a1,.inl ⟨rfl,_,SqL.of hp⟩,?_⟩
   refine a W0 W ρ σ _ x _ g e1 fun v W1 w1 l1 r1=>⟨p,vs,v,rfl,rfl,l1.keep _ _ hp a2,by rw [r.len];exact big hlen,?_⟩
   have g1:=g.step l1
   obtain ⟨p',b1,b2,b3,b4,b5,vs',b6,b7⟩:=g1.own i _ hx
   rw [a1] at b1
   cases b1
   rw [l1.keep _ _ hp a2] at b6
   cases b6
   exact q (yqV W1 p (.lst (vs++[v]))) σ w1 (yqW l1 b2) (g1.mut hx a1 b2 b3 b5 (fun z=>by cases z) ⟨b5,_,yx,b7.snoc r1⟩)
  .cases f1
 .cases e
structure yCW (K:Ck) (W:Wd) (J:It) (xs:List PV):Prop where
 go:∀ (i:Nat) (W':Wd),Lf K W W'->WOk K W'->i<xs.length->J.go i W'.H
 yld:∀ (i:Nat) (W':Wd) (v:V) (H2:Hp),Lf K W W'->WOk K W'->i<xs.length->J.yld i W'.H v H2->H2=W'.H/\∃ x,xs[i]?=some x/\ycH K W' x v
 stop:∀ (W':Wd),Lf K W W'->WOk K W'->J.stop xs.length W'.H
noncomputable def yvK (K:Ck) (wi:TI) (e:XA):Prop:=∀ (W0 W:Wd) (ρ:PSt) (σ:St) (R:It->Hp->Prop) (xs:List PV) (h':AH),Good K W0 W ρ σ->e ρ W.h=some (xs,h')->(∀ J W',W'.h=h'->Le K W W'->yCW K W' J xs->R J W'.H)->wi σ W.H R
def xIL (e:XE):XA:=fun ρ h=>ob (e ρ h) fun x h1=>match x with|.lst xs=>some (xs,h1)|.scr ns=>some (ns.map .int,h1)|_=>none
def sgn (c:Nat):PV:=.str ⟨#[c]⟩
def xIS (e:XE):XA:=fun ρ h=>ob (e ρ h) fun x h1=>match x with|.str z=>if z.length<=100000 then some (z.cps.toList.map sgn,h1) else none|_=>none
def yeT (lo:Int) (n:Nat):List PV:=(List.range n).map fun (k:Nat)=>.int (lo+(k:Int))
def ylH (a:XA):XA:=fun ρ h=>ob (a ρ h) fun xs h1=>match xs with|[.int j]=>if -1000000000<=j/\j<=1000000000 then some (yeT 0 j.toNat,h1) else none|_=>none
theorem yfN {W:Wd}(w:WOk K W) {a:Addr}{vs:List V}(h:SqL K.K W.F a vs):SqL K.K W.H a vs:=Same.seq w.le h
theorem ydo {W:Wd}(w:WOk K W) {a:Addr}{vs:List V}(h:TpAt K.K W.F a vs):SqT K.K W.H a vs:=h.elim (fun h=>SqT.of (w.le _ _ h)) .inr
theorem yqX (a:ybN K ta ea):yvK K (yte K.K ta) (xIL ea):=by
 intro W0 W ρ σ R xs h' g e q
 obtain ⟨x,h1,e1,f1⟩:=yg e
 refine a W0 W ρ σ _ x h1 g e1 fun v W1 w1 l1 r1=>?_
 have key:∀ (a:Addr) (vs:List V),v=.ref a->SqL K.K W1.F a vs->RepL K W1.F W1.m xs vs->h1=h'->∃ a,v=.ref a/\(∃ xs,SqL K.K W1.H a xs)/\R (Itl K.K a) W1.H:=fun a vs ev hs rs eh=>by
  subst eh
  refine ⟨a,ev,⟨vs,yfN l1.ok hs⟩,q _ W1 w1 l1 ⟨fun i W' l w hi=>?_,fun i W' v' H2 l w hi hy=>?_,fun W' l w=>?_⟩⟩
  .obtain ⟨v',h1,_⟩:=rs.get (List.getElem?_eq_getElem hi)
   exact ⟨vs,v',yfN w (Same.seq l.fs hs),h1⟩
  .obtain ⟨h1,h2⟩:=hy
   have:=h2 vs (yfN w (Same.seq l.fs hs))
   obtain ⟨x,h3,h4⟩:=rs.get' this
   exact ⟨h1,x,h3,l.rep h4⟩
  .exact ⟨vs,yfN w (Same.seq l.fs hs),by rw [rs.len];exact Nat.le_refl _⟩
 split at f1
 .cases f1
  obtain ⟨a,vs,ev,hs,rs⟩:=r1
  exact key a vs ev (SqL.of hs) rs rfl
 .rename_i ns
  cases f1
  obtain ⟨a,ev,hs⟩:=r1
  exact key a _ ev hs (RepL.of_ints ns) rfl
 .cases f1
theorem ytK (a:ybN K ta ea):yvK K (yFr ta) (xIS ea):=by
 intro W0 W ρ σ R xs h' g e q
 obtain ⟨x,h1,e1,f1⟩:=yg e
 refine a W0 W ρ σ _ x h1 g e1 fun v W1 w1 l1 r1=>?_
 split at f1
 .rename_i z
  split at f1
  .rename_i hz
   cases f1
   have hl:z.length=z.cps.toList.length:=by simp [Str.length]
   refine ⟨z,r1,yxi hz,q _ W1 w1 l1 ⟨fun i W' l w hi=>?_,fun i W' v' H2 l w hi hy=>?_,fun W' l w=>?_⟩⟩
   .show i<z.length
    rw [hl];simpa using hi
   .obtain ⟨h1,c,h2,h3⟩:=hy
    exact ⟨h1,sgn c,by rw [getElem?_map,h2];rfl,h3⟩
   .show _=z.length
    rw [hl];simp
  .cases f1
 .cases f1
theorem yzX (W:Wd) (lo:Int) (n:Nat):yCW K W (Itr lo n) (yeT lo n):=by
 refine ⟨fun i W' l w hi=>?_,fun i W' v' H2 l w hi hy=>?_,fun W' l w=>?_⟩
 .show i<n
  simpa [yeT] using hi
 .obtain ⟨h1,h2⟩:=hy
  have hi:i<n:=by simpa [yeT] using hi
  exact ⟨h1,.int (lo+(i:Int)),by simp [yeT,hi],h2⟩
 .show n<=_
  simp [yeT]
theorem yqY {t:TA}{e:XA}(a:ymq K t e):yvK K (yzB t) (ylH e):=by
 intro W0 W ρ σ R xs h' g e q
 obtain ⟨ys,h1,e1,f1⟩:=yg e
 split at f1
 .rename_i j
  split at f1
  .rename_i hj
   cases f1
   refine a W0 W ρ σ _ _ _ g e1 fun vs W1 w1 l1 r1=>?_
   obtain ⟨v,r,rfl,rv,rr⟩:=r1
   obtain rfl:r=[]:=rr
   exact ⟨j,by rw [show v=.int j from rv],by omega,by omega,q _ W1 w1 l1 (yzX W1 0 _)⟩
  .cases f1
 .cases f1
theorem yxj {wi:TI}{it:XA}{g:TG}{y:XG}(a:yvK K wi it) (b:yvJ K g y) (c:yfB K t s):yfB K (yCm wi g t) (ymZ it y s):=by
 intro W0 W ρ σ D o h' gd e q
 obtain ⟨xs,h1,e1,f1⟩:=yg e
 refine a W0 W ρ σ _ xs h1 gd e1 fun J W1 w1 l1 J1=>?_
 subst w1
 have q1:=q.from_ l1.lf
 refine ⟨fun i m σ H=>m=xs.length-i/\i<=xs.length/\∃ W' ρ',W'.H=H/\Lf K W1 W'/\Good K W0 W' ρ' σ/\ygh y s (xs.drop i) ρ' W'.h=some (o,h'),⟨_,rfl,zero_le _,W1,ρ,rfl,.refl,gd.step l1,by simpa using f1⟩,?_⟩
 rintro i m σ _ ⟨rfl,hi,W',ρ',rfl,l,g',f⟩
 by_cases hlt:i<xs.length
 .rw [List.drop_eq_getElem_cons hlt] at f
  obtain ⟨ρ1,k1,f⟩:=Option.bind_eq_some_iff.mp f
  obtain ⟨o1,h2,k2,f3⟩:=yg f
  refine .inr ⟨J1.go i W' l g'.ok hlt,fun σ2 H2=>i+1<=xs.length/\∃ W2 ρ2,W2.H=H2/\Lf K W1 W2/\Good K W0 W2 ρ2 σ2/\ygh y s (xs.drop (i+1)) ρ2 W2.h=some (o,h'),fun σ2 H2 ⟨n1,n2⟩=>⟨xs.length-(i+1),by omega,rfl,n1,n2⟩,fun v H2 hy=>?_⟩
  obtain ⟨rfl,x,hx,rx⟩:=J1.yld i W' v H2 l g'.ok hlt hy
  rw [List.getElem?_eq_getElem hlt] at hx
  cases hx
  refine b W0 W' ρ' ρ1 σ _ v _ g' rx k1 fun σ2 g2=>?_
  refine c W0 W' ρ1 σ2 _ o1 h2 g2 k2 ?_
  cases o1 with
  | nx ρ2=>exact fun W2 σ3 w2 l2 g3=>⟨hlt,W2,ρ2,rfl,l.trans l2,g3,by rw [w2];exact f3⟩
  | ct ρ2=>exact fun W2 σ3 w2 l2 g3=>⟨hlt,W2,ρ2,rfl,l.trans l2,g3,by rw [w2];exact f3⟩
  | bk ρ2=>cases f3;exact fun W2 σ3 w2 l2 g3=>q1 W2 σ3 w2 (l.trans l2) g3
  | rt x=>cases f3;exact q1
 .have ei:i=xs.length:=by omega
  subst ei
  refine .inl ⟨J1.stop W' l g'.ok,?_⟩
  rw [List.drop_length] at f
  cases f
  exact q1 W' σ rfl l g'
theorem yqZ (n:Nat) (c:ylE K tA eA) (a:yfB K t s):yfB K (yvv tA t) (yfD n eA s):=by
 intro W0 W ρ σ D o h' gd e q
 refine ⟨fun m σ H=>∃ W' ρ',W'.H=H/\Lf K W W'/\Good K W0 W' ρ' σ/\whl eA s m ρ' W'.h=some (o,h'),⟨n,W,ρ,rfl,.refl,gd,e⟩,?_⟩
 rintro m σ _ ⟨W',ρ',rfl,l,g',f⟩
 cases m with
 | zero=>cases f
 | succ m =>
  obtain ⟨k,h1,e1,f1⟩:=yg f
  refine c W0 W' ρ' σ _ k h1 g' e1 fun W1 w1 l1=>?_
  subst w1
  cases k with
  | false =>
   rw [if_neg (by decide)] at f1 ⊢
   cases f1
   exact q W1 σ rfl (l.trans l1.lf) (g'.step l1)
  | true =>
   rw [if_pos rfl] at f1 ⊢
   obtain ⟨o1,h2,k2,f3⟩:=yg f1
   refine ⟨fun σ2 H2=>∃ W2 ρ2,W2.H=H2/\Lf K W W2/\Good K W0 W2 ρ2 σ2/\whl eA s m ρ2 W2.h=some (o,h'),fun σ2 H2 z=>⟨m,Nat.lt_succ_self _,z⟩,?_⟩
   refine a W0 W1 ρ' σ _ o1 h2 (g'.step l1) k2 ?_
   have l':=l.trans l1.lf
   cases o1 with
   | nx ρ2=>exact fun W2 σ3 w2 l2 g3=>⟨W2,ρ2,rfl,l'.trans l2,g3,by rw [w2];exact f3⟩
   | ct ρ2=>exact fun W2 σ3 w2 l2 g3=>⟨W2,ρ2,rfl,l'.trans l2,g3,by rw [w2];exact f3⟩
   | bk ρ2=>cases f3;exact fun W2 σ3 w2 l2 g3=>q W2 σ3 w2 (l'.trans l2) g3
   | rt x=>cases f3;exact q
theorem ynb {e:XE}{inn:PV->PSt}:∀ {xs:List PV}{h:AH}{ys:List PV}{h':AH},yke e inn xs h=some (ys,h')->ys.length=xs.length
 | [],_,_,_,e=>by cases e;rfl
 | x::xs,_,_,_,e=>by
  obtain ⟨y,h1,e1,f1⟩:=yg e
  obtain ⟨ys,h2,e2,f2⟩:=yg f1
  cases f2
  rw [length_cons,length_cons,ynb e2]
theorem ygj {W0 W W':Wd}{ρ:PSt}{σ:St}(g:Good K W0 W ρ σ) (l:Le K W W') (ix:List Nat) {x:PV}{v:V}(r:ycH K W' x v):Good K W' W' (yfw ix ρ x) (inner ix σ v) where
 le:=.refl l.ok
 len:=by simp [yfw,inner]
 val:=fun j y e=>by
  cases j with
  | zero=>simp [yfw] at e;subst e;exact ⟨v,rfl,r⟩
  | succ j =>
   have e:(ix.map (yqU ρ))[j]?=some (.val y):=e
   rw [getElem?_map] at e
   cases ei:ix[j]? with
   | none=>rw [ei] at e;cases e
   | some i =>
    rw [ei] at e
    have e:yqU ρ i=.val y:=Option.some.inj e
    unfold yqU at e
    split at e
    .rename_i z hz
     cases e
     obtain ⟨w,h1,h2⟩:=g.val i _ hz
     exact ⟨w,by show (ix.map fun i=>(σ[i]?).getD none)[j]?=_;rw [getElem?_map,ei];simp [h1],l.rep h2⟩
    .cases e
 own:=fun j d e=>by
  cases j with
  | zero=>simp [yfw] at e
  | succ j =>
   have e:(ix.map (yqU ρ))[j]?=some (.own d):=e
   rw [getElem?_map] at e
   cases ei:ix[j]? with
   | none=>rw [ei] at e;cases e
   | some i =>
    rw [ei] at e
    have e:yqU ρ i=.own d:=Option.some.inj e
    unfold yqU at e
    split at e<;>cases e
 ne:=fun j k d d' _ e _=>by
  cases j with
  | zero=>simp [yfw] at e
  | succ j =>
   have e:(ix.map (yqU ρ))[j]?=some (.own d):=e
   rw [getElem?_map] at e
   cases ei:ix[j]? with
   | none=>rw [ei] at e;cases e
   | some i =>
    rw [ei] at e
    have e:yqU ρ i=.own d:=Option.some.inj e
    unfold yqU at e
    split at e<;>cases e
theorem yof {wi:TI}{it:XA}(ix:List Nat) (a:yvK K wi it) (b:ybN K ta ea):ylF K (yps wi ix ta) (yiY it ix ea):=by
 intro W0 W ρ σ Q d h' gd e q
 obtain ⟨xs,h1,e1,f1⟩:=yg e
 split at f1
 .rename_i hlen
  obtain ⟨zs,h2,e2,f2⟩:=yg f1
  cases f2
  have hz:=ynb e2
  refine a W0 W ρ σ _ xs h1 gd e1 fun J W1 w1 l1 J1=>?_
  subst w1
  intro D hD
  have nm:=l1.ok.out hD
  have nf:=l1.ok.ff hD
  refine ⟨fun i m H=>m=xs.length-i/\i<=xs.length/\∃ W' acc done rest,W'.H=H/\Le K W1 W'/\D∉W'.m/\W'.F D=none/\H D=some (.lst acc)/\ycI K W' done acc/\done.length=i/\zs=done++rest/\yke ea (yfw ix ρ) (xs.drop i) W'.h=some (rest,h'),⟨_,rfl,zero_le _,ygM W1 D (.lst []),[],[],zs,rfl,ycC l1.ok hD,nm,nf,yx,rfl,rfl,rfl,by rw [List.drop_zero];exact e2⟩,?_⟩
  rintro i m _ ⟨rfl,hi,W',acc,done,rest,rfl,l,n1,n2,hd,rd,ld,ez,f⟩
  by_cases hlt:i<xs.length
  .rw [List.drop_eq_getElem_cons hlt] at f
   obtain ⟨y,h3,k1,f3⟩:=yg f
   obtain ⟨ys,h4,k2,f4⟩:=yg f3
   cases f4
   refine .inr ⟨J1.go i W' l.lf l.ok hlt,fun v H2 hy=>?_⟩
   obtain ⟨rfl,x,hx,rx⟩:=J1.yld i W' v H2 l.lf l.ok hlt hy
   rw [List.getElem?_eq_getElem hlt] at hx
   cases hx
   refine b W' W' _ _ _ y h3 (ygj gd (l1.trans l) ix rx) k1 fun w W2 w2 l2 r2=>?_
   obtain ⟨o2,n2'⟩:∃ o,W'.H D=some o:=⟨_,hd⟩
   have nm2:D∉W2.m:=fun z=>by rw [l2.mn D z n1] at hd;cases hd
   have nf2:W2.F D=none:=l2.new D _ hd n1 n2
   refine ⟨acc,l2.keep _ _ hd n1,?_,xs.length-(i+1),by omega,rfl,hlt,yqV W2 D (.lst (acc++[w])),acc++[w],done++[y],ys,rfl,yhO (l.trans l2) nm2 nf2 hD,nm2,nf2,yx,(l2.repL rd).snoc r2,by simp [ld],by simp [ez],?_⟩
   .rw [rd.len,ld];exact big (by omega)
   .show yke ea (yfw ix ρ) (xs.drop (i+1)) W2.h=some (ys,h')
    rw [w2];exact k2
  .have ei:i=xs.length:=by omega
   subst ei
   rw [List.drop_length] at f
   cases f
   refine .inl ⟨J1.stop W' l.lf l.ok,?_⟩
   rw [append_nil] at ez
   subst ez
   exact q D W' rfl (l1.trans l) n1 (l1.fresh hD) (fun z=>by cases z) ⟨n2,acc,hd,rd⟩
 .cases f1
theorem ygP {W:Wd}(w:WOk K W) {N:List Str}{xs:List PV}{vs:List V}(r:ycI K W xs vs):Good K W W (xs.map .val++replicate (N.length-xs.length) .no) (L2.start N vs) where
 le:=.refl w
 len:=by simp [L2.start,r.len]
 val:=fun j y e=>by
  by_cases hj:j<xs.length
  .rw [getElem?_append_left (by simpa using hj),getElem?_map,List.getElem?_eq_getElem hj] at e
   cases e
   obtain ⟨v,h1,h2⟩:=r.get (List.getElem?_eq_getElem hj)
   refine ⟨v,?_,h2⟩
   unfold L2.start
   rw [getElem?_append_left (by simp [r.len,hj]),getElem?_map,h1];rfl
  .rw [getElem?_append_right (by simp;omega),getElem?_replicate] at e
   split at e<;>cases e
 own:=fun j d e=>by
  by_cases hj:j<xs.length
  .rw [getElem?_append_left (by simpa using hj),getElem?_map,List.getElem?_eq_getElem hj] at e
   cases e
  .rw [getElem?_append_right (by simp;omega),getElem?_replicate] at e
   split at e<;>cases e
 ne:=fun j k d d' _ e _=>by
  by_cases hj:j<xs.length
  .rw [getElem?_append_left (by simpa using hj),getElem?_map,List.getElem?_eq_getElem hj] at e
   cases e
  .rw [getElem?_append_right (by simp;omega),getElem?_replicate] at e
   split at e<;>cases e
theorem ytL {N:List Str}{n:Nat}{vs:List V}{H:Hp}{Q:VK}{E:XK}{bk ct:St->Hp->Prop}(a:yfB K t s) (h:spE K n (ybt N.length s) vs H Q E):t ⟨fun _ H'=>Q .non H',Q,bk,ct⟩ (L2.start N vs) H:=by
 obtain ⟨W,xs,x,h',rfl,w,r,_,e,q⟩:=h
 obtain ⟨o,h1,e1,f1⟩:=yg e
 refine a W W _ _ _ o h1 (ygP w r) e1 ?_
 cases o with
 | rt y=>cases f1;exact fun W' v ew l rv=>q v W' ew l rv
 | nx ρ=>cases f1;exact fun W' σ' ew _ g=>q .non W' ew g.le rfl
 | bk ρ=>cases f1
 | ct ρ=>cases f1
theorem yxk {n:Nat}{f:Fn}{vs:List V}{H:Hp}{Q:VK}{E:XK}(h:spE K n f vs H Q E):vs.length=n:=by
 obtain ⟨W,xs,x,h',rfl,w,r,hn,_⟩:=h
 rw [r.len,hn]
end
end PX
namespace PX
open PySem L2
variable {K:Ck}
def oI (g:Int->Int->PV):P2:=fun x y h=>match x,y with|.int i,.int j=>some (g i j,h)|_,_=>none
noncomputable def oIc (C:Int->Int->Prop) [∀ i j,Decidable (C i j)] (g:Int->Int->PV):P2:=fun x y h=>match x,y with|.int i,.int j=>if C i j then some (g i j,h) else none|_,_=>none
abbrev yiV:P2:=oI fun i j=>.int (i+j)
abbrev ytM:P2:=oI fun i j=>.int (i-j)
noncomputable def MulOk (i j:Int):Prop:=(-18446744073709551616<i/\i<18446744073709551616)\/(-18446744073709551616<j/\j<18446744073709551616)
instance (i j:Int):Decidable (MulOk i j):=by unfold MulOk;infer_instance
def yra (i j:Int):Prop:=(0<=i/\i<18446744073709551616)/\0<=j/\j<=1000000
instance (i j:Int):Decidable (yra i j):=by unfold yra;infer_instance
abbrev yCo:P2:=oIc MulOk fun i j=>.int (i*j)
abbrev oDiv:P2:=oIc (fun _ j=>0<j/\j<1073741824) fun i j=>.int (i/j)
abbrev oMod:P2:=oIc (fun _ j=>0<j) fun i j=>.int (i%j)
abbrev yCX:P2:=oIc yra fun i j=>.int (i ^ j.toNat)
abbrev oLt:P2:=oI fun i j=>.bl (decide (i<j))
abbrev oLe:P2:=oI fun i j=>.bl (decide (i<=j))
abbrev oGt:P2:=oI fun i j=>.bl (decide (j<i))
abbrev oGe:P2:=oI fun i j=>.bl (decide (j<=i))
abbrev yzY:PV->AH->Option (PV×AH):=fun x h=>match x with|.int i=>some (.int (-i),h)|_=>none
theorem yyY {g:Int->Int->PV}{gV:Int->Int->V}(h:∀ (W:Wd) i j,ycH K W (g i j) (gV i j)):ybZ K (rI0 gV) (oI g):=by
 intro W x y v u Q z h' w rx ry e q
 unfold oI at e
 split at e
 .rename_i i j
  cases e
  exact ⟨i,j,rx,ry,q _ W rfl (.refl w) (h W i j)⟩
 .cases e
theorem ytN {C:Int->Int->Prop} [∀ i j,Decidable (C i j)] {C':Int->Int->Prop}{g:Int->Int->PV}{gV:Int->Int->V}(hc:∀ i j,C i j->C' i j) (h:∀ (W:Wd) i j,ycH K W (g i j) (gV i j)):ybZ K (rI C' gV) (oIc C g):=by
 intro W x y v u Q z h' w rx ry e q
 unfold oIc at e
 split at e
 .rename_i i j
  split at e
  .rename_i c
   cases e
   exact ⟨i,j,rx,ry,hc i j c,q _ W rfl (.refl w) (h W i j)⟩
  .cases e
 .cases e
theorem yeh:ybZ K yCJ yiV:=yyY fun _ _ _=>rfl
theorem ypy:ybZ K yCK ytM:=yyY fun _ _ _=>rfl
theorem yxl:ybZ K yCL yCo:=ytN (fun i j h=>by unfold CMul;rw [show (2:Int) ^ 64=18446744073709551616 by decide];exact h) fun _ _ _=>rfl
theorem yxm:ybZ K yCM oDiv:=ytN (fun i j h=>h) fun _ _ _=>rfl
theorem yfx:ybZ K yCN oMod:=ytN (fun i j h=>h) fun _ _ _=>rfl
theorem yzZ:ybZ K yCO yCX:=ytN (fun i j h=>by unfold yCC;rw [show 2 ^ 64=18446744073709551616 by decide];unfold yra at h;omega) fun _ _ _=>rfl
theorem yyZ:ybZ K yFJ oLt:=yyY fun _ _ _=>rfl
theorem ysP:ybZ K yFK oLe:=yyY fun _ _ _=>rfl
theorem yCp:ybZ K yFL oGt:=yyY fun _ _ _=>rfl
theorem yFP:ybZ K yFM oGe:=yyY fun _ _ _=>rfl
theorem yxn:ywQ K yCP yzY:=by
 intro W x v Q z h' w rx e q
 unfold yzY at e
 split at e
 .rename_i i
  cases e
  exact ⟨i,rx,q _ W rfl (.refl w) rfl⟩
 .cases e
def sv:PV->Option V
 | .non=>some .non
 | .bl b=>some (.bl b)
 | .int i=>some (.int i)
 | .str s=>some (.str s)
 | _=>none
theorem yfE {W:Wd}{x:PV}{v u:V}(e:sv x=some u) (r:ycH K W x v):v=u:=by
 cases x<;>cases e<;>exact r
def oEq:P2:=fun x y h=>match sv x,sv y with|some v,some u=>if yvx v u=true then some (.bl (decide (v=u)),h) else none|_,_=>none
def oNe:P2:=fun x y h=>match sv x,sv y with|some v,some u=>if yvx v u=true then some (.bl (!decide (v=u)),h) else none|_,_=>none
theorem ydt:ybZ K rEq oEq:=by
 intro W x y v u Q z h' w rx ry e q
 unfold oEq at e
 split at e
 .rename_i v' u' e1 e2
  obtain rfl:=yfE e1 rx
  obtain rfl:=yfE e2 ry
  split at e
  .rename_i c
   cases e
   exact ⟨c,q _ W rfl (.refl w) rfl⟩
  .cases e
 .cases e
theorem yvL:ybZ K rNe oNe:=by
 intro W x y v u Q z h' w rx ry e q
 unfold oNe at e
 split at e
 .rename_i v' u' e1 e2
  obtain rfl:=yfE e1 rx
  obtain rfl:=yfE e2 ry
  split at e
  .rename_i c
   cases e
   exact ⟨c,q _ W rfl (.refl w) rfl⟩
  .cases e
 .cases e
def isN:PV->Bool
 | .non=>true
 | _=>false
def yxo:P2:=fun x y h=>match y with|.non=>some (.bl (isN x),h)|_=>none
def ync:P2:=fun x y h=>match y with|.non=>some (.bl (!isN x),h)|_=>none
theorem yrb {W:Wd}{x:PV}{v:V}(r:ycH K W x v):decide (v=.non)=isN x:=by
 cases x with
 | non=>rw [show v=.non from r];rfl
 | bl b=>rw [show v=.bl b from r];rfl
 | int b=>rw [show v=.int b from r];rfl
 | str b=>rw [show v=.str b from r];rfl
 | ty b=>rw [show v=.ty b from r];rfl
 | cls b=>rw [show v=.ref _ from r];rfl
 | scr b=>obtain ⟨a,e,_⟩:=r;rw [e];rfl
 | lst b=>obtain ⟨a,_,e,_⟩:=r;rw [e];rfl
 | tup b=>obtain ⟨a,_,e,_⟩:=r;rw [e];rfl
 | ins k n b=>obtain ⟨a,_,_,e,_⟩:=r;rw [e];rfl
 | loc n=>obtain ⟨a,e,_⟩:=r;rw [e];rfl
theorem ytO:ybZ K yFN yxo:=by
 intro W x y v u Q z h' w rx ry e q
 unfold yxo at e
 split at e
 .cases e
  exact ⟨ry,by rw [yrb rx];exact q _ W rfl (.refl w) rfl⟩
 .cases e
theorem yog:ybZ K yCR ync:=by
 intro W x y v u Q z h' w rx ry e q
 unfold ync at e
 split at e
 .cases e
  exact ⟨ry,by rw [yrb rx];exact q _ W rfl (.refl w) rfl⟩
 .cases e
noncomputable def ycU:P2:=fun x y h=>match x,y with|.str i,.str j=>if i.length+j.length<=100000 then some (.str (i++j),h) else none|_,_=>none
theorem ybV:ybZ K yCQ ycU:=by
 intro W x y v u Q z h' w rx ry e q
 unfold ycU at e
 split at e
 .rename_i i j
  split at e
  .rename_i c
   cases e
   exact ⟨i,j,rx,ry,yxi c,q _ W rfl (.refl w) rfl⟩
  .cases e
 .cases e
noncomputable def yAa:P2:=fun x y h=>match x,y with|.str s,.str j=>(match s.cps.toList with|[c]=>some (.bl (decide (c∈j.cps.toList)),h)|_=>none)|_,_=>none
theorem one_sign {s:Str}{c:Nat}(h:s.cps.toList=[c]):s=⟨#[c]⟩:=by
 obtain ⟨⟨l⟩⟩:=s
 have:l=[c]:=h
 rw [this]
theorem yAb:ybZ K yFo yAa:=by
 intro W x y v u Q z h' w rx ry e q
 unfold yAa at e
 split at e
 .rename_i s j
  split at e
  .rename_i c hc
   cases e
   exact ⟨c,j,by rw [<- one_sign hc];exact rx,ry,q _ W rfl (.refl w) rfl⟩
  .cases e
 .cases e
def ycs:P2:=fun x y h=>match y with
 | .int i=>(match x with
  | .lst xs=>(match atI xs i with|some v=>some (v,h)|none=>none)
  | .scr ns=>(match atI ns i with|some v=>some (.int v,h)|none=>none)
  | .loc n=>(match h[n]? with|some (.lst xs)=>(match atI xs i with|some v=>some (v,h)|none=>none)|_=>none)
  | _=>none)
 | _=>none
def yba:P2:=fun x y h=>match x,y with|.tup xs,.int i=>(match atI xs i with|some v=>some (v,h)|none=>none)|_,_=>none
def yAc:P2:=fun x y h=>match x,y with|.str s,.int i=>(match atI s.cps.toList i with|some c=>if s.length<=100000 then some (sgn c,h) else none|none=>none)|_,_=>none
theorem RepL.at {F:Hp}{m:List Addr}{xs:List PV}{vs:List V}(r:RepL K F m xs vs) {i:Int}{x:PV}(e:atI xs i=some x):∃ v,atI vs i=some v/\Rep K F m x v:=by
 unfold atI at e ⊢
 rw [r.len]
 obtain ⟨j,e1,e2⟩:=Option.bind_eq_some_iff.mp e
 rw [e1]
 exact r.get e2
theorem WOk.loc {W:Wd}(w:WOk K W) {n:Nat}{d:Nd}{v:V}(e:W.h[n]?=Option.some d) (r:ycH K W (.loc n) v):∃ a,v=.ref a/\W.m[n]?=Option.some a/\NdAt K W.F W.H W.m d a:=by
 obtain ⟨a,ea,h⟩:=r
 exact ⟨a,ea,h,w.at_ n d a e h⟩
theorem ycV:ybZ K (yFg K.K) ycs:=by
 intro W x y v u Q z h' w rx ry e q
 unfold ycs at e
 split at e
 .rename_i i
  split at e
  .rename_i xs
   split at e
   .rename_i y hy
    cases e
    obtain ⟨a,vs,ev,hs,rs⟩:=rx
    obtain ⟨v',h1,h2⟩:=rs.at hy
    exact ⟨a,vs,i,v',ev,ry,SqL.of (w.le _ _ hs),h1,q _ W rfl (.refl w) h2⟩
   .cases e
  .rename_i ns
   split at e
   .rename_i y hy
    cases e
    obtain ⟨a,ev,hs⟩:=rx
    refine ⟨a,_,i,.int y,ev,ry,yfN w hs,?_,q _ W rfl (.refl w) rfl⟩
    unfold atI at hy ⊢
    rw [length_map]
    obtain ⟨j,e1,e2⟩:=Option.bind_eq_some_iff.mp hy
    rw [e1]
    show (ns.map V.int)[j]?=_
    rw [getElem?_map,e2];rfl
   .cases e
  .rename_i n
   split at e
   .rename_i xs hn
    split at e
    .rename_i y hy
     cases e
     obtain ⟨a,ev,hm,hf,vs,hp,rs⟩:=w.loc hn rx
     obtain ⟨v',h1,h2⟩:=rs.at hy
     exact ⟨a,vs,i,v',ev,ry,SqL.of hp,h1,q _ W rfl (.refl w) h2⟩
    .cases e
   .cases e
  .cases e
 .cases e
theorem yQ:ybZ K (yFh K.K) yba:=by
 intro W x y v u Q z h' w rx ry e q
 unfold yba at e
 split at e
 .rename_i xs i
  split at e
  .rename_i y hy
   cases e
   obtain ⟨a,vs,ev,hs,rs⟩:=rx
   obtain ⟨v',h1,h2⟩:=rs.at hy
   exact ⟨a,vs,i,v',ev,ry,ydo w hs,h1,q _ W rfl (.refl w) h2⟩
  .cases e
 .cases e
theorem yCY:ybZ K yFi yAc:=by
 intro W x y v u Q z h' w rx ry e q
 unfold yAc at e
 split at e
 .rename_i s i
  split at e
  .rename_i c hc
   split at e
   .rename_i hl
    cases e
    exact ⟨s,i,c,rx,ry,yxi hl,hc,q _ W rfl (.refl w) rfl⟩
   .cases e
  .cases e
 .cases e
noncomputable def ysQ {α:Type}(xs:List α) (lo hi:Option Int):List α:=(xs.drop (HT.sIx xs.length 0 lo)).take (HT.sIx xs.length xs.length hi-HT.sIx xs.length 0 lo)
noncomputable def listOf (x:PV) (h:AH):Option (List PV):=match x with|.lst xs=>some xs|.scr ns=>some (ns.map .int)|.loc n=>(match h[n]? with|some (.lst xs)=>some xs|_=>none)|_=>none
theorem ygQ {W:Wd}(w:WOk K W) {x:PV}{v:V}{xs:List PV}(e:listOf x W.h=some xs) (r:ycH K W x v):∃ a vs,v=.ref a/\SqL K.K W.H a vs/\ycI K W xs vs:=by
 unfold listOf at e
 split at e
 .cases e
  obtain ⟨a,vs,ev,hs,rs⟩:=r
  exact ⟨a,vs,ev,SqL.of (w.le _ _ hs),rs⟩
 .rename_i ns
  cases e
  obtain ⟨a,ev,hs⟩:=r
  exact ⟨a,_,ev,yfN w hs,RepL.of_ints ns⟩
 .rename_i n
  split at e
  .rename_i ys hn
   cases e
   obtain ⟨a,ev,hm,hf,vs,hp,rs⟩:=w.loc hn r
   exact ⟨a,vs,ev,SqL.of hp,rs⟩
  .cases e
 .cases e
noncomputable def ybL (x:PV) (h:AH):Option (List PV):=match x with|.lst xs=>some xs|.loc n=>(match h[n]? with|some (.lst xs)=>some xs|_=>none)|_=>none
theorem yY {W:Wd}(w:WOk K W) {x:PV}{v:V}{xs:List PV}(e:ybL x W.h=some xs) (r:ycH K W x v):∃ a vs,v=.ref a/\W.H a=some (.lst vs)/\ycI K W xs vs:=by
 unfold ybL at e
 split at e
 .cases e
  obtain ⟨a,vs,ev,hs,rs⟩:=r
  exact ⟨a,vs,ev,w.le _ _ hs,rs⟩
 .rename_i n
  split at e
  .rename_i ys hn
   cases e
   obtain ⟨a,ev,hm,hf,vs,hp,rs⟩:=w.loc hn r
   exact ⟨a,vs,ev,hp,rs⟩
  .cases e
 .cases e
theorem yAd {W:Wd}(w:WOk K W) {p:Addr}(hp:W.H p=none) {xs:List PV}{vs:List V}(r:ycI K W xs vs) {Q:VK}(q:ypv K W (.lst xs) W.h Q):Q (.ref p) (upd W.H p (.lst vs)) :=
 q p (ygM W p (.lst vs)) rfl (ycC w hp) (w.out hp) hp (fun z=>by cases z) ⟨w.ff hp,vs,yx,r⟩
def yAe:PV->Option Int->Option Int->AH->Option (Nd×AH):=fun x lo hi h=>match listOf x h with|some xs=>some (.lst (ysQ xs lo hi),h)|none=>none
theorem yCZ:yqT K (yFj K.K) yAe:=by
 intro W x v lo hi Q d h' w rx e q
 unfold yAe at e
 split at e
 .rename_i xs hx
  cases e
  obtain ⟨a,vs,ev,hs,rs⟩:=ygQ w hx rx
  refine ⟨a,vs,ev,hs,fun p hp=>yAd w hp ?_ q⟩
  have:=(rs.drop (HT.sIx xs.length 0 lo)).take (HT.sIx xs.length xs.length hi-HT.sIx xs.length 0 lo)
  unfold ysQ yzH
  rw [rs.len]
  exact this
 .cases e
def yza:P2O:=fun x y h=>match ybL x h,ybL y h with|some xs,some ys=>if xs.length+ys.length<=100000 then some (.lst (xs++ys),h) else none|_,_=>none
theorem ytP:yod K yFl yza:=by
 intro W x y v u Q d h' w rx ry e q
 unfold yza at e
 split at e
 .rename_i xs ys hx hy
  split at e
  .rename_i hl
   cases e
   obtain ⟨a,vs,ev,hs,rs⟩:=yY w hx rx
   obtain ⟨b,us,eu,ht,ru⟩:=yY w hy ry
   refine ⟨a,b,vs,us,ev,eu,hs,ht,by rw [rs.len,ru.len];exact yxi hl,fun p hp=>yAd w hp (rs.app ru) q⟩
  .cases e
 .cases e
def repL {α:Type}(k:Nat) (xs:List α):List α:=(replicate k xs).flatten
theorem RepL.rep {F:Hp}{m:List Addr}{xs:List PV}{vs:List V}(r:RepL K F m xs vs):∀ k:Nat,RepL K F m (repL k xs) (repL k vs)
 | 0=>rfl
 | k+1=>by
  show RepL K F m ((replicate (k+1) xs).flatten) ((replicate (k+1) vs).flatten)
  rw [List.replicate_succ,List.replicate_succ,List.flatten_cons,List.flatten_cons]
  exact r.app (RepL.rep r k)
def yxp:P2O:=fun x y h=>match ybL x h,y with|some xs,.int k=>if -1000000<=k/\k<=100000/\xs.length*k.toNat<=100000 then some (.lst (repL k.toNat xs),h) else none|_,_=>none
theorem yxq:yod K yFm yxp:=by
 intro W x y v u Q d h' w rx ry e q
 unfold yxp at e
 split at e
 .rename_i xs k hx
  split at e
  .rename_i hl
   cases e
   obtain ⟨a,vs,ev,hs,rs⟩:=yY w hx rx
   refine ⟨a,k,vs,ev,ry,hs,by omega,by omega,by rw [rs.len];exact yxi hl.2.2,fun p hp=>yAd w hp (rs.rep _) q⟩
  .cases e
 .cases e
noncomputable def yrc (x:PV) (h:AH):Option Nat:=match x with|.tup xs=>some xs.length|.lst xs=>some xs.length|.scr ns=>some ns.length|.loc n=>(match h[n]? with|some (.lst xs)=>some xs.length|_=>none)|_=>none
def yca:List PV->AH->Option (PV×AH):=fun xs h=>match xs with|[x]=>(match yrc x h with|some n=>some (.int n,h)|none=>none)|_=>none
noncomputable def ynd:List PV->AH->Option (PV×AH):=fun xs h=>match xs with|[.str z]=>if z.length<=100000 then some (.int z.length,h) else none|_=>none
theorem yoh {W:Wd}{x:PV}{vs:List V}(r:ycI K W [x] vs):∃ v,vs=[v]/\ycH K W x v:=by
 obtain ⟨v,r',e,h,l⟩:=r
 exact ⟨v,by rw [e,show r'=[] from l],h⟩
theorem yFQ {W:Wd}{x y:PV}{vs:List V}(r:ycI K W [x,y] vs):∃ v u,vs=[v,u]/\ycH K W x v/\ycH K W y u:=by
 obtain ⟨v,r',e,h,l⟩:=r
 obtain ⟨u,e2,h2⟩:=yoh l
 exact ⟨v,u,by rw [e,e2],h,h2⟩
theorem ydg:yhN K (yzK K.K) yca:=by
 intro W xs vs Q z h' w r e q
 unfold yca at e
 split at e
 .rename_i x
  split at e
  .rename_i n hn
   cases e
   obtain ⟨v,rfl,rx⟩:=yoh r
   have fin:∀ (ys:List V),ys.length=n->Q (.int ys.length) W.H:=fun ys hl=>by rw [hl];exact q _ W rfl (.refl w) rfl
   unfold yrc at hn
   split at hn
   .cases hn
    obtain ⟨a,us,rfl,hs,rs⟩:=rx
    exact ⟨a,us,rfl,.inr (ydo w hs),fin _ rs.len⟩
   .rename_i ys
    cases hn
    obtain ⟨a,us,rfl,hs,rs⟩:=rx
    exact ⟨a,us,rfl,.inl (SqL.of (w.le _ _ hs)),fin _ rs.len⟩
   .rename_i ns
    cases hn
    obtain ⟨a,rfl,hs⟩:=rx
    exact ⟨a,_,rfl,.inl (yfN w hs),fin _ (by simp)⟩
   .split at hn
    .rename_i ys hy
     cases hn
     obtain ⟨a,rfl,hm,hf,us,hp,rs⟩:=w.loc hy rx
     exact ⟨a,us,rfl,.inl (SqL.of hp),fin _ rs.len⟩
    .cases hn
   .cases hn
  .cases e
 .cases e
theorem yoi:yhN K yCS ynd:=by
 intro W xs vs Q z h' w r e q
 unfold ynd at e
 split at e
 .rename_i s
  split at e
  .rename_i hl
   cases e
   obtain ⟨v,rfl,rx⟩:=yoh r
   exact ⟨s,by rw [show v=_ from rx],yxi hl,q _ W rfl (.refl w) rfl⟩
  .cases e
 .cases e
noncomputable def ykf:List PV->AH->Option (PV×AH):=fun xs h=>match xs with|[.int i]=>if i.natAbs.log2<1920 then some (.str (toString i:String),h) else none|_=>none
theorem ylI:yhN K yCT ykf:=by
 intro W xs vs Q z h' w r e q
 unfold ykf at e
 split at e
 .rename_i i
  split at e
  .rename_i hl
   cases e
   obtain ⟨v,rfl,rx⟩:=yoh r
   exact ⟨i,by rw [show v=_ from rx],hl,q _ W rfl (.refl w) rfl⟩
  .cases e
 .cases e
noncomputable def yrd:List PV->AH->Option (PV×AH):=fun xs h=>match xs with|[.str z]=>if z.cps.toList≠[]/\(∀ c∈z.cps.toList,48<=c/\c<=57)/\z.length<=640 then some (.int (ywL z.cps.toList),h) else none|_=>none
theorem yAf:yhN K yzL yrd:=by
 intro W xs vs Q z h' w r e q
 unfold yrd at e
 split at e
 .rename_i i
  split at e
  .rename_i hl
   cases e
   obtain ⟨v,rfl,rx⟩:=yoh r
   exact ⟨i,by rw [show v=_ from rx],hl.1,hl.2.1,hl.2.2,q _ W rfl (.refl w) rfl⟩
  .cases e
 .cases e
def yV:List PV->AH->Option (Nd×AH):=fun xs h=>match xs with|[.tup ys]=>some (.lst ys,h)|[x]=>(match listOf x h with|some ys=>some (.lst ys,h)|none=>none)|_=>none
theorem ybn:yqN K (ywM K.K) yV:=by
 intro W xs vs Q d h' w r e q
 unfold yV at e
 split at e
 .rename_i ys
  cases e
  obtain ⟨v,rfl,a,us,rfl,hs,rs⟩:=yoh r
  exact ⟨a,us,rfl,.inr (ydo w hs),fun p hp=>yAd w hp rs q⟩
 .rename_i x _
  split at e
  .rename_i ys hy
   cases e
   obtain ⟨v,rfl,rx⟩:=yoh r
   obtain ⟨a,us,rfl,hs,rs⟩:=ygQ w hy rx
   exact ⟨a,us,rfl,.inl hs,fun p hp=>yAd w hp rs q⟩
  .cases e
 .cases e
def intsOf:List PV->Option (List Int)
 | []=>some []
 | .int s::r=>(intsOf r).map (s::·)
 | _=>none
def yhP:List PV->Option (List Bool)
 | []=>some []
 | .bl s::r=>(yhP r).map (s::·)
 | _=>none
theorem yjq:∀ ss:List Int,intsOf (ss.map .int)=some ss
 | []=>rfl
 | s::ss=>by show (intsOf (ss.map .int)).map _=_;rw [yjq ss];rfl
theorem ylJ:∀ ss:List Bool,yhP (ss.map .bl)=some ss
 | []=>rfl
 | s::ss=>by show (yhP (ss.map .bl)).map _=_;rw [ylJ ss];rfl
theorem yjr {F:Hp}{m:List Addr}:∀ {xs:List PV}{ss:List Int}{vs:List V},intsOf xs=some ss->RepL K F m xs vs->vs=ss.map V.int
 | [],_,_,e,r=>by cases e;exact r
 | x::xs,ss,_,e,⟨v,r',ev,h,l⟩=>by
  cases x<;>try cases e
  rename_i s
  obtain ⟨ts,e1,e2⟩:=Option.map_eq_some_iff.mp e
  subst e2
  rw [ev,show v=_ from h,yjr e1 l];rfl
theorem yhQ {F:Hp}{m:List Addr}:∀ {xs:List PV}{ss:List Bool}{vs:List V},yhP xs=some ss->RepL K F m xs vs->vs=ss.map V.bl
 | [],_,_,e,r=>by cases e;exact r
 | x::xs,ss,_,e,⟨v,r',ev,h,l⟩=>by
  cases x<;>try cases e
  rename_i s
  obtain ⟨ts,e1,e2⟩:=Option.map_eq_some_iff.mp e
  subst e2
  rw [ev,show v=_ from h,yhQ e1 l];rfl
def yAg:List PV->AH->Option (PV×AH):=fun xs h=>match xs with|[x]=>(match ybL x h with|some ys=>(match intsOf ys with|some ns=>some (.int ns.sum,h)|none=>none)|none=>none)|_=>none
theorem yDa:yhN K yFq yAg:=by
 intro W xs vs Q z h' w r e q
 unfold yAg at e
 split at e
 .split at e
  .rename_i ys hy
   split at e
   .rename_i ns hn
    cases e
    obtain ⟨v,rfl,rx⟩:=yoh r
    obtain ⟨a,us,rfl,hs,rs⟩:=yY w hy rx
    have:=yjr hn rs
    subst this
    exact ⟨a,ns,rfl,hs,q _ W rfl (.refl w) rfl⟩
   .cases e
  .cases e
 .cases e
def yvM:List PV->AH->Option (PV×AH):=fun xs h=>match xs with|[x]=>(match ybL x h with|some ys=>(match yhP ys with|some ns=>some (.bl (ns.all id),h)|none=>none)|none=>none)|_=>none
theorem yAh:yhN K yFp yvM:=by
 intro W xs vs Q z h' w r e q
 unfold yvM at e
 split at e
 .split at e
  .rename_i ys hy
   split at e
   .rename_i ns hn
    cases e
    obtain ⟨v,rfl,rx⟩:=yoh r
    obtain ⟨a,us,rfl,hs,rs⟩:=yY w hy rx
    have:=yhQ hn rs
    subst this
    exact ⟨a,ns,rfl,hs,q _ W rfl (.refl w) rfl⟩
   .cases e
  .cases e
 .cases e
def isStr:PV->AH->Bool:=fun x _=>match x with|.str _=>true|_=>false
noncomputable def yne:PM:=fun x xs h=>match x,xs with|.str z,[.str s]=>(match s.cps.toList with|[c]=>if z.length<=1000/\c∈z.cps.toList then some (.int (z.cps.toList.idxOf c),h) else none|_=>none)|_,_=>none
theorem ytQ:yka K "str" isStr yqI yne:=by
 refine ⟨fun W x v w r c=>?_,fun W x v xs vs Q z h' w rx r e q=>?_⟩
 .unfold isStr at c
  split at c
  .rw [show v=_ from r];rfl
  .cases c
 .unfold yne at e
  split at e
  .rename_i z s
   split at e
   .rename_i c hc
    split at e
    .rename_i hl
     cases e
     obtain ⟨u,rfl,ru⟩:=yoh r
     exact ⟨z,c,rx,by rw [show u=_ from ru,one_sign hc],hl.1,hl.2,q _ W rfl (.refl w) rfl⟩
    .cases e
   .cases e
  .cases e
end PX
namespace PX
open PySem L2
variable {K:Ck}
noncomputable def putN (f:Str) (x:PV) (ns:List Str) (xs:List PV):List Str×List PV:=if f∈ns then (ns,xs.set (ns.idxOf f) x) else (ns++[f],xs++[x])
theorem yoj (f:Str) (y:V):∀ (ns:List Str) (vs:List V),vs.length=ns.length->yjn f y (ns.zip vs)=if f∈ns then ns.zip (vs.set (ns.idxOf f) y) else (ns++[f]).zip (vs++[y])
 | [],[],_=>by simp [yjn]
 | n::ns,v::vs,hl=>by
  have ih:=yoj f y ns vs (by simpa using hl)
  show (if n=f then (n,y)::ns.zip vs else (n,v)::yjn f y (ns.zip vs))=_
  by_cases h:n=f
  .subst h
   simp [List.idxOf_cons_self]
  .have h':¬ f=n:=fun z=>h z.symm
   have hb:(n == f)=false:=by simpa using h
   rw [if_neg h,ih]
   by_cases hm:f∈ns
   .simp [hm,h',List.idxOf_cons,hb]
   .simp [hm,h']
theorem yjs {f:Str}:∀ {ns:List Str}{vs:List V},vs.length=ns.length->f∈ns->(ns.zip vs).lookup f=vs[ns.idxOf f]?
 | [],_,_,h=>by simp at h
 | n::ns,v::vs,hl,h=>by
  show List.lookup f ((n,v)::ns.zip vs)=_
  by_cases hn:f=n
  .subst hn
   rw [yCV,List.idxOf_cons_self];rfl
  .rw [yzM hn,yjs (by simpa using hl) (by simpa [hn] using h)]
   have hb:(n == f)=false:=by simpa using fun z:n=f=>hn z.symm
   simp [List.idxOf_cons,hb]
theorem ydE {f:Str}:∀ {ns:List Str}{vs:List V},f∉ns->(ns.zip vs).lookup f=none
 | [],_,_=>by simp
 | n::ns,[],_=>by simp
 | n::ns,v::vs,h=>by
  show List.lookup f ((n,v)::ns.zip vs)=_
  rw [yzM (fun z:f=n=>h (by rw [z];exact mem_cons_self)),ydE fun z=>h (mem_cons_of_mem _ z)]
noncomputable def yeQ (x:PV) (h:AH):Option (Nat×List Str×List PV):=match x with|.ins k ns xs=>some (k,ns,xs)|.loc n=>(match h[n]? with|some (.ins k ns xs)=>some (k,ns,xs)|_=>none)|_=>none
theorem ygk {W:Wd}(w:WOk K W) {x:PV}{v:V}{k:Nat}{ns:List Str}{xs:List PV}(e:yeQ x W.h=some (k,ns,xs)) (r:ycH K W x v):∃ a dx vs,v=.ref a/\W.H a=some (.ins (K.A k) dx (ns.zip vs))/\vs.length=ns.length/\ycI K W xs vs:=by
 unfold yeQ at e
 split at e
 .cases e
  obtain ⟨a,dx,vs,ev,hs,hl,rs⟩:=r
  exact ⟨a,dx,vs,ev,w.le _ _ hs,hl,rs⟩
 .rename_i n
  split at e
  .rename_i hn
   cases e
   obtain ⟨a,ev,hm,hf,dx,vs,hp,hl,rs⟩:=w.loc hn r
   exact ⟨a,dx,vs,ev,hp,hl,rs⟩
  .cases e
 .cases e
def ybb (cs:List Nat) (f:Str) (e:XE):XE:=fun ρ h=>ob (e ρ h) fun x h1=>match yeQ x h1 with|some (k,ns,xs)=>if k∈cs/\f∈ns then (match xs[ns.idxOf f]? with|some y=>some (y,h1)|none=>none) else none|none=>none
theorem yxr {cs:List Nat}{f:Str}{ta:TE}{ea:XE}(hc:∀ k∈cs,Cls K.K (K.A k)/\NoAttr K.K (K.A k) f) (a:ybN K ta ea):ybN K (yFd K.K ta f) (ybb cs f ea):=by
 intro W0 W ρ σ Q z h' g e q
 obtain ⟨x,h1,e1,f1⟩:=yg e
 refine a W0 W ρ σ _ x h1 g e1 fun v W1 w1 l1 r1=>?_
 subst w1
 split at f1
 .rename_i k ns xs hi
  split at f1
  .rename_i c
   split at f1
   .rename_i y hy
    cases f1
    obtain ⟨a,dx,vs,ev,hp,hl,rs⟩:=ygk l1.ok hi r1
    obtain ⟨u,h2,h3⟩:=rs.get hy
    exact ⟨a,_,dx,_,u,ev,hp,(hc k c.1).1,(hc k c.1).2,by rw [yjs hl c.2];exact h2,q _ W1 rfl l1 h3⟩
   .cases f1
  .cases f1
 .cases f1
def ycW (cs:List Nat) (i:Nat) (f:Str) (e:XE):XS:=fun ρ h=>ob (e ρ h) fun x h1=>match ρ[i]? with
 | some (.own (.ins k ns xs))=>if k∈cs/\ns.length<1000 then some (.nx (ρ.set i (.own (.ins k (putN f x ns xs).1 (putN f x ns xs).2))),h1) else none
 | _=>none
theorem RepL.putN {F:Hp}{m:List Addr}{f:Str}{x:PV}{v:V}{ns:List Str}{xs:List PV}{vs:List V}(r:RepL K F m xs vs) (hl:vs.length=ns.length) (rx:Rep K F m x v) :
  ∃ us,yjn f v (ns.zip vs)=(PX.putN f x ns xs).1.zip us/\us.length=(PX.putN f x ns xs).1.length/\RepL K F m (PX.putN f x ns xs).2 us:=by
 rw [yoj f v ns vs hl]
 unfold PX.putN
 by_cases h:f∈ns
 .rw [if_pos h,if_pos h]
  exact ⟨_,rfl,by rw [length_set];exact hl,r.set _ rx⟩
 .rw [if_neg h,if_neg h]
  exact ⟨_,rfl,by rw [length_append,length_append,hl];rfl,r.snoc rx⟩
noncomputable def ysR (K:Ck) (t:TS) (s:XS):Prop:=∀ (W0 W:Wd) (ρ ρ':PSt) (σ:St) (D:Ends) (h':AH),Good K W0 W ρ σ->s ρ W.h=some (.nx ρ',h')->(∀ W',W'.h=h'->Lf K W W'->Good K W0 W' ρ' σ->D.nx σ W'.H)->t D σ W.H
theorem ytR {cs:List Nat}{i:Nat}{f:Str}{ta:TE}{ea:XE}(hc:∀ k∈cs,Cls K.K (K.A k)/\NoAttr K.K (K.A k) f) (a:ybN K ta ea):ysR K (yCE K.K (ypW i) ta f) (ycW cs i f ea):=by
 intro W0 W ρ ρ' σ D h' g e q
 obtain ⟨x,h1,e1,f1⟩:=yg e
 split at f1
 .rename_i k ns xs hi
  split at f1
  .rename_i c
   cases f1
   refine a W0 W ρ σ _ x _ g e1 fun v W1 w1 l1 r1=>?_
   have g1:=g.step l1
   obtain ⟨p,b1,b2,b3,b4,b5,dx,vs,b6,b7,b8⟩:=g1.own i _ hi
   obtain ⟨us,p1,p2,p3⟩:=b8.putN (f:=f) b7 r1
   refine ⟨_,b1,p,_,dx,_,rfl,b6,(hc k c.1).1,(hc k c.1).2,by rw [length_zip,b7];simpa using c.2,?_⟩
   rw [p1]
   exact q (yqV W1 p _) w1 (yqW l1 b2) (g1.mut hi b1 b2 b3 b5 (fun z=>by cases z) ⟨b5,dx,us,yx,p2,p3⟩)
  .cases f1
 .cases f1
theorem ytS {t u:TS}{s s':XS}(a:ysR K t s) (b:ysR K u s'):ysR K (yCx t u) (yl s s'):=by
 intro W0 W ρ ρ' σ D h' g e q
 obtain ⟨o1,h1,e1,f1⟩:=yg e
 cases o1 with
 | nx ρ1=>exact a W0 W ρ ρ1 σ _ h1 g e1 fun W1 w1 l1 g1=>b W0 W1 ρ1 ρ' σ D h' g1 (by rw [w1];exact f1) fun W2 w2 l2 g2=>q W2 w2 (l1.trans l2) g2
 | rt y=>cases f1
 | bk y=>cases f1
 | ct y=>cases f1
def yok (N:Nat) (k:Nat) (s:XS):List PV->AH->Option (Nd×AH):=fun xs h=>ob (s (.own (.ins k [] [])::(xs.map .val++replicate (N-(xs.length+1)) .no)) h) fun o h1=>match o with|.nx ρ=>(match ρ[0]? with|some (PVar.own d)=>some (d,h1)|_=>none)|_=>none
def spI (K:Ck) (n k:Nat) (f:List PV->AH->Option (Nd×AH)):Sp:=fun vs H Q _=>∃ (W:Wd) (x dx:Addr) (args:List V) (xs:List PV) (d:Nd) (h':AH),vs=.ref x::args/\W.H x=none/\W.H dx=none/\dx≠x/\H=upd (upd W.H dx (.own x)) x (.ins (K.A k) dx []) /\
 WOk K W/\ycI K W xs args/\xs.length=n/\f xs W.h=some (d,h')/\∀ W',W'.h=h'->Le K W W'->x∉W'.m->d≠.dead->NdAt K W'.F W'.H W'.m d x->Q .non W'.H
theorem yxs {n k:Nat}{f} {vs:List V}{H:Hp}{Q:VK}{E:XK}(h:spI K n k f vs H Q E):vs.length=n+1:=by
 obtain ⟨W,x,dx,args,xs,d,h',rfl,_,_,_,_,w,r,hn,_⟩:=h
 rw [length_cons,r.len,hn]
theorem ytT {N:List Str}{n k:Nat}{t:TS}{s:XS}{vs:List V}{H:Hp}{Q:VK}{E:XK}{bk ct:St->Hp->Prop}(hN:n+1<=N.length) (a:ysR K t s) (h:spI K n k (yok N.length k s) vs H Q E):t ⟨fun _ H'=>Q .non H',Q,bk,ct⟩ (L2.start N vs) H:=by
 obtain ⟨W,x,dx,args,xs,d,h',rfl,hx,hd,hne,rfl,w,r,hn,e,q⟩:=h
 obtain ⟨o,h1,e1,f1⟩:=yg e
 have l1:Le K W (ygM W dx (.own x)):=ycC w hd
 have hx1:(ygM W dx (.own x)).H x=none:=(yF hne.symm).trans hx
 have l2:Le K (ygM W dx (.own x)) (ygM (ygM W dx (.own x)) x (.ins (K.A k) dx [])):=ycC l1.ok hx1
 have l:=l1.trans l2
 have gs:=ygP (K:=K) (N:=N.drop 1) w r
 have g:Good K W (ygM (ygM W dx (.own x)) x (.ins (K.A k) dx [])) (.own (.ins k [] [])::(xs.map .val++replicate (N.length-(xs.length+1)) .no)) (L2.start N (.ref x::args)):=by
  have es:L2.start N (.ref x::args)=some (.ref x)::L2.start (N.drop 1) args:=by
   have e3:N.length-(args.length+1)=(N.drop 1).length-args.length:=by rw [length_drop];omega
   unfold L2.start
   rw [map_cons,List.cons_append,length_cons,e3]
  have eN:N.length-(xs.length+1)=(N.drop 1).length-xs.length:=by rw [length_drop];omega
  rw [es,eN]
  have gs':=gs.step l
  have noown:∀ (j:Nat) (d:Nd),(xs.map PVar.val++replicate ((N.drop 1).length-xs.length) .no)[j]?≠some (.own d):=fun j d z=>by
   by_cases hj:j<xs.length
   .rw [getElem?_append_left (by simpa using hj),getElem?_map,List.getElem?_eq_getElem hj] at z
    cases z
   .rw [getElem?_append_right (by simp;omega),getElem?_replicate] at z
    split at z<;>cases z
  refine ⟨l,by rw [length_cons,length_cons,gs.len],fun j y z=>?_,fun j d z=>?_,fun i j d d' hij z z'=>?_⟩
  .cases j with
   | zero=>cases z
   | succ j=>exact gs'.val j y z
  .cases j with
   | zero=>cases z;exact ⟨x,rfl,w.out hx,hx,(fun z=>by cases z),w.ff hx,dx,[],yx,rfl,rfl⟩
   | succ j=>exact absurd z (noown j d)
  .cases i with
   | zero =>
    cases j with
    | zero=>exact absurd rfl hij
    | succ j=>exact absurd z' (noown j d')
   | succ i=>exact absurd z (noown i d)
 cases o with
 | rt y=>cases f1
 | bk ρ=>cases f1
 | ct ρ=>cases f1
 | nx ρ =>
  refine a W _ _ ρ _ _ h1 g e1 fun W' ew lf g'=>?_
  dsimp only at f1
  split at f1
  .rename_i d' hd'
   cases f1
   obtain ⟨p,b1,b2,b3,b4,b5⟩:=g'.own 0 _ hd'
   have b1:some (some (V.ref x))=some (some (V.ref p)):=b1
   cases b1
   exact q W' ew g'.le b2 b4 b5
  .cases f1
def ygR (f:List PV->AH->Option (Nd×AH)) (a:XA):XO:=fun ρ h=>ob (a ρ h) f
theorem yol {n k:Nat}{f} {ex:XK}{t:TA}{e:XA}(a:ymq K t e) (hn:∀ ρ h xs h',e ρ h=some (xs,h')->xs.length=n):ylF K (ytn (K.A k) (spI K n k f) [] ex t) (ygR f e):=by
 intro W0 W ρ σ Q d h' g e' q
 obtain ⟨xs,h1,e1,e2⟩:=yg e'
 refine a W0 W ρ σ _ xs h1 g e1 fun vs W1 w1 l1 r1=>?_
 subst w1
 intro x dx hx hd hne
 rw [append_nil]
 exact ⟨W1,x,dx,vs,xs,d,h',rfl,hx,hd,hne,rfl,l1.ok,r1,hn _ _ _ _ e1,e2,fun W2 w2 l2 hm hdd at_=>⟨rfl,q x W2 w2 (l1.trans l2) hm (l1.fresh hx) hdd at_⟩⟩
def yom (k:Nat):XO:=fun _ h=>some (.ins k [] [],h)
theorem yre {k:Nat}:ylF K (yvD (K.A k)) (yom k):=by
 intro W0 W ρ σ Q d h' g e q
 cases e
 intro x dx hx hd hne
 have w:=g.ok
 have l1:Le K W (ygM W dx (.own x)):=ycC w hd
 have hx1:(ygM W dx (.own x)).H x=none:=(yF hne.symm).trans hx
 have l2:Le K (ygM W dx (.own x)) (ygM (ygM W dx (.own x)) x (.ins (K.A k) dx [])):=ycC l1.ok hx1
 exact q x (ygM (ygM W dx (.own x)) x (.ins (K.A k) dx [])) rfl (l1.trans l2) (w.out hx) hx (fun z=>by cases z) ⟨w.ff hx,dx,[],yx,rfl,rfl⟩
def yiZ (m:Str) (f:Nat->Fn) (e:XE):XE:=fun ρ h=>ob (e ρ h) fun x h1=>match yeQ x h1 with|some (k,ns,_)=>if m∈ns then none else f k [x] h1|none=>none
theorem ytU {m:Str}{f:Nat->Fn}{ta:TE}{ea:XE}(a:ybN K ta ea):ybN K (yvE K.A m (fun k=>spE K 1 (f k)) ta) (yiZ m f ea):=by
 intro W0 W ρ σ Q z h' g e q
 obtain ⟨x,h1,e1,f1⟩:=yg e
 refine a W0 W ρ σ _ x h1 g e1 fun v W1 w1 l1 r1=>?_
 subst w1
 split at f1
 .rename_i k ns xs hi
  split at f1
  .cases f1
  .rename_i hm
   obtain ⟨b,dx,vs,ev,hp,hl,rs⟩:=ygk l1.ok hi r1
   exact ⟨b,k,dx,_,ev,hp,ydE hm,W1,[x],z,h',rfl,l1.ok,⟨v,[],rfl,r1,rfl⟩,rfl,f1,fun u W2 w2 l2 r2=>q u W2 w2 (l1.trans l2) r2⟩
 .cases f1
def yAi (tb:List (Nat×Nat×Bool)) (x c:PV) (h:AH):Option Bool:=match c with
 | .ty n=>(match x with
  | .int _=>if n = "int" then some true else if n = "bool"\/n = "str"\/n = "list"\/n = "tuple"\/n = "dict" then some false else none
  | .bl _=>if n = "int"\/n = "bool" then some true else if n = "str"\/n = "list"\/n = "tuple"\/n = "dict" then some false else none
  | .str _=>if n = "str" then some true else if n = "int"\/n = "bool"\/n = "list"\/n = "tuple"\/n = "dict" then some false else none
  | .non=>if n = "int"\/n = "bool"\/n = "str"\/n = "list"\/n = "tuple"\/n = "dict" then some false else none
  | .tup _=>if n = "tuple" then some true else if n = "int"\/n = "bool"\/n = "str"\/n = "list"\/n = "dict" then some false else none
  | _=>(match ybL x h with|some _=>if n = "list" then some true else if n = "int"\/n = "bool"\/n = "str"\/n = "tuple"\/n = "dict" then some false else none|none=>none))
 | .cls c'=>(match yeQ x h with|some (k,_)=>(tb.find? fun r=>r.1 == k && r.2.1 == c').map (·.2.2)|none=>none)
 | _=>none
def ymr (tb:List (Nat×Nat×Bool)):List PV->AH->Option (PV×AH):=fun xs h=>match xs with|[x,c]=>(match yAi tb x c h with|some b=>some (.bl b,h)|none=>none)|_=>none
theorem ygl {tb:List (Nat×Nat×Bool)}(ht:∀ r∈tb,∀ (H:Hp) (a dx:Addr) (fs:List (Str×V)),H a=some (.ins (K.A r.1) dx fs)->IsI K.K H (.ref a) (.ref (K.A r.2.1)) r.2.2):yhN K (yFn K.K) (ymr tb):=by
 intro W xs vs Q z h' w r e q
 unfold ymr at e
 split at e
 .rename_i x c
  split at e
  .rename_i b hb
   cases e
   obtain ⟨v,u,rfl,rx,ru⟩:=yFQ r
   refine ⟨v,u,b,rfl,?_,q _ W rfl (.refl w) rfl⟩
   unfold yAi at hb
   split at hb
   .rename_i n
    obtain rfl:u=.ty n:=ru
    split at hb
    .rw [show v=_ from rx]
     repeat' split at hb
     all_goals cases hb
     .rename_i hn;subst hn;exact ymH
     .rename_i hn;rcases hn with rfl|rfl|rfl|rfl|rfl
      .exact ylm
      .exact ymM
      .exact ylq
      .exact yjU
      .exact ylr
    .rw [show v=_ from rx]
     repeat' split at hb
     all_goals cases hb
     .rename_i hn;rcases hn with rfl|rfl
      .exact ypt
      .exact ymJ
     .rename_i hn;rcases hn with rfl|rfl|rfl|rfl
      .exact ypu
      .exact ymN
      .exact yls
      .exact ymO
    .rw [show v=_ from rx]
     repeat' split at hb
     all_goals cases hb
     .rename_i hn;subst hn;exact ymK
     .rename_i hn;rcases hn with rfl|rfl|rfl|rfl|rfl
      .exact ymP
      .exact ylt
      .exact ylu
      .exact yjV
      .exact ylv
    .rw [show v=_ from rx]
     repeat' split at hb
     all_goals cases hb
     .rename_i hn;rcases hn with rfl|rfl|rfl|rfl|rfl|rfl
      .exact ymI
      .exact ylw
      .exact ymQ
      .exact ylx
      .exact yjW
      .exact yly
    .obtain ⟨a,us,rfl,hs,_⟩:=rx
     have hp:(∃ xs,W.H a=some (.tup xs))\/∃ o,K.K.lookup a=some o/\o.cls=.type "tuple":=hs.elim (fun h=>.inl ⟨_,w.le _ _ h⟩) fun ⟨o,its,n,e1,e2,_⟩=>.inr ⟨o,e1,e2⟩
     repeat' split at hb
     all_goals cases hb
     .rename_i hn;subst hn;exact yjY hp
     .rename_i hn;rcases hn with rfl|rfl|rfl|rfl|rfl
      .exact ymT hp
      .exact ylB hp
      .exact ymU hp
      .exact ylC hp
      .exact ylD hp
    .split at hb
     .rename_i ys hy
      obtain ⟨a,us,rfl,hp,_⟩:=yY w hy rx
      repeat' split at hb
      all_goals cases hb
      .rename_i hn;subst hn;exact yln hp
      .rename_i hn;rcases hn with rfl|rfl|rfl|rfl|rfl
       .exact ymR hp
       .exact ylz hp
       .exact ymS hp
       .exact yjX hp
       .exact ylA hp
     .cases hb
   .rename_i c'
    obtain rfl:u=.ref (K.A c'):=ru
    split at hb
    .rename_i k p hi
     obtain ⟨r',h1,h2⟩:=Option.map_eq_some_iff.mp hb
     have hm:=List.mem_of_find?_eq_some h1
     have hp:=List.find?_some h1
     simp only [and_eq_true,beq_iff_eq] at hp
     obtain ⟨a,dx,us,rfl,hs,_⟩:=ygk w hi rx
     obtain ⟨p1,p2⟩:=hp
     have:=ht r' hm W.H a dx (p.1.zip us) (by rw [p1];exact hs)
     rw [p2,h2] at this
     exact this
    .cases hb
   .cases hb
  .cases e
 .cases e
end PX
namespace PX
open PySem L2
section
variable {ρ:PSt}{h h1:AH}{x y z:PV}{a b c:XE}{ca cb:XT}{aa:XA}{eo:XO}{s u:XS}{i:Nat}{p:P2}
theorem ybF {α β:Type}{x:α}{h:AH}{f:α->AH->Option β}:ob (some (x,h)) f=f x h:=id rfl
theorem yDb {α β:Type}{f:α->AH->Option β}:ob (none:Option (α×AH)) f=none:=id rfl
theorem yAj {α β γ:Type}{o:Option (α×AH)}{f:α->AH->Option (β×AH)}{g:β->AH->Option γ}:ob (ob o f) g=ob o fun x h=>ob (f x h) g:=by cases o<;>rfl
theorem yDc {α β:Type}{q:Prop} [Decidable q] {o o':Option (α×AH)}{f:α->AH->Option β}:ob (if q then o else o') f=if q then ob o f else ob o' f:=by split<;>rfl
theorem yvN:yf 0 (.val x::ρ) h=some (x,h):=id rfl
theorem yAk {v:PVar}{n:Nat}:yf (n+1) (v::ρ) h=yf n ρ h:=by simp [yf]
theorem x_c:xC x ρ h=some (x,h):=id rfl
theorem yDd:xOp p a b ρ h=ob (a ρ h) fun x h1=>ob (b ρ h1) fun y h2=>p x y h2:=id rfl
theorem yDe {p:P2O}:yqM p a b ρ h=ob (a ρ h) fun x h1=>ob (b ρ h1) fun y h2=>p x y h2:=id rfl
theorem yFR {p}:xUn p a ρ h=ob (a ρ h) fun x h1=>p x h1:=id rfl
theorem yFs {k:Bool}:oB (.bl k) h=some (k,h):=id rfl
theorem yxt {p p':P2}:yfC p p' a b c ρ h=ob (a ρ h) fun x h1=>ob (b ρ h1) fun y h2=>ob (p x y h2) fun z h3=>ob (oB z h3) fun k h3=>if k=true then ob (c ρ h3) fun w h4=>p' y w h4 else some (.bl false,h3):=id rfl
theorem yvO:yp a ρ h=ob (a ρ h) oB:=id rfl
theorem yAl:yiX a b ρ h=ob (a ρ h) fun x h1=>ob (oB x h1) fun k h1=>if k=true then b ρ h1 else some (.bl false,h1):=id rfl
theorem yDf:yvF ca cb ρ h=ob (ca ρ h) fun k h1=>if k=true then cb ρ h1 else some (false,h1):=id rfl
theorem yFS:xOr ca cb ρ h=ob (ca ρ h) fun k h1=>if k=true then some (true,h1) else cb ρ h1:=id rfl
theorem yDg:yjZ ca ρ h=ob (ca ρ h) fun k h1=>some (!k,h1):=id rfl
theorem yFT:xIf ca a b ρ h=ob (ca ρ h) fun k h1=>if k=true then a ρ h1 else b ρ h1:=id rfl
theorem yxu:yi ρ h=some ([],h):=id rfl
theorem yAm:yc a aa ρ h=ob (a ρ h) fun x h1=>ob (aa ρ h1) fun xs h2=>some (x::xs,h2):=id rfl
theorem yDh:yeg aa ρ h=ob (aa ρ h) fun xs h1=>if xs.length<=1000 then some (.tup xs,h1) else none:=id rfl
theorem yDi:ydY aa ρ h=ob (aa ρ h) fun xs h1=>if xs.length<=1000 then some (.lst xs,h1) else none:=id rfl
def fzN:Nd->AH->Option (PV×AH)
 | .lst xs,h=>some (.lst xs,h)
 | .ins k ns xs,h=>some (.ins k ns xs,h)
 | _,_=>none
theorem yCq:xFz eo ρ h=ob (eo ρ h) fzN:=by
 unfold xFz;congr;funext d h1;cases d<;>rfl
theorem yDj {xs:List PV}:fzN (.lst xs) h=some (.lst xs,h):=id rfl
theorem yDk {k:Nat}{ns:List Str}{xs:List PV}:fzN (.ins k ns xs) h=some (.ins k ns xs,h):=id rfl
theorem yDl:ygd eo ρ h=ob (eo ρ h) fun d h1=>some (.loc h1.length,h1++[d]):=id rfl
theorem x_call {f:Fn}:ybg f aa ρ h=ob (aa ρ h) f:=id rfl
theorem yFU {f}:xCB f aa ρ h=ob (aa ρ h) f:=id rfl
theorem yDm {f}:yiU f aa ρ h=ob (aa ρ h) f:=id rfl
theorem yAn {q} {p:PM}:xBM q p a aa ρ h=ob (a ρ h) fun x h1=>if q x h1=true then ob (aa ρ h1) fun xs h2=>p x xs h2 else none:=id rfl
theorem yxv {s:Str}:isStr (.str s) h=true:=id rfl
theorem yAo {f}:ygR f aa ρ h=ob (aa ρ h) f:=id rfl
theorem yxw {k:Nat}:yom k ρ h=some (.ins k [] [],h):=id rfl
theorem yvP:yO ρ h=some (.nx ρ,h):=id rfl
noncomputable def sqK (u:XS):Out->AH->Option (Out×AH)
 | .nx ρ,h=>u ρ h
 | .rt x,h=>some (.rt x,h)
 | .bk ρ,h=>some (.bk ρ,h)
 | .ct ρ,h=>some (.ct ρ,h)
theorem yrf:yl s u ρ h=ob (s ρ h) (sqK u):=by
 unfold yl;congr;funext o h1;cases o<;>rfl
theorem yAp:sqK u (.nx ρ) h=u ρ h:=id rfl
theorem yDn:sqK u (.rt x) h=some (.rt x,h):=id rfl
theorem yon:ybj a ρ h=ob (a ρ h) fun _ h1=>some (.nx ρ,h1):=id rfl
theorem yrg:yP a ρ h=ob (a ρ h) fun x h1=>some (.rt x,h1):=id rfl
theorem yAq:ybK ca s u ρ h=ob (ca ρ h) fun k h1=>if k=true then s ρ h1 else u ρ h1:=id rfl
theorem ytV {g:XG}:ybG a g ρ h=ob (a ρ h) fun x h1=>(g x ρ).bind fun ρ'=>some (.nx ρ',h1):=id rfl
theorem yAr:ypx eo i ρ h=ob (eo ρ h) fun d h1=>some (.nx (ρ.set i (.own d)),h1):=id rfl
theorem yAs:yq i x ρ=some (ρ.set i (.val x)):=id rfl
theorem yDo:ypX i s ρ h=s (ymY i ρ) h:=id rfl
theorem yDp {v:PVar}:ymY 0 (v::ρ)=ysO v::ρ:=id rfl
theorem yDq {v:PVar}{n:Nat}:ymY (n+1) (v::ρ)=v::ymY n ρ:=id rfl
theorem yDr {xs:List PV}:ysO (.own (.lst xs))=.val (.lst xs):=id rfl
theorem yDs:ysO (.val x)=.val x:=id rfl
theorem yDt {it:XA}{g:XG}:ymZ it g s ρ h=ob (it ρ h) fun xs h1=>ygh g s xs ρ h1:=id rfl
def frK (g:XG) (s:XS) (xs:List PV):Out->AH->Option (Out×AH)
 | .nx ρ,h=>ygh g s xs ρ h
 | .ct ρ,h=>ygh g s xs ρ h
 | .bk ρ,h=>some (.nx ρ,h)
 | .rt y,h=>some (.rt y,h)
theorem yAt {g:XG}{xs:List PV}:ygh g s (x::xs) ρ h=(g x ρ).bind fun ρ1=>ob (s ρ1 h) (frK g s xs):=by
 unfold ygh;congr;funext ρ1;congr;funext o h1;cases o<;>rfl
def fnK:Out->AH->Option (PV×AH)
 | .rt x,h=>some (x,h)
 | .nx _,h=>some (.non,h)
 | _,_=>none
theorem yo {N:Nat}{xs:List PV}:ybt N s xs h=ob (s (xs.map .val++replicate (N-xs.length) .no) h) fnK:=by
 unfold ybt;congr;funext o h1;cases o<;>rfl
theorem yDu:fnK (.rt x) h=some (x,h):=id rfl
theorem yDv:fnK (.nx ρ) h=some (.non,h):=id rfl
def yet (cs:List Nat) (f:Str) (x:PV) (h:AH):Option (PV×AH):=match yeQ x h with|some (k,ns,xs)=>if k∈cs/\f∈ns then (match xs[ns.idxOf f]? with|some y=>some (y,h)|none=>none) else none|none=>none
theorem ykg {cs:List Nat}{f:Str}:ybb cs f a ρ h=ob (a ρ h) (yet cs f):=id rfl
theorem ygS {cs:List Nat}{f:Str}{k:Nat}{ns:List Str}{xs:List PV}{y:PV}(hk:k∈cs) (hf:f∈ns) (hy:xs[ns.idxOf f]?=some y):yet cs f (.ins k ns xs) h=some (y,h):=by
 unfold yet yeQ
 simp [hk,hf,hy]
def yhR (m:Str) (f:Nat->Fn) (x:PV) (h:AH):Option (PV×AH):=match yeQ x h with|some (k,ns,_)=>if m∈ns then none else f k [x] h|none=>none
theorem yvQ {m:Str}{f:Nat->Fn}:yiZ m f a ρ h=ob (a ρ h) (yhR m f):=id rfl
theorem ydx {m:Str}{f:Nat->Fn}{k:Nat}{ns:List Str}{xs:List PV}(hm:m∉ns):yhR m f (.ins k ns xs) h=f k [.ins k ns xs] h:=by
 unfold yhR yeQ
 simp [hm]
theorem x_i {g:Int->Int->PV}{i j:Int}:oI g (.int i) (.int j) h=some (g i j,h):=id rfl
theorem yFV {C:Int->Int->Prop} [∀ i j,Decidable (C i j)] {g:Int->Int->PV}{i j:Int}:oIc C g (.int i) (.int j) h=if C i j then some (g i j,h) else none:=id rfl
theorem yoo {i j:Int}(h1:-18446744073709551616<j) (h2:j<18446744073709551616):MulOk i j=True:=eq_true (.inr ⟨h1,h2⟩)
theorem yAu {i j:Int}(h1:-18446744073709551616<i) (h2:i<18446744073709551616):MulOk i j=True:=eq_true (.inl ⟨h1,h2⟩)
theorem yDw {i j:Int}(h1:0<=i) (h2:i<18446744073709551616) (h3:0<=j) (h4:j<=1000000):yra i j=True:=eq_true ⟨⟨h1,h2⟩,h3,h4⟩
theorem yDx {i j:Int}:oEq (.int i) (.int j) h=some (.bl (decide (i=j)),h):=by simp [oEq,sv,yvx]
theorem yDy {i j:Str}:oEq (.str i) (.str j) h=some (.bl (decide (i=j)),h):=by simp [oEq,sv,yvx]
theorem yDz {i j:Int}:oNe (.int i) (.int j) h=some (.bl (!decide (i=j)),h):=by simp [oNe,sv,yvx]
theorem yDA {i j:Str}:oNe (.str i) (.str j) h=some (.bl (!decide (i=j)),h):=by simp [oNe,sv,yvx]
theorem yDB:yxo x .non h=some (.bl (isN x),h):=id rfl
theorem yAv:ync x .non h=some (.bl (!isN x),h):=id rfl
theorem yAw {i j:Str}:ycU (.str i) (.str j) h=if i.length+j.length<=100000 then some (.str (i++j),h) else none:=id rfl
theorem yDC {c:Nat}{j:Str}:yAa (.str ⟨#[c]⟩) (.str j) h=some (.bl (decide (c∈j.cps.toList)),h):=id rfl
theorem yDD {xs:List PV}{i:Int}:ycs (.lst xs) (.int i) h=(atI xs i).bind fun v=>some (v,h):=by
 simp only [ycs];cases atI xs i<;>rfl
theorem yDE {xs:List Int}{i:Int}:ycs (.scr xs) (.int i) h=(atI xs i).bind fun v=>some (.int v,h):=by
 simp only [ycs];cases atI xs i<;>rfl
theorem yDF {xs:List PV}{i:Int}:yba (.tup xs) (.int i) h=(atI xs i).bind fun v=>some (v,h):=by
 simp only [yba];cases atI xs i<;>rfl
theorem yDG {s:Str}{i:Int}:yAc (.str s) (.int i) h=(atI s.cps.toList i).bind fun c=>if s.length<=100000 then some (sgn c,h) else none:=by
 simp only [yAc];cases atI s.cps.toList i<;>rfl
theorem yDH {xs:List Int}{lo hi:Option Int}:yAe (.scr xs) lo hi h=some (.lst (ysQ (xs.map .int) lo hi),h):=id rfl
theorem yDI {xs:List PV}{k:Int}:yxp (.lst xs) (.int k) h=if -1000000<=k/\k<=100000/\xs.length*k.toNat<=100000 then some (.lst (repL k.toNat xs),h) else none:=id rfl
theorem yDJ {p} {lo hi}:yzP p a lo hi ρ h=ob (a ρ h) fun x h1=>ob (lo ρ h1) fun l h2=>ob (hi ρ h2) fun u h3=>p x l u h3:=id rfl
theorem yAx:ymV a ρ h=ob (a ρ h) fun x h1=>match x with|.int i=>some (some i,h1)|_=>none:=id rfl
theorem yAy {xs:List PV}:yca [.lst xs] h=some (.int xs.length,h):=id rfl
theorem yAz {xs:List Int}:yca [.scr xs] h=some (.int xs.length,h):=id rfl
theorem yAA {z:Str}:ynd [.str z] h=if z.length<=100000 then some (.int z.length,h) else none:=id rfl
theorem yvR {k:Int}:ykf [.int k] h=if k.natAbs.log2<1920 then some (.str (toString k:String),h) else none:=id rfl
theorem yxx {xs:List PV}:yV [.lst xs] h=some (.lst xs,h):=id rfl
theorem yFW {xs:List PV}(e:a ρ h=some (.lst xs,h1)):xIL a ρ h=some (xs,h1):=by unfold xIL;rw [e];rfl
theorem yAB {it:XA}{ix:List Nat}:yiY it ix a ρ h=ob (it ρ h) fun xs h1=>if xs.length<=100000 then ob (yke a (yfw ix ρ) xs h1) fun ys h2=>some (.lst ys,h2) else none:=id rfl
end
end PX
namespace L2
open PySem PySem.Spec PyProof.Rows
end L2
namespace L2
open PySem PySem.Spec PyProof.Rows
section
variable (P:Program) (w:World)
end
section
variable {P:Program}{w:World}{H H':Hp}{h h':Heap}{a:Addr}{o:HO}
end
section
variable {P:Program}{w:World}{H:Hp}{h h':Heap}{x e:Addr}{o':HO}
end
section
variable {fs fs' ex ex':List Addr}{H H1 H2:Hp}{h h1 h2 h':Heap}{a x e:Addr}{o:HO}
end
end L2
namespace L2
open PySem PySem.Spec PyProof.Rows
section
variable {X:Cx}{pins:List (Addr×Obj)}{σ:List (Option V)}{H H':Hp}{s:Shared}{h':Heap}
end
end L2
namespace L2
open PySem PySem.Spec PyProof.Rows
section
variable {X:Cx}
variable {a b:Expr}{ta tb:TE}{pos:Pos}
variable {tA tB':TT}{rest:List Expr}
end
end L2
namespace L2
open PySem PySem.Spec PyProof.Rows
section
variable {X:Cx}{pins:List (Addr×Obj)}{σ:St}{H:Hp}{s:Shared}{a:Addr}{xs ys:List V}
end
section
variable {X:Cx}{pins:List (Addr×Obj)}{σ:St}{H:Hp}{s:Shared}{E:Value->Shared->Prop}
end
section
variable {X:Cx}{st:Stmt}{rest:List Stmt}{t u:TS}{e:Expr}{te:TE}{pos:Pos}
end
section
variable {X:Cx}{pos:Pos}
end
section
variable {X:Cx}{pos:Pos}
end
end L2
namespace L2
open PySem PySem.Spec PyProof.Rows
section
variable {X:Cx}{tg:Expr}
end
end L2
namespace L2
open PySem PySem.Spec PyProof.Rows
section
variable {X:Cx}{a b c:Expr}{ta tb tc:TE}{pos:Pos}
end
section
variable {X:Cx}{a b c:Expr}{ta tb tc:TE}{pos:Pos}
end
end L2
namespace L2
open PySem PySem.Spec PyProof.Rows
section
variable {prog:Program}{w:World}{A:Around}{E:Value->Shared->Prop}{s:Shared}{K:PySem.W.Frag}{x dx C f:Addr}{mA:Str->Option Value}{name:Str}{v:Value}
end
section
variable {P:Program}{w:World}{H H':Hp}{h h':Heap}{a C dx:Addr}{fs fs':List (Str×V)}
end
section
variable {X:Cx}{pins:List (Addr×Obj)}{σ:St}{H:Hp}{s:Shared}{a C dx:Addr}{fs:List (Str×V)}{f:Str}{v:V}{A:Around}{E:Value->Shared->Prop}
end
section
variable {X:Cx}{o e value:Expr}{f:Str}{pos pos' tpos:Pos}{ta tv:TE}
end
section
variable {X:Cx}{pins:List (Addr×Obj)}{σ:St}{H:Hp}{s:Shared}{A:Around}{E:Value->Shared->Prop}{Q:Value->Shared->Prop}{c:Value}{b:Bool}
end
end L2
namespace L2
open PySem PySem.Spec PyProof.Rows
section
variable {X:Cx}{e:Expr}{es:List Expr}{te:TE}{t:TA}{pos:Pos}
end
section
variable {X:Cx}{pins:List (Addr×Obj)}{σ:St}{H:Hp}{s s':Shared}
end
section
variable {X:Cx}{CX:CXT}{k:Nat}{f C:Addr}{fd:FuncData}{ps:List Str}{sp:Sp}{dvs:List V}{ds:List Value}{E:XK}{x m:Str}{p pos apos:Pos}{e o:Expr}{es:List Expr}{ta:TE}{t:TA}
end
section
variable {X:Cx}{CX:CXT}{k:Nat}{f C:Addr}{fd:FuncData}{ps ks:List Str}{sp:Sp}{E:XK}{x m:Str}{p pos apos kpos:Pos}{e o:Expr}{es:List Expr}{kws:List Keyword}{te ta:TE}{t tk:TA}{nm:Option Str}
variable {g:List Value->List Value->List Value}{gV:List V->List V->List V}
end
end L2
namespace L2
open PySem PySem.Spec PyProof.Rows
section
variable {X:Cx}{x:Str}{p pos:Pos}{e:Expr}{es:List Expr}{t:TA}{id T:String}{r:List V->Hp->VK->Prop}
end
end L2
namespace L2
open PySem PySem.Spec PyProof.Rows
section
variable {κ:Type} [DecidableEq κ]
def ylK (kvs:List (κ×V)) (k:κ):Option V:=(kvs.find? fun kv=>decide (kv.1=k)).map (·.2)
noncomputable def putK (kvs:List (κ×V)) (k:κ) (v:V):List (κ×V) :=
 if (kvs.any fun kv=>decide (kv.1=k))=true then kvs.map (fun kv=>if kv.1=k then (kv.1,v) else kv) else kvs++[(k,v)]
theorem ykh {p:κ×V}{r:List (κ×V)}{k:κ}(e:p.1=k):ylK (p::r) k=some p.2:=by simp [ylK,find?_cons,e]
theorem yki {p:κ×V}{r:List (κ×V)}{k:κ}(e:¬ p.1=k):ylK (p::r) k=ylK r k:=by simp [ylK,find?_cons,e]
theorem yop (k:κ):∀ kvs:List (κ×V),(kvs.any fun kv=>decide (kv.1=k))=(ylK kvs k).isSome
 | []=>rfl
 | p::r=>by
  rw [any_cons]
  by_cases e:p.1=k
  .simp only [ykh e,decide_eq_true e,Bool.true_or,Option.isSome_some]
  .rw [yki e,decide_eq_false e,Bool.false_or];exact yop k r
theorem yfO (kvs:List (κ×V)) (k:κ) (v:V):(putK kvs k v).length<=kvs.length+1:=by
 unfold putK
 split
 .rw [length_map];omega
 .rw [length_append,length_cons,length_nil];omega
theorem RelO.isSome_eq {o:Option V}{u:Option Value}(r:RelO o u):o.isSome=u.isSome:=by
 cases o with
 | none=>cases u with
  | none=>rfl
  | some _=>exact (show False from r).elim
 | some _=>cases u with
  | none=>exact (show False from r).elim
  | some _=>rfl
theorem KV.val {kvs:List (κ×V)}{vs:List (κ×Value)}(r:KV kvs vs) (k:κ):RelO (ylK kvs k) (valueAt vs k):=by
 unfold KV at r
 induction r with
 | nil=>exact True.intro
 | @cons p q ps qs h t ih =>
  obtain ⟨h1,h2⟩:=h
  by_cases e:p.1=k
  .have e':q.1=k:=h1.symm.trans e
   have b:valueAt (q::qs) k=some q.2:=by simp [valueAt,find?_cons,e']
   rw [ykh e,b];exact h2
  .have e':¬ q.1=k:=fun z=>e (h1.trans z)
   have b:valueAt (q::qs) k=valueAt qs k:=by simp [valueAt,find?_cons,e']
   rw [yki e,b];exact ih
theorem KV.any {kvs:List (κ×V)}{vs:List (κ×Value)}(r:KV kvs vs) (k:κ):(kvs.any fun kv=>decide (kv.1=k))=vs.any fun kv=>decide (kv.1=k):=by
 unfold KV at r
 induction r with
 | nil=>rfl
 | cons h t ih=>rw [any_cons,any_cons,ih,h.1]
theorem KV.repl {kvs:List (κ×V)}{vs:List (κ×Value)}(r:KV kvs vs) (k:κ) {y:V}{u:Value}(ry:RelV y u) :
  KV (kvs.map fun kv=>if kv.1=k then (kv.1,y) else kv) (vs.map fun kv=>if kv.1=k then (kv.1,u) else kv):=by
 unfold KV at r ⊢
 induction r with
 | nil=>exact .nil
 | @cons p q ps qs h t ih =>
  rw [map_cons,map_cons]
  refine .cons ?_ ih
  obtain ⟨h1,h2⟩:=h
  by_cases e:p.1=k
  .rw [if_pos e,if_pos (h1.symm.trans e)];exact ⟨h1,ry⟩
  .rw [if_neg e,if_neg (fun z=>e (h1.trans z))];exact ⟨h1,h2⟩
theorem KV.put {kvs:List (κ×V)}{vs:List (κ×Value)}(r:KV kvs vs) (k:κ) {y:V}{u:Value}(ry:RelV y u):KV (putK kvs k y) (stored vs k u):=by
 unfold putK stored
 rw [r.any k]
 by_cases e:(vs.any fun kv=>decide (kv.1=k))=true
 .rw [if_pos e,if_pos e];exact r.repl k ry
 .rw [if_neg e,if_neg e];exact Paired.snoc r ⟨rfl,ry⟩
theorem KV.length {kvs:List (κ×V)}{vs:List (κ×Value)}(r:KV kvs vs):kvs.length=vs.length:=Paired.length r
end
theorem ytW {P:Program}{w:World}{k:Key}{u:Value}(r:RelV (kV k) u):(ycB P w).is k u=true:=by
 cases k with
 | inl i=>obtain ⟨t,e⟩:=(show ∃ t,u=Value.int i t from r);subst e;exact ymx P w i t
 | inr x=>obtain ⟨t,e⟩:=(show ∃ t,u=Value.str x t from r);subst e;exact ymy P w x t
theorem ylL {P:Program}{w:World}:∀ {ks:List Key}{us:List Value},Vals (ks.map kV) us->ItemsAre (ycB P w) ks us
 | [],_,r=>by rw [map_nil] at r;cases r;exact .nil
 | k::ks,_,r=>by
  rw [map_cons] at r
  cases r with
  | cons h t=>exact .cons (ytW h) (ylL t)
abbrev KT (H:Hp):List (List Key×V)->List (List Key×Addr×Value)->Prop:=Paired fun p q=>p.1=q.1/\H q.2.1=some (.tup (p.1.map kV))/\RelV p.2 q.2.2
theorem KT.val {H:Hp}{kvs:List (List Key×V)}{xs:List (List Key×Addr×Value)}(r:KT H kvs xs) (k:List Key):RelO (ylK kvs k) ((atKey xs k).map (·.2)):=by
 induction r with
 | nil=>exact True.intro
 | @cons p q ps qs h t ih =>
  obtain ⟨h1,_,h2⟩:=h
  by_cases e:p.1=k
  .have e':q.1=k:=h1.symm.trans e
   have b:atKey (q::qs) k=some q.2:=by simp [atKey,find?_cons,e']
   rw [ykh e,b];exact h2
  .have e':¬ q.1=k:=fun z=>e (h1.trans z)
   have b:atKey (q::qs) k=atKey qs k:=by simp [atKey,find?_cons,e']
   rw [yki e,b];exact ih
theorem KT.repl {H:Hp}{kvs:List (List Key×V)}{xs:List (List Key×Addr×Value)}(r:KT H kvs xs) (k:List Key) {y:V}{u:Value}(ry:RelV y u) :
  KT H (kvs.map fun kv=>if kv.1=k then (kv.1,y) else kv) (xs.map (putAt k u)):=by
 induction r with
 | nil=>exact .nil
 | @cons p q ps qs h t ih =>
  rw [map_cons,map_cons]
  refine .cons ?_ ih
  obtain ⟨h1,h2,h3⟩:=h
  unfold putAt
  by_cases e:p.1=k
  .rw [if_pos e,if_pos (h1.symm.trans e)];exact ⟨h1,h2,ry⟩
  .rw [if_neg e,if_neg (fun z=>e (h1.trans z))];exact ⟨h1,h2,h3⟩
theorem KT.put {H:Hp}{kvs:List (List Key×V)}{xs:List (List Key×Addr×Value)}(r:KT H kvs xs) (k:List Key) {b:Addr}{y:V}{u:Value}(hb:H b=some (.tup (k.map kV))) (ry:RelV y u) :
  KT H (putK kvs k y) (storedH xs k b u):=by
 have e:(kvs.any fun kv=>decide (kv.1=k))=(atKey xs k).isSome:=by
  rw [yop,(r.val k).isSome_eq,isSome_map]
 unfold putK storedH
 rw [e]
 by_cases q:(atKey xs k).isSome=true
 .rw [if_pos q,if_pos q];exact r.repl k ry
 .rw [if_neg q,if_neg q];exact Paired.snoc r ⟨rfl,hb,ry⟩
theorem KT.keeps {H H':Hp}{kvs:List (List Key×V)}{xs:List (List Key×Addr×Value)}(r:KT H kvs xs) (ht:∀ b ys,H b=some (.tup ys)->H' b=some (.tup ys)):KT H' kvs xs :=
 Paired.mapP r fun _ _ z=>⟨z.1,ht _ _ z.2.1,z.2.2⟩
section
variable {P:Program}{w:World}{H:Hp}{h:Heap}{a:Addr}
theorem yAC {u:HO}(ok:HOk P w H h) (e:Rd H a u):ObjOk P w H h a u:=e.ok ok
theorem ytX {kvs:List (Key×V)}(ok:HOk P w H h) (e:Rd H a (.dK kvs)):kvs.length<=sizeLine/\(a == sysModules)=false/\∃ vs,KV kvs vs/\h.DictOf (ycB P w) a vs :=
 show ObjOk P w H h a (.dK kvs) from yAC ok e
theorem yxy {kvs:List (Key×V)}(ok:HOk P w H h) (e:H a=some (.dK kvs)):kvs.length<=sizeLine/\(a == sysModules)=false/\∃ vs,KV kvs vs/\h.DictOf (ycB P w) a vs:=ytX ok (.inl e)
theorem yoq {ks:List Key}(ok:HOk P w H h) (e:H a=some (.tup (ks.map kV))):(tupleKind (ycB P w)).is h ks a:=by
 obtain ⟨_,its,r,o,h1,h2,n,h3⟩:=(show ObjOk P w H h a (.tup (ks.map kV)) from ok a _ e)
 exact ⟨o,its.toArray,n,h1,h2,h3,by simpa using ylL r⟩
theorem ytY {kvs:List (List Key×V)}(ok:HOk P w H h) (e:Rd H a (.dT kvs)):kvs.length<=sizeLine/\(a == sysModules)=false /\
  ∃ xs,KT H kvs xs/\h.DictOfH (tupleKind (ycB P w)) a xs:=by
 obtain ⟨z,y,xs,r,o,es,ep,h1,h2,h3,h4,h5⟩:=(show ObjOk P w H h a (.dT kvs) from yAC ok e)
 refine ⟨z,y,xs,r,o,es,ep,h1,h2,h3,h4,fun x hx=>?_,h5⟩
 have all:∀ {l:List (List Key×V)}{m:List (List Key×Addr×Value)},KT H l m->∀ x∈m,(tupleKind (ycB P w)).is h x.1 x.2.1:=by
  intro l m q
  induction q with
  | nil=>intro x hx;exact nomatch hx
  | @cons p q ps qs hq t ih =>
   intro x hx
   rcases mem_cons.mp hx with e|hx
   .subst e
    exact yoq ok (by rw [<- hq.1];exact hq.2.1)
   .exact ih x hx
 exact all r x hx
theorem yDK {kvs:List (List Key×V)}(ok:HOk P w H h) (e:H a=some (.dT kvs)):kvs.length<=sizeLine/\(a == sysModules)=false /\
  ∃ xs,KT H kvs xs/\h.DictOfH (tupleKind (ycB P w)) a xs:=ytY ok (.inl e)
end
noncomputable def DGet (H:Hp) (a:Addr) (y:V) (r:Option V):Prop :=
 (∃ kvs k,Rd H a (.dK kvs)/\y=kV k/\r=ylK kvs k)\/∃ kvs k b,Rd H a (.dT kvs)/\y=.ref b/\H b=some (.tup (k.map kV))/\r=ylK kvs k
def DPut (H:Hp) (a:Addr) (y v:V) (H':Hp):Prop :=
 (∃ kvs k,H a=some (.dK kvs)/\y=kV k/\kvs.length<sizeLine/\H'=upd H a (.dK (putK kvs k v))) \/
 ∃ kvs k b,H a=some (.dT kvs)/\y=.ref b/\H b=some (.tup (k.map kV))/\kvs.length<sizeLine/\H'=upd H a (.dT (putK kvs k v))
theorem DPut.k {H:Hp}{a:Addr}{kvs:List (Key×V)}{k:Key}{v:V}(e:H a=some (.dK kvs)) (hl:kvs.length<sizeLine):DPut H a (kV k) v (upd H a (.dK (putK kvs k v))):=.inl ⟨kvs,k,e,rfl,hl,rfl⟩
section
variable {X:Cx}{pins:List (Addr×Obj)}{σ:St}{H:Hp}{s:Shared}{a:Addr}{y v:V}{u r:Value}{o:Option V}{A:Around}{E:Value->Shared->Prop}
theorem Inv.big (I:Inv X pins σ H s):sysModules<s.heap.objs.size:=by
 have h:mainGlobals<s.heap.objs.size:=(I.mod.glob.keeps I.bk).lt
 exact Nat.lt_trans (by decide) h
theorem yrh {Q:Value->Shared->Prop}(hu:A.units+1<cLine) (I:Inv X pins σ H s) (g:DGet H a y (some v)) (ry:RelV y u) (h:∀ w' s',Inv X pins σ H s'->RelV v w'->Q w' s') :
  wpAny (model X.prog X.w) A (getItem (.ref a) u) Q E s:=by
 rcases g with ⟨kvs,k,e,ey,l⟩|⟨kvs,k,b,e,ey,eb,l⟩
 .subst ey
  obtain ⟨z,hd,vs,rel,dd⟩:=ytX I.hok e
  obtain ⟨w',hw,rw'⟩:=RelO.some_of (v:=v) (o:=valueAt vs k) (by rw [l];exact rel.val k)
  exact wpAny_getItem_of (ytW ry) dd.mapOf hw (h w' _ (I.tok _) rw')
 .subst ey
  cases (show u=Value.ref b from ry)
  obtain ⟨z,hd,xs,rel,dd⟩:=ytY I.hok e
  obtain ⟨w',hw,rw'⟩:=RelO.some_of (v:=v) (o:=(atKey xs k).map (·.2)) (by rw [l];exact rel.val k)
  obtain ⟨p,hp,hp2⟩:=Option.map_eq_some_iff.mp hw
  refine wpAny_getItem_heap (tupleKind_room_in1 hu) (yoq I.hok eb) dd hp ?_
  rw [hp2]
  exact h w' _ (I.tok _) rw'
theorem yFX {Q:Value->Shared->Prop}(hu:A.units+1<cLine) (I:Inv X pins σ H s) (g:DGet H a y o) (ry:RelV y u) (h:∀ s',Inv X pins σ H s'->Q (.bool o.isSome) s') :
  wpAny (model X.prog X.w) A (compareOp .In u (.ref a)) Q E s:=by
 rcases g with ⟨kvs,k,e,ey,l⟩|⟨kvs,k,b,e,ey,eb,l⟩
 .subst ey
  obtain ⟨z,hd,vs,rel,dd⟩:=ytX I.hok e
  refine wpAny_in_of (ytW ry) hd dd.mapOf ?_
  rw [<- (rel.val k).isSome_eq,<- l]
  exact h _ (I.tok _)
 .subst ey
  cases (show u=Value.ref b from ry)
  obtain ⟨z,hd,xs,rel,dd⟩:=ytY I.hok e
  refine wpAny_in_heap (tupleKind_room_in1 hu) (yoq I.hok eb) hd dd ?_
  have q:=(rel.val k).isSome_eq
  rw [isSome_map] at q
  rw [<- q,<- l]
  exact h _ (I.tok _)
theorem ynf {h':Heap}{t':Nat}{ob:HO}(I:Inv X pins σ H s) (mu:Mut (H a)) (hs:Heap.SameBut a s.heap h') (he:∃ q,h'.get? a=some q) (new:ObjOk X.prog X.w (upd H a ob) h' a ob) :
  Inv X pins σ (upd H a ob) { s with heap:=h',toks:=t' } :=
 I.write (x:=a) (e:=a) mu (.inl rfl) (fun b q hb z=>(hs.2 b hb).trans z) he new
theorem yvS {P:Program}{w:World}{H':Hp}{h':Heap}{kvs:List (Key×V)}{vs:List (Key×Value)}(z:kvs.length<=sizeLine) (hd:(a == sysModules)=false) (rel:KV kvs vs) (dd:h'.DictOf (ycB P w) a vs) :
  ObjOk P w H' h' a (.dK kvs):=⟨z,hd,vs,rel,dd⟩
theorem yri {H':Hp}{Q:Unit->Shared->Prop}(hu:A.units+1<cLine) (I:Inv X pins σ H s) (g:DPut H a y v H') (ry:RelV y u) (rv:RelV v r) (h:∀ s',Inv X pins σ H' s'->Q () s') :
  wpAny (model X.prog X.w) A (setItem (.ref a) u r) Q E s:=by
 rcases g with ⟨kvs,k,e,ey,l,eH⟩|⟨kvs,k,b,e,ey,eb,l,eH⟩
 .subst ey eH
  obtain ⟨z,hd,vs,rel,dd⟩:=yxy I.hok e
  have hz:vs.length<=sizeLine:=by rw [<- rel.length];exact z
  have hl:(putK kvs k v).length<=sizeLine:=by have:=yfO kvs k v;omega
  refine wpAny_setItem_pairs (hsz:=hz) (ytW ry) dd fun h' dd' hs=>h _ ?_
  have he:∃ q,h'.get? a=some q:=let ⟨q,_,_,hq,_⟩:=dd';⟨q,hq⟩
  exact ynf I (by rw [e];exact True.intro) hs he (yvS hl hd (rel.put k rv) dd')
 .subst ey eH
  cases (show u=Value.ref b from ry)
  obtain ⟨z,hd,xs,rel,dd⟩:=yDK I.hok e
  have hz:xs.length<=sizeLine:=by rw [<- Paired.length rel];exact z
  have hl:(putK kvs k v).length<=sizeLine:=by have:=yfO kvs k v;omega
  refine wpAny_setItem_heap (hsz:=hz) (tupleKind_room_in1 hu) (yoq I.hok eb) dd fun h' dd' hs=>h _ ?_
  obtain ⟨q,es,ep,hq,h2,h3,h4,_,h5⟩:=dd'
  refine ynf I (by rw [e];exact True.intro) hs ⟨q,hq⟩ ⟨hl,hd,_,(rel.put k eb rv).keeps fun c ys ec=>?_,q,es,ep,hq,h2,h3,h4,h5⟩
  rw [yF (yCt ec e (fun z=>nomatch z))]
  exact ec
end
section
variable {X:Cx}{pins:List (Addr×Obj)}{σ:St}{H:Hp}{s:Shared}{a:Addr}{kvs:List (Key×V)}{k:Key}{u:Value}{A:Around}{E:Value->Shared->Prop}
end
def yDL (i:Expr):Prop:=∀ ov iv,subscripted i false ov iv=operate [ov,iv] (getItem ov iv)
theorem yxz {prog:Program}{w:World}{A:Around}{E:Value->Shared->Prop}{s:Shared}{env:Env}{value slice:Expr}{pos:Pos}{T id:String}{Q:Value->Shared->Prop}
  (hl:typeLookup (.type T) "__getitem__" = pure (some (.builtin id))) (hs:yDL slice)
  (h:wpAny (model prog w) A (eval value env) (fun o s₁=>wpAny (model prog w) A (eval slice env) (fun i s₂=>s₂.TypeIs o T/\wpAny (model prog w) A (getItem o i) Q E s₂) E s₁) E s) :
  wpAny (model prog w) A (eval (.Subscript value slice pos) env) Q E s:=by
 refine Subscript_ (wpAny_mono h (fun o s₁ h₁=>wpAny_mono h₁ (fun i s₂ h₂=>?_) fun _ _ x=>x) fun _ _ x=>x)
 obtain ⟨hT,h₂⟩:=h₂
 unfold subscriptTail
 refine wpAny_bind ?_
 rw [getitemInPython_of_ne hT.not_modules]
 refine wpAny_bind (wpAny_specialOf hT hl ?_)
 have fin:wpAny (model prog w) A (subscripted slice false o i) (fun r s₃=>wpAny (model prog w) A (letTemporaryGo value o r >>= fun _=>pure r) Q E s₃) E s₂:=by
  rw [hs o i]
  exact wpAny_operating (wpAny_mono h₂ (fun r s₃ h₃=>wpAny_bind (wpAny_letTemporaryGo (wpAny_pure h₃))) fun _ _ x=>x)
 first
  | exact wpAny_pure (wpAny_bind fin)
  | exact wpAny_bind (wpAny_pure (wpAny_bind fin))
  | exact wpAny_bind fin
theorem yng {X:Cx}{pins:List (Addr×Obj)}{σ:St}{H:Hp}{s:Shared}{a:Addr}{y:V}{o:Option V}(I:Inv X pins σ H s) (g:DGet H a y o):s.TypeIs (.ref a) "dict":=by
 rcases g with ⟨kvs,k,e,_,_⟩|⟨kvs,k,b,e,_,_,_⟩
 .obtain ⟨_,_,vs,_,dd⟩:=ytX I.hok e
  exact dd.typeIs
 .obtain ⟨_,_,xs,_,dd⟩:=ytY I.hok e
  exact dd.typeIs
def yAD (td ty:TE):TE:=fun σ H Q=>td σ H fun x H1=>ty σ H1 fun y H2=>∃ a v,x=.ref a/\DGet H2 a y (some v)/\Q v H2
def yFt (ty td:TE):TE:=fun σ H Q=>ty σ H fun y H1=>td σ H1 fun x H2=>∃ a o,x=.ref a/\DGet H2 a y o/\Q (.bl o.isSome) H2
def yAE (td ty tv:TE):TS:=fun D σ H=>tv σ H fun v H1=>td σ H1 fun x H2=>ty σ H2 fun y H3=>∃ a H4,x=.ref a/\DPut H3 a y v H4/\D.nx σ H4
section
variable {X:Cx}{o i e value:Expr}{pos pos' tpos:Pos}{td ty tv:TE}
theorem yxA (hu:X.A.units+1<cLine) (ho:PE X o td) (hi:PE X i ty) (hs:yDL i):PE X (.Subscript o i pos) (yAD td ty):=by
 intro pins s σ H Q I h
 refine yxz PySem.F.slot_dict_getitem.lookup hs (thn (ho pins s σ H _ I h) fun u s1 ⟨x,H1,I1,rx,q1⟩=>thn (hi pins s1 σ H1 _ I1 q1) fun iv s2 ⟨y,H2,I2,ry,a,v,ex,g,q2⟩=>?_)
 subst ex
 obtain rfl:u=Value.ref a:=rx
 exact ⟨yng I2 g,yrh hu I2 g ry fun w' s3 I3 rw'=>⟨v,H2,I3,rw',q2⟩⟩
theorem yAF (hu:X.A.units+1<cLine) (hi:PE X i ty) (ho:PE X o td):PC X .In i o (yFt ty td):=by
 intro pins s σ H Q I h
 refine thn (hi pins s σ H _ I h) fun iv s1 ⟨y,H1,I1,ry,q1⟩=>thn (ho pins s1 σ H1 _ I1 q1) fun u s2 ⟨x,H2,I2,rx,a,ov,ex,g,q2⟩=>?_
 subst ex
 obtain rfl:u=Value.ref a:=rx
 exact yFX hu I2 g ry fun s3 I3=>⟨.bl ov.isSome,H2,I3,rfl,q2⟩
theorem yxB (hu:X.A.units+1<cLine) (ho:PE X o td) (hi:PE X i ty) (hv:PE X value tv) (hs:swapsWith value (some (.Subscript o i pos')) pos.line X.env=pure false) :
  PS X (.Assign [.Subscript o i pos'] value pos) (yAE td ty tv):=by
 intro pins s σ H D I h
 refine wpAny_Assign_Subscript (thn (hv pins s σ H _ I h) fun r s1 ⟨v,H1,I1,rv,q1⟩=>thn (ho pins s1 σ H1 _ I1 q1) fun u s2 ⟨x,H2,I2,rx,q2⟩=>thn (hi pins s2 σ H2 _ I2 q2) fun iv s3 ⟨y,H3,I3,ry,a,H4,ex,g,q3⟩=>?_) hs
 subst ex
 obtain rfl:u=Value.ref a:=rx
 exact yri hu I3 g ry rv fun s4 I4=>⟨σ,H4,I4,q3⟩
end
theorem ytZ {P:Program}{w:World}{H:Hp}(h:Heap) (hb:sysModules<h.objs.size):ObjOk P w H (h.push { cls:=.type "dict",data:=.dict #[] }) h.objs.size (.dK []) :=
 ⟨zero_le _,beq_eq_false_iff_ne.mpr (Ne.symm (ne_of_lt hb)),[],.nil,Heap.DictOf.new h⟩
def yvT:TE:=fun _ H Q=>∀ p,H p=none->Q (.ref p) (upd H p (.dK []))
section
variable {X:Cx}{pos:Pos}
theorem yua:PE X (.Dict [] [] pos) yvT:=fun pins s σ H Q I h =>
 wpAny_Dict_empty ⟨.ref s.heap.objs.size,_,I.laid (a:=s.heap.objs.size) (o:=.dK []) (t':=s.toks) (fun _ _ q=>Heap.get?_push_of_some _ q) (Nat.le_refl _) (ytZ s.heap I.big),rfl,h _ (I.hok.fresh (Nat.le_refl _))⟩
end
def yrj (kvs more:List (Key×V)):List (Key×V):=more.foldl (fun acc kv=>putK acc kv.1 kv.2) kvs
theorem KV.merge:∀ {more:List (Key×V)}{rs:List (Key×Value)}{kvs:List (Key×V)}{vs:List (Key×Value)},KV more rs->KV kvs vs->KV (yrj kvs more) (merged vs rs):=by
 intro more rs kvs vs r
 unfold KV at r
 induction r generalizing kvs vs with
 | nil=>intro q;exact q
 | @cons p q ps qs h t ih =>
  intro r0
  have e:KV (putK kvs p.1 p.2) (stored vs q.1 q.2):=by
   have:=r0.put p.1 h.2
   rw [<- h.1];exact this
  exact ih e
theorem ygm:∀ (more kvs:List (Key×V)),(yrj kvs more).length<=kvs.length+more.length
 | [],kvs=>by show kvs.length<=kvs.length+0;omega
 | p::r,kvs=>by
  have h1:=ygm r (putK kvs p.1 p.2)
  have h2:=yfO kvs p.1 p.2
  show (yrj (putK kvs p.1 p.2) r).length<=_
  rw [length_cons];omega
structure M1 (X:Cx) (o:Expr) (m:Str) (apos:Pos) (e:Expr) (cpos:Pos):Prop where
 base:attributeBase o m X.env (eval o X.env)=eval o X.env
 few:((backTo cpos (starEach [e] X.env)).all (fun x=>!x.1) && (backToKw cpos (keywordEach [] X.env)).all (fun x=>x.1.isSome)
  && decide (([e]:List Expr).length+([]:List Keyword).length+(if ([]:List Keyword).isEmpty then 0 else 1)<30))=true
 line:(apos.endLine == cpos.line)=true
 trees:backTo cpos (starEach [e] X.env)=[(false,eval e X.env)]
structure M2 (X:Cx) (o:Expr) (m:Str) (apos:Pos) (e f:Expr) (cpos:Pos):Prop where
 base:attributeBase o m X.env (eval o X.env)=eval o X.env
 few:((backTo cpos (starEach [e,f] X.env)).all (fun x=>!x.1) && (backToKw cpos (keywordEach [] X.env)).all (fun x=>x.1.isSome)
  && decide (([e,f]:List Expr).length+([]:List Keyword).length+(if ([]:List Keyword).isEmpty then 0 else 1)<30))=true
 line:(apos.endLine == cpos.line)=true
 trees:backTo cpos (starEach [e,f] X.env)=[(false,eval e X.env),(false,eval f X.env)]
section
variable {X:Cx}{pins:List (Addr×Obj)}{σ:St}{H:Hp}{s:Shared}{a:Addr}{y d:V}{u r:Value}{o:Option V}{A:Around}{E:Value->Shared->Prop}
end
section
variable {X:Cx}{o e f:Expr}{apos cpos:Pos}{td ty tx:TE}
end
section
variable {X:Cx}{pins:List (Addr×Obj)}{σ:St}{H:Hp}{s:Shared}{a:Addr}{kvs:List (Key×V)}{A:Around}{E:Value->Shared->Prop}
end
section
variable {X:Cx}{pins:List (Addr×Obj)}{σ:St}{H:Hp}{s:Shared}{a:Addr}{y:V}{u:Value}{A:Around}{E:Value->Shared->Prop}
end
end L2
namespace Att
open PySem PySem.W PySem.Calls PyProof.Rows
section
variable {prog:Program}{w:World}{A:Around}{E:Value->Shared->Prop}{s:Shared}{K:Frag}
end
end Att
namespace L2
open PySem PySem.Spec PyProof.Rows
end L2
namespace L2
open PySem PySem.Spec PyProof.Rows
end L2
namespace L2
open PySem PySem.Spec PyProof.Rows
section
variable {P:Program}{w:World}{K:PySem.W.Frag}{mg:Str->Option Value}{base:Heap}
end
section
variable {X:Cx}
end
section
variable {κ:Type} [DecidableEq κ]
end
end L2
namespace PX
open PySem L2
variable {K:Ck}
theorem yjt {α:Type}{l:List α}(h:l.Nodup) {i j:Nat}(hi:i<l.length) (hj:j<l.length) (e:l[i]=l[j]):i=j:=by
 have p:=List.pairwise_iff_getElem.mp h
 rcases Nat.lt_trichotomy i j with z|z|z
 .exact absurd e (p i j hi hj z)
 .exact z
 .exact absurd e.symm (p j i hj hi z)
def ynh (W:Wd) (n:Nat) (a:Addr) (o:HO) (d:Nd):Wd:=⟨W.F,upd W.H a o,W.m,W.h.set n d⟩
theorem yfP {W:Wd}(w:WOk K W) {n:Nat}{d d':Nd}{a:Addr}{o:HO}(e:W.h[n]?=some d) (hm:W.m[n]?=some a) (hF:W.F a=none) (at':NdAt K W.F (upd W.H a o) W.m d' a) (nf:∀ ks xs,d≠.fz ks xs:=by intro _ _ z;cases z):Le K W (ynh W n a o d'):=by
 have hn:n<W.h.length:=(List.getElem?_eq_some_iff.mp e).1
 have ham:a∈W.m:=mem_of_getElem? hm
 refine ⟨⟨fun b u q=>?_,by show W.m.length=(W.h.set n d').length;rw [length_set];exact w.len,w.nd,fun j dj b e1 e2=>?_⟩,Same.refl _,prefix_refl _,fun b u q hb=>?_,fun b u _ _ f=>f,fun b z z'=>absurd z z',fun j ks xs e1=>?_⟩
 .have:b≠a:=ybr q hF
  exact (yF this).trans (w.le _ _ q)
 .have e1:(W.h.set n d')[j]?=some dj:=e1
  by_cases hj:n=j
  .subst hj
   rw [getElem?_set_self hn] at e1
   cases e1
   have e2:W.m[n]?=some b:=e2
   rw [hm] at e2
   cases e2
   exact at'
  .rw [getElem?_set_ne hj] at e1
   have e2:W.m[j]?=some b:=e2
   have hb:b≠a:=fun z=>by
    subst z
    have h1:=(List.getElem?_eq_some_iff.mp hm)
    have h2:=(List.getElem?_eq_some_iff.mp e2)
    obtain ⟨l1,q1⟩:=h1
    obtain ⟨l2,q2⟩:=h2
    exact hj (yjt w.nd l1 l2 (q1.trans q2.symm))
   exact (w.at_ j dj b e1 e2).mono (Same.refl _) (prefix_refl _) (fun u q=>(yF hb).trans q) id
 .have:b≠a:=fun z=>hb (z ▸ ham)
  exact (yF this).trans q
 .have hj:n≠j:=fun z=>by
   subst z
   rw [e] at e1
   cases e1
   exact nf _ _ rfl
  refine ⟨(getElem?_set_ne hj).trans e1,fun b e2=>yF fun z=>?_⟩
  subst z
  obtain ⟨l1,q1⟩:=List.getElem?_eq_some_iff.mp hm
  obtain ⟨l2,q2⟩:=List.getElem?_eq_some_iff.mp e2
  exact hj (yjt w.nd l1 l2 (q1.trans q2.symm))
def ygn:PV->AH->Bool:=fun x h=>match ybL x h with|some _=>true|none=>false
theorem yor {W:Wd}{x:PV}{v:V}(w:WOk K W) (r:ycH K W x v) (c:ygn x W.h=true):tyV K.K "list" v W.H:=by
 unfold ygn at c
 split at c
 .rename_i xs hx
  obtain ⟨a,vs,rfl,hs,_⟩:=yY w hx r
  exact .inl ⟨rfl,vs,SqL.of hs⟩
 .cases c
noncomputable def yhS:PM:=fun x ys h=>match x,ys with|.loc n,[y]=>(match h[n]? with|some (.lst xs)=>if xs.length<100000 then some (.non,h.set n (.lst (xs++[y]))) else none|_=>none)|_,_=>none
theorem yos:yka K "list" ygn ymF yhS:=by
 refine ⟨fun W x v w r c=>yor w r c,fun W x v xs vs Q z h' w rx r e q=>?_⟩
 unfold yhS at e
 split at e
 .rename_i n y
  split at e
  .rename_i ys hn
   split at e
   .rename_i hl
    cases e
    obtain ⟨u,rfl,ru⟩:=yoh r
    obtain ⟨a,ev,hm,hf,us,hp,rs⟩:=w.loc hn rx
    refine ⟨a,us,u,ev,rfl,hp,by rw [rs.len];exact big hl,?_⟩
    exact q .non (ynh W n a (.lst (us++[u])) (.lst (ys++[y]))) rfl (yfP w hn hm hf ⟨hf,_,yx,rs.snoc ru⟩) rfl
   .cases e
  .cases e
 .cases e
noncomputable def yhq:PM:=fun x ys h=>match x,ys with|.loc n,[]=>(match h[n]? with|some (.lst xs)=>(match xs[xs.length-1]? with|some y=>some (y,h.set n (.lst xs.dropLast))|none=>none)|_=>none)|_,_=>none
theorem RepL.dropLast {F:Hp}{m:List Addr}{xs:List PV}{vs:List V}(r:RepL K F m xs vs):RepL K F m xs.dropLast vs.dropLast:=by
 rw [List.dropLast_eq_take,List.dropLast_eq_take,r.len]
 exact r.take _
theorem yot:yka K "list" ygn yFk yhq:=by
 refine ⟨fun W x v w r c=>yor w r c,fun W x v xs vs Q z h' w rx r e q=>?_⟩
 unfold yhq at e
 split at e
 .rename_i n
  split at e
  .rename_i ys hn
   split at e
   .rename_i y hy
    cases e
    obtain rfl:vs=[]:=r
    obtain ⟨a,ev,hm,hf,us,hp,rs⟩:=w.loc hn rx
    obtain ⟨u,hu,ru⟩:=rs.get hy
    refine ⟨a,us,u,ev,rfl,hp,by rw [rs.len];exact hu,?_⟩
    exact q u (ynh W n a (.lst us.dropLast) (.lst ys.dropLast)) rfl (yfP w hn hm hf ⟨hf,_,yx,rs.dropLast⟩) ru
   .cases e
  .cases e
 .cases e
def yhT (eo ei ev:XE):XS:=fun ρ h=>ob (ev ρ h) fun v h1=>ob (eo ρ h1) fun o h2=>ob (ei ρ h2) fun i h3=>match o,i with
 | .loc n,.int k=>(match h3[n]? with|some (.lst xs)=>(match ixN xs.length k with|some j=>some (.nx ρ,h3.set n (.lst (xs.set j v)))|none=>none)|_=>none)
 | _,_=>none
theorem yub {to ti tv:TE}{eo ei ev:XE}(a:ybN K to eo) (b:ybN K ti ei) (c:ybN K tv ev):yfB K (yvt tv (yFa to ti yzJ)) (yhT eo ei ev):=by
 intro W0 W ρ σ D o h' g e q
 obtain ⟨v,h1,e1,f1⟩:=yg e
 obtain ⟨x,h2,e2,f2⟩:=yg f1
 obtain ⟨i,h3,e3,f3⟩:=yg f2
 refine c W0 W ρ σ _ v h1 g e1 fun vv W1 w1 l1 r1=>?_
 subst w1
 refine a W0 W1 ρ σ _ x h2 (g.step l1) e2 fun vx W2 w2 l2 r2=>?_
 subst w2
 refine b W0 W2 ρ σ _ i h3 (g.step (l1.trans l2)) e3 fun vi W3 w3 l3 r3=>?_
 subst w3
 have w:=l3.ok
 split at f3
 .rename_i n k
  split at f3
  .rename_i xs hn
   split at f3
   .rename_i j hj
    cases f3
    obtain ⟨p,ep,hm,hf,us,hp,rs⟩:=w.loc hn (l3.rep r2)
    refine ⟨p,us,k,j,ep,r3,hp,by rw [rs.len];exact hj,?_⟩
    have l4:Le K W3 (ynh W3 n p (.lst (us.set j vv)) (.lst (xs.set j v))):=yfP w hn hm hf ⟨hf,_,yx,rs.set j ((l2.trans l3).rep r1)⟩
    have l:=l1.trans (l2.trans (l3.trans l4))
    exact q _ σ rfl l.lf (g.step l)
   .cases f3
  .cases f3
 .cases f3
def keyOf:PV->Option Key
 | .int i=>some (.inl i)
 | .str s=>some (.inr s)
 | _=>none
theorem yhU {W:Wd}{x:PV}{v:V}{k:Key}(e:keyOf x=some k) (r:ycH K W x v):v=kV k:=by
 cases x<;>cases e<;>exact r
noncomputable def ylM (x:PV) (h:AH):Option (List Key×List PV):=match x with|.loc n=>(match h[n]? with|some (.dct ks xs)=>some (ks,xs)|_=>none)|_=>none
def yms:List Key->List PV->Key->Option PV
 | k::ks,x::xs,j=>if k=j then some x else yms ks xs j
 | _,_,_=>none
def yrk:List Key->Key->Bool
 | [],_=>false
 | k::ks,j=>if k=j then true else yrk ks j
noncomputable def setK {α:Type}:List Key->List α->Key->α->List α
 | k::ks,x::xs,j,y=>if k=j then y::setK ks xs j y else x::setK ks xs j y
 | _,xs,_,_=>xs
def ycS (ks:List Key) (xs:List PV) (k:Key) (x:PV):List Key×List PV:=if yrk ks k=true then (ks,setK ks xs k x) else (ks++[k],xs++[x])
theorem ykj {α:Type}:∀ (ks:List Key) (xs:List α) (j:Key) (y:α),(setK ks xs j y).length=xs.length
 | [],_,_,_=>by simp [setK]
 | _::_,[],_,_=>by simp [setK]
 | k::ks,x::xs,j,y=>by
  show (if k=j then y::setK ks xs j y else x::setK ks xs j y).length=_
  split<;>simp [ykj ks xs j y]
theorem RepL.setK {F:Hp}{m:List Addr}:∀ {xs:List PV}{vs:List V}(ks:List Key) (j:Key) {y:PV}{u:V},RepL K F m xs vs->Rep K F m y u->RepL K F m (PX.setK ks xs j y) (PX.setK ks vs j u)
 | [],_,ks,j,y,u,h,_=>by rw [show _=[] from h];cases ks<;>exact rfl
 | x::xs,_,[],j,y,u,h,_=>by
  obtain ⟨v,r,e,h1,l⟩:=h
  subst e
  exact ⟨v,r,rfl,h1,l⟩
 | x::xs,_,k::ks,j,y,u,⟨v,r,e,h1,l⟩,ru=>by
  subst e
  show RepL K F m (if k=j then y::PX.setK ks xs j y else x::PX.setK ks xs j y) (if k=j then u::PX.setK ks r j u else v::PX.setK ks r j u)
  have ih:=RepL.setK ks j l ru
  split
  .exact ⟨u,_,rfl,ru,ih⟩
  .exact ⟨v,_,rfl,h1,ih⟩
theorem ykk {F:Hp}{m:List Addr}:∀ {ks:List Key}{xs:List PV}{vs:List V}(j:Key),RepL K F m xs vs->vs.length=ks.length->(∀ x,yms ks xs j=some x->∃ v,ylK (ks.zip vs) j=some v/\Rep K F m x v)/\(yms ks xs j=none->ylK (ks.zip vs) j=none)
 | [],xs,vs,j,r,hl=>by
  refine ⟨fun x e=>?_,fun _=>rfl⟩
  cases xs<;>cases e
 | k::ks,[],vs,j,r,hl=>by rw [show vs=[] from r] at hl;cases hl
 | k::ks,x::xs,_,j,⟨v,r',e,h,l⟩,hl=>by
  subst e
  have ih:=ykk j l (by simpa using hl)
  have hz:ylK ((k::ks).zip (v::r')) j=if k=j then some v else ylK (ks.zip r') j:=by
   unfold ylK
   rw [zip_cons_cons,find?_cons]
   by_cases hk:k=j
   .simp [hk]
   .simp [hk]
  rw [hz]
  show (∀ y,(if k=j then some x else yms ks xs j)=some y->_)/\((if k=j then some x else yms ks xs j)=none->_)
  by_cases hk:k=j
  .rw [if_pos hk,if_pos hk]
   exact ⟨fun y e=>by cases e;exact ⟨v,rfl,h⟩,fun e=>by cases e⟩
  .rw [if_neg hk,if_neg hk]
   exact ih
theorem yrl (j:Key):∀ (ks:List Key) (vs:List V),vs.length=ks.length->((ks.zip vs).any fun kv=>decide (kv.1=j))=yrk ks j
 | [],_,_=>by simp [yrk]
 | k::ks,[],h=>by cases h
 | k::ks,v::vs,h=>by
  rw [zip_cons_cons,any_cons,yrl j ks vs (by simpa using h)]
  show (decide (k=j) || yrk ks j)=if k=j then true else yrk ks j
  by_cases hk:k=j<;>simp [hk]
theorem yrm (j:Key) (y:V):∀ (ks:List Key) (vs:List V),vs.length=ks.length->(ks.zip vs).map (fun kv=>if kv.1=j then (kv.1,y) else kv)=ks.zip (setK ks vs j y)
 | [],_,_=>by simp
 | k::ks,[],h=>by cases h
 | k::ks,v::vs,h=>by
  rw [zip_cons_cons,map_cons,yrm j y ks vs (by simpa using h)]
  show (if k=j then (k,y) else (k,v))::_=(k::ks).zip (if k=j then y::setK ks vs j y else v::setK ks vs j y)
  by_cases hk:k=j
  .rw [if_pos hk,if_pos hk];rfl
  .rw [if_neg hk,if_neg hk];rfl
theorem you (j:Key) (y:V) (ks:List Key) (vs:List V) (hl:vs.length=ks.length):putK (ks.zip vs) j y=if yrk ks j=true then ks.zip (setK ks vs j y) else (ks++[j]).zip (vs++[y]):=by
 unfold putK
 rw [yrl j ks vs hl,yrm j y ks vs hl,List.zip_append hl.symm]
 rfl
theorem ylN {W:Wd}(w:WOk K W) {x:PV}{v:V}{ks:List Key}{xs:List PV}(e:ylM x W.h=some (ks,xs)) (r:ycH K W x v):∃ a vs,v=.ref a/\W.H a=some (.dK (ks.zip vs))/\vs.length=ks.length/\ycI K W xs vs:=by
 unfold ylM at e
 split at e
 .split at e
  .rename_i hn
   cases e
   obtain ⟨a,ev,hm,hf,vs,hp,hl,rs⟩:=w.loc hn r
   exact ⟨a,vs,ev,hp,hl,rs⟩
  .cases e
 .cases e
noncomputable def yxC (x:PV) (h:AH):Option (List Key×List PV):=match x with|.loc n=>(match h[n]? with|some (.dct ks xs)=>some (ks,xs)|some (.fz ks xs)=>some (ks,xs)|_=>none)|_=>none
theorem yov {W:Wd}(w:WOk K W) {x:PV}{v:V}{ks:List Key}{xs:List PV}(e:yxC x W.h=some (ks,xs)) (r:ycH K W x v):∃ a vs,v=.ref a/\Rd W.H a (.dK (ks.zip vs))/\vs.length=ks.length/\ycI K W xs vs:=by
 unfold yxC at e
 split at e
 .split at e
  .rename_i hn
   cases e
   obtain ⟨a,ev,hm,hf,vs,hp,hl,rs⟩:=w.loc hn r
   exact ⟨a,vs,ev,.inl hp,hl,rs⟩
  .rename_i hn
   cases e
   obtain ⟨a,ev,hm,hf,o,vs,hp,hl,rs⟩:=w.loc hn r
   exact ⟨a,vs,ev,.inr ⟨o,hp⟩,hl,rs⟩
  .cases e
 .cases e
theorem DGet.r {H:Hp}{a:Addr}{kvs:List (Key×V)}{k:Key}(e:Rd H a (.dK kvs)):DGet H a (kV k) (ylK kvs k):=.inl ⟨kvs,k,e,rfl,rfl⟩
def yhV (ed ek:XE):XE:=fun ρ h=>ob (ed ρ h) fun d h1=>ob (ek ρ h1) fun k h2=>match yxC d h2,keyOf k with|some (ks,xs),some j=>(match yms ks xs j with|some x=>some (x,h2)|none=>none)|_,_=>none
theorem yuc {td ty:TE}{ed ek:XE}(a:ybN K td ed) (b:ybN K ty ek):ybN K (yAD td ty) (yhV ed ek):=by
 intro W0 W ρ σ Q z h' g e q
 obtain ⟨d,h1,e1,f1⟩:=yg e
 obtain ⟨k,h2,e2,f2⟩:=yg f1
 refine a W0 W ρ σ _ d h1 g e1 fun vd W1 w1 l1 r1=>?_
 subst w1
 refine b W0 W1 ρ σ _ k h2 (g.step l1) e2 fun vk W2 w2 l2 r2=>?_
 subst w2
 split at f2
 .rename_i ks xs j hd hk
  split at f2
  .rename_i x hx
   cases f2
   obtain ⟨p,vs,ev,hp,hl,rs⟩:=yov l2.ok hd (l2.rep r1)
   obtain ⟨v,h3,h4⟩:=(ykk j rs hl).1 _ hx
   have:=yhU hk r2
   subst this
   exact ⟨p,v,ev,by rw [<- h3];exact DGet.r hp,q _ W2 rfl (l1.trans l2) h4⟩
  .cases f2
 .cases f2
def yzb (neg:Bool) (ek ed:XE):XE:=fun ρ h=>ob (ek ρ h) fun k h1=>ob (ed ρ h1) fun d h2=>match yxC d h2,keyOf k with|some (ks,xs),some j=>some (.bl (if neg then !(yms ks xs j).isSome else (yms ks xs j).isSome),h2)|_,_=>none
theorem ypz {F:Hp}{m:List Addr}{ks:List Key}{xs:List PV}{vs:List V}(j:Key) (r:RepL K F m xs vs) (hl:vs.length=ks.length):(ylK (ks.zip vs) j).isSome=(yms ks xs j).isSome:=by
 have h:=ykk j r hl
 cases e:yms ks xs j with
 | none=>rw [h.2 e];rfl
 | some x=>obtain ⟨v,h1,_⟩:=h.1 x e;rw [h1];rfl
theorem yxD {td ty:TE}{ed ek:XE}(b:ybN K ty ek) (a:ybN K td ed):ybN K (yFt ty td) (yzb false ek ed):=by
 intro W0 W ρ σ Q z h' g e q
 obtain ⟨k,h1,e1,f1⟩:=yg e
 obtain ⟨d,h2,e2,f2⟩:=yg f1
 refine b W0 W ρ σ _ k h1 g e1 fun vk W1 w1 l1 r1=>?_
 subst w1
 refine a W0 W1 ρ σ _ d h2 (g.step l1) e2 fun vd W2 w2 l2 r2=>?_
 subst w2
 split at f2
 .rename_i ks xs j hd hk
  cases f2
  obtain ⟨p,vs,ev,hp,hl,rs⟩:=yov l2.ok hd r2
  have:=yhU hk (l2.rep r1)
  subst this
  exact ⟨p,_,ev,DGet.r hp,q _ W2 rfl (l1.trans l2) (by rw [ypz j rs hl];rfl)⟩
 .cases f2
def ykl (ed ek ev:XE):XS:=fun ρ h=>ob (ev ρ h) fun v h1=>ob (ed ρ h1) fun d h2=>ob (ek ρ h2) fun k h3=>match d,keyOf k with
 | .loc n,some j=>(match h3[n]? with|some (.dct ks xs)=>if ks.length<1000 then some (.nx ρ,h3.set n (.dct (ycS ks xs j v).1 (ycS ks xs j v).2)) else none|_=>none)
 | _,_=>none
theorem yud {td ty tv:TE}{ed ek ev:XE}(a:ybN K td ed) (b:ybN K ty ek) (c:ybN K tv ev):yfB K (yAE td ty tv) (ykl ed ek ev):=by
 intro W0 W ρ σ D o h' g e q
 obtain ⟨v,h1,e1,f1⟩:=yg e
 obtain ⟨x,h2,e2,f2⟩:=yg f1
 obtain ⟨i,h3,e3,f3⟩:=yg f2
 refine c W0 W ρ σ _ v h1 g e1 fun vv W1 w1 l1 r1=>?_
 subst w1
 refine a W0 W1 ρ σ _ x h2 (g.step l1) e2 fun vx W2 w2 l2 r2=>?_
 subst w2
 refine b W0 W2 ρ σ _ i h3 (g.step (l1.trans l2)) e3 fun vi W3 w3 l3 r3=>?_
 subst w3
 have w:=l3.ok
 split at f3
 .rename_i n j hk
  split at f3
  .rename_i ks xs hn
   split at f3
   .rename_i hc
    cases f3
    obtain ⟨p,ep,hm,hf,us,hp,hl,rs⟩:=w.loc hn (l3.rep r2)
    have:=yhU hk r3
    subst this
    have hput:=you j vv ks us hl
    have rv:=(l2.trans l3).rep r1
    have key:∃ us',putK (ks.zip us) j vv=(ycS ks xs j v).1.zip us'/\us'.length=(ycS ks xs j v).1.length/\ycI K W3 (ycS ks xs j v).2 us':=by
     unfold ycS
     by_cases hj:yrk ks j=true
     .rw [if_pos hj] at hput ⊢
      exact ⟨_,hput,by rw [ykj];exact hl,rs.setK ks j rv⟩
     .rw [if_neg hj] at hput ⊢
      exact ⟨_,hput,by rw [length_append,length_append,hl];rfl,rs.snoc rv⟩
    obtain ⟨us',p1,p2,p3⟩:=key
    refine ⟨p,_,ep,DPut.k hp (by rw [length_zip,hl];exact yll (by omega)),?_⟩
    rw [p1]
    have l4:Le K W3 (ynh W3 n p (.dK ((ycS ks xs j v).1.zip us')) (.dct (ycS ks xs j v).1 (ycS ks xs j v).2)):=yfP w hn hm hf ⟨hf,us',yx,p2,p3⟩
    have l:=l1.trans (l2.trans (l3.trans l4))
    exact q _ σ rfl l.lf (g.step l)
   .cases f3
  .cases f3
 .cases f3
def ypA:XO:=fun _ h=>some (.dct [] [],h)
theorem yue:ylF K yvT ypA:=by
 intro W0 W ρ σ Q d h' g e q
 cases e
 intro p hp
 exact q p (ygM W p (.dK [])) rfl (ycC g.ok hp) (g.ok.out hp) hp (fun z=>by cases z) ⟨g.ok.ff hp,[],yx,rfl,rfl⟩
end PX
namespace PX
open PySem L2
variable {K:Ck}
def itemsOf (x:PV) (h:AH):Option (List PV):=match x with|.tup xs=>some xs|_=>listOf x h
theorem yni {W:Wd}(w:WOk K W) {x:PV}{v:V}{xs:List PV}(e:itemsOf x W.h=some xs) (r:ycH K W x v):∃ a vs,v=.ref a/\(SqL K.K W.H a vs\/SqT K.K W.H a vs)/\ycI K W xs vs:=by
 unfold itemsOf at e
 split at e
 .cases e
  obtain ⟨a,vs,ev,hs,rs⟩:=r
  exact ⟨a,vs,ev,.inr (ydo w hs),rs⟩
 .obtain ⟨a,vs,ev,hs,rs⟩:=ygQ w e r
  exact ⟨a,vs,ev,.inl hs,rs⟩
def svs:List PV->Option (List V)
 | []=>some []
 | x::xs=>match sv x,svs xs with|some v,some vs=>some (v::vs)|_,_=>none
theorem yrn {F:Hp}{m:List Addr}:∀ {xs:List PV}{us vs:List V},svs xs=some us->RepL K F m xs vs->vs=us/\us.all ygf=true
 | [],_,_,e,r=>by cases e;exact ⟨r,rfl⟩
 | x::xs,us,_,e,⟨v,r,ev,h,l⟩=>by
  unfold svs at e
  split at e
  .rename_i u us' e1 e2
   cases e
   obtain ⟨h1,h2⟩:=yrn e2 l
   have hv:v=u:=by cases x<;>cases e1<;>exact h
   have hf:ygf u=true:=by cases x<;>cases e1<;>rfl
   exact ⟨by rw [ev,hv,h1],by rw [List.all_cons,hf,h2];rfl⟩
  .cases e
theorem ykm {x:PV}{u:V}(e:sv x=some u):ygf u=true:=by cases x<;>cases e<;>rfl
def ymt (neg:Bool):P2:=fun x y h=>match sv x,itemsOf y h with|some v,some ys=>(match svs ys with|some us=>some (.bl (if neg then !inV v us else inV v us),h)|none=>none)|_,_=>none
theorem yuf {neg:Bool}:ybZ K (rIn K.K neg) (ymt neg):=by
 intro W x y v u Q z h' w rx ry e q
 unfold ymt at e
 split at e
 .rename_i v' ys ev ey
  split at e
  .rename_i us hu
   cases e
   obtain rfl:=yfE ev rx
   obtain ⟨a,vs,rfl,hs,rs⟩:=yni w ey ry
   obtain ⟨rfl,hf⟩:=yrn hu rs
   exact ⟨a,vs,rfl,hs,ykm ev,hf,q _ W rfl (.refl w) rfl⟩
  .cases e
 .cases e
end PX
namespace PX
open PySem L2
theorem yDM [i:Decidable True]:decide True=true:=by simp
theorem yDN [i:Decidable False]:decide False=false:=by simp
theorem yDO:(false=true)=False:=by simp
theorem yDP:(true=false)=False:=by simp
theorem yug {g:XG}{s:XS}{xs:List PV}(I:Nat->PSt->AH->Prop) (R:PV->AH->Prop) {ρ:PSt}{h:AH}(h0:I 0 ρ h)
  (step:∀ (i:Nat) (x:PV) (ρ:PSt) (h:AH),xs[i]?=some x->I i ρ h->∃ ρ1 o h',g x ρ=some ρ1/\s ρ1 h=some (o,h')/\(match o with|.nx ρ'=>I (i+1) ρ' h'|.ct ρ'=>I (i+1) ρ' h'|.bk _=>False|.rt y=>R y h')) :
  (∃ ρ' h',ygh g s xs ρ h=some (.nx ρ',h')/\I xs.length ρ' h')\/∃ y h',ygh g s xs ρ h=some (.rt y,h')/\R y h':=by
 have key:∀ (n i:Nat) (ρ:PSt) (h:AH),i+n=xs.length->I i ρ h->(∃ ρ' h',ygh g s (xs.drop i) ρ h=some (.nx ρ',h')/\I xs.length ρ' h')\/∃ y h',ygh g s (xs.drop i) ρ h=some (.rt y,h')/\R y h':=by
  intro n
  induction n with
  | zero =>
   intro i ρ h hi hI
   have:i=xs.length:=by omega
   subst this
   rw [List.drop_length]
   exact .inl ⟨ρ,h,rfl,hI⟩
  | succ n ih =>
   intro i ρ h hi hI
   have hlt:i<xs.length:=by omega
   obtain ⟨ρ1,o,h',e1,e2,e3⟩:=step i xs[i] ρ h (List.getElem?_eq_getElem hlt) hI
   rw [List.drop_eq_getElem_cons hlt,yAt,e1,bind_some,e2,ybF]
   cases o with
   | nx ρ'=>exact ih (i+1) ρ' h' (by omega) e3
   | ct ρ'=>exact ih (i+1) ρ' h' (by omega) e3
   | bk ρ'=>exact e3.elim
   | rt y=>exact .inr ⟨y,h',rfl,e3⟩
 simpa using key xs.length 0 ρ h (by omega) h0
theorem ynj {g:XG}{s:XS}{xs:List PV}(I:Nat->PSt->AH->Prop) {ρ:PSt}{h:AH}(h0:I 0 ρ h)
  (step:∀ (i:Nat) (x:PV) (ρ:PSt) (h:AH),xs[i]?=some x->I i ρ h->∃ ρ1 ρ' h',g x ρ=some ρ1/\(s ρ1 h=some (.nx ρ',h')\/s ρ1 h=some (.ct ρ',h'))/\I (i+1) ρ' h') :
  ∃ ρ' h',ygh g s xs ρ h=some (.nx ρ',h')/\I xs.length ρ' h':=by
 rcases yug I (fun _ _=>False) h0 (fun i x ρ h hx hI=>by
  obtain ⟨ρ1,ρ',h',e1,e2,e3⟩:=step i x ρ h hx hI
  rcases e2 with e2|e2
  .exact ⟨ρ1,.nx ρ',h',e1,e2,e3⟩
  .exact ⟨ρ1,.ct ρ',h',e1,e2,e3⟩) with q|⟨_,_,_,q⟩
 .exact q
 .exact q.elim
theorem yow {c:XT}{s:XS}{n:Nat}{ρ:PSt}{h:AH}:whl c s (n+1) ρ h=ob (c ρ h) fun k h1=>if k=true then ob (s ρ h1) fun o h2=>(match o with|.nx ρ'=>whl c s n ρ' h2|.ct ρ'=>whl c s n ρ' h2|.bk ρ'=>some (.nx ρ',h2)|.rt y=>some (.rt y,h2)) else some (.nx ρ,h1):=rfl
theorem ykn {α:Type}{e:XE}{inn:PV->PSt}(f g:α->PV):∀ {ts:List α}{h:AH},(∀ t∈ts,e (inn (f t)) h=some (g t,h))->yke e inn (ts.map f) h=some (ts.map g,h)
 | [],_,_=>rfl
 | t::ts,h,k=>by
  show ob (e (inn (f t)) h) (fun y h1=>ob (yke e inn (ts.map f) h1) fun ys h2=>some (y::ys,h2))=_
  rw [k t mem_cons_self,ybF,ykn f g fun y hy=>k y (mem_cons_of_mem _ hy),ybF]
  rfl
theorem yvU {i:Nat}{e:XE}{ρ:PSt}{h:AH}{xs:List PV}(hx:ρ[i]?=some (.own (.lst xs))):ykd i e ρ h=ob (e ρ h) fun x h1=>if xs.length<100000 then some (.nx (ρ.set i (.own (.lst (xs++[x])))),h1) else none:=by
 unfold ykd
 rw [hx]
theorem yDQ {α:Type}{a0:α}{xs:List α}:atI (a0::xs) 0=some a0:=ydn (j:=0) rfl
theorem yFu {α:Type}{a0 a1:α}{xs:List α}:atI (a0::a1::xs) 1=some a1:=ydn (j:=1) rfl
theorem yfo {h:AH}{n:Nat}{xs:List PV}(e:h[n]?=some (.lst xs)):yV [.loc n] h=some (.lst xs,h):=by
 unfold yV listOf
 simp only [e]
theorem yeU {h:AH}{n:Nat}{xs:List PV}(e:h[n]?=some (.lst xs)):yca [.loc n] h=some (.int xs.length,h):=by
 unfold yca yrc
 simp only [e]
theorem yhW {h:AH}{n:Nat}{xs:List PV}{y:PV}(e:h[n]?=some (.lst xs)) (hl:xs.length<100000):yhS (.loc n) [y] h=some (.non,h.set n (.lst (xs++[y]))):=by
 unfold yhS
 simp only [e]
 rw [if_pos hl]
theorem ycJ {h:AH}{n:Nat}{xs:List PV}(e:h[n]?=some (.lst xs)):ygn (.loc n) h=true:=by
 unfold ygn ybL
 simp only [e]
end PX
namespace PX
open PySem L2
variable {K:Ck}
section
variable {ta:TE}{ea:XE}
def yuh (i:Nat) (e:XE):XS:=fun ρ h=>match ρ[i]? with
 | some (.own (.lst xs))=>ob (e ρ h) fun x h1=>(match x with|.lst ys=>if xs.length+ys.length<=100000 then some (.nx (ρ.set i (.own (.lst (xs++ys)))),h1) else none|_=>none)
 | _=>none
theorem yui (i:Nat) (a:ybN K ta ea):yfB K (yqi (tBM K.K "list" yqD (ypW i) (ymC ta ytl))) (yuh i ea):=by
 intro W0 W ρ σ D o h' g e q
 unfold yuh at e
 split at e
 .rename_i xs0 hx
  obtain ⟨x,h1,e1,f1⟩:=yg e
  split at f1
  .rename_i ys
   split at f1
   .rename_i hlen
    cases f1
    obtain ⟨p,a1,a2,a3,a4,hf,vs,hp,r⟩:=g.own i _ hx
    refine ⟨.ref p,a1,.inl ⟨rfl,_,SqL.of hp⟩,?_⟩
    refine a W0 W ρ σ _ _ _ g e1 fun v W1 w1 l1 r1=>?_
    obtain ⟨b,us,rfl,hb,rb⟩:=r1
    refine ⟨p,b,vs,us,rfl,rfl,l1.keep _ _ hp a2,l1.ok.le _ _ hb,by rw [r.len,rb.len];exact yxi hlen,?_⟩
    have g1:=g.step l1
    obtain ⟨p',b1,b2,b3,b4,b5,vs',b6,b7⟩:=g1.own i _ hx
    rw [a1] at b1
    cases b1
    rw [l1.keep _ _ hp a2] at b6
    cases b6
    exact q (yqV W1 p (.lst (vs++us))) σ w1 (yqW l1 b2) (g1.mut hx a1 b2 b3 b5 (fun z=>by cases z) ⟨b5,_,yx,b7.app rb⟩)
   .cases f1
  .cases f1
 .cases e
def yuj (i:Nat):XE:=fun ρ h=>match ρ[i]? with|some (.own (.lst xs))=>some (.int xs.length,h)|_=>none
theorem yuk (i:Nat):ybN K (tCB (yzK K.K) (ymC (ypW i) ytl)) (yuj i):=by
 intro W0 W ρ σ Q x h' g e q
 unfold yuj at e
 split at e
 .rename_i xs hx
  cases e
  obtain ⟨p,a1,a2,a3,a4,hf,vs,hp,r⟩:=g.own i _ hx
  refine ⟨.ref p,a1,p,vs,rfl,.inl (SqL.of hp),?_⟩
  rw [r.len]
  exact q _ W rfl (.refl g.ok) rfl
 .cases e
end
end PX
namespace PX
open PySem L2
variable {K:Ck}
end PX
namespace PX
open PySem L2
variable {K:Ck}
def Odd (K:PySem.W.Frag) (H:Hp):Prop:=∃ a o ob,H a=some o/\K.lookup a=some ob
inductive EqR (K:PySem.W.Frag) (H:Hp):Nat->V->V->Bool->Prop where
 | flat {n:Nat}{x y:V}(fx:ygf x=true) (fy:ygf y=true):EqR K H n x y (eqV x y)
 | same {n:Nat}{a:Addr}:EqR K H n (.ref a) (.ref a) true
 | odd {n:Nat}{x y:V}{b:Bool}(h:Odd K H):EqR K H n x y b
 | nt {n:Nat}{b:Addr}{ys:List V}(hb:SqT K H b ys):EqR K H (n+1) .non (.ref b) false
 | tn {n:Nat}{b:Addr}{ys:List V}(hb:SqT K H b ys):EqR K H (n+1) (.ref b) .non false
 | lst {n:Nat}{a b:Addr}{xs ys:List V}{e:Nat->Bool}(ha:H a=some (.lst xs)) (hb:H b=some (.lst ys)) (hl:xs.length=ys.length) (hne:a≠b) (he:∀ j x y,xs[j]?=some x->ys[j]?=some y->EqR K H n x y (e j)):EqR K H (n+1) (.ref a) (.ref b) ((List.range xs.length).all e)
 | lstN {n:Nat}{a b:Addr}{xs ys:List V}(ha:H a=some (.lst xs)) (hb:H b=some (.lst ys)) (hl:xs.length≠ys.length):EqR K H (n+1) (.ref a) (.ref b) false
 | tup {n:Nat}{a b:Addr}{xs ys:List V}{e:Nat->Bool}(ha:SqT K H a xs) (hb:SqT K H b ys) (hne:a≠b) (he:∀ j x y,xs[j]?=some x->ys[j]?=some y->EqR K H n x y (e j)):EqR K H (n+1) (.ref a) (.ref b) ((List.range (min xs.length ys.length)).all e && xs.length == ys.length)
inductive RcR (K:PySem.W.Frag) (H:Hp):V->V->Bool->Prop where
 | nt {b:Addr}{ys:List V}(hb:SqT K H b ys):RcR K H .non (.ref b) false
 | tn {b:Addr}{ys:List V}(hb:SqT K H b ys):RcR K H (.ref b) .non false
 | lst {a b:Addr}{xs ys:List V}{e:Nat->Bool}(ha:H a=some (.lst xs)) (hb:H b=some (.lst ys)) (hl:xs.length=ys.length) (he:∀ j x y,xs[j]?=some x->ys[j]?=some y->EqR K H 40 x y (e j)):RcR K H (.ref a) (.ref b) ((List.range xs.length).all e)
 | lstN {a b:Addr}{xs ys:List V}(ha:H a=some (.lst xs)) (hb:H b=some (.lst ys)) (hl:xs.length≠ys.length):RcR K H (.ref a) (.ref b) false
 | tup {a b:Addr}{xs ys:List V}{e:Nat->Bool}(ha:SqT K H a xs) (hb:SqT K H b ys) (he:∀ j x y,xs[j]?=some x->ys[j]?=some y->EqR K H 40 x y (e j)):RcR K H (.ref a) (.ref b) ((List.range (min xs.length ys.length)).all e && xs.length == ys.length)
def yFv (K:PySem.W.Frag):R2:=fun x y H Q=>∃ b,RcR K H x y b/\Q (.bl b) H
def yFw (K:PySem.W.Frag):R2:=fun x y H Q=>∃ b,RcR K H x y b/\Q (.bl (!b)) H
noncomputable def yhr (f:PV->PV->Option Bool):List PV->List PV->Option Bool
 | x::xs,y::ys=>(match f x y,yhr f xs ys with|some b,some c=>some (b && c)|_,_=>none)
 | _,_=>some true
def pairE (f:PV->PV->Option Bool) (h:AH) (x y:PV):Option Bool:=match x,y with
 | .tup xs,.tup ys=>(match yhr f xs ys with|some b=>some (b && xs.length == ys.length)|none=>none)
 | .non,.tup _=>some false
 | .tup _,.non=>some false
 | x,y=>(match ybL x h,ybL y h with|some xs,some ys=>if xs.length=ys.length then yhr f xs ys else some false|_,_=>none)
def eqP:Nat->AH->PV->PV->Option Bool
 | 0,_,_,_=>none
 | n+1,h,x,y=>match sv x,sv y with
  | some u,some v=>some (eqV u v)
  | _,_=>pairE (eqP n h) h x y
theorem yko:∀ {v:V},ygf v=true->eqV v v=true
 | .non,_=>rfl
 | .bl b,_=>by cases b<;>rfl
 | .int i,_=>by simp [eqV]
 | .str s,_=>by simp [eqV]
noncomputable def unV:Value->Option V
 | .none=>some .non
 | .bool b=>some (.bl b)
 | .int i _=>some (.int i)
 | .str x _=>some (.str x)
 | .bytes b _=>some (.byt b)
 | .float b _=>some (.flt b)
 | .ref a=>some (.ref a)
 | .type n=>some (.ty n)
 | _=>none
theorem yvV:∀ {v:V}{u:Value},RelV v u->unV u=some v
 | .non,_,h=>by rw [show _=Value.none from h];rfl
 | .bl _,_,h=>by rw [show _=Value.bool _ from h];rfl
 | .int _,_,⟨_,h⟩=>by rw [h];rfl
 | .str _,_,⟨_,h⟩=>by rw [h];rfl
 | .byt _,_,⟨_,h⟩=>by rw [h];rfl
 | .flt _,_,⟨_,h⟩=>by rw [h];rfl
 | .ref _,_,h=>by rw [show _=Value.ref _ from h];rfl
 | .ty _,_,h=>by rw [show _=Value.type _ from h];rfl
theorem yxE {v w:V}{u:Value}(h1:RelV v u) (h2:RelV w u):v=w:=Option.some.inj ((yvV h1).symm.trans (yvV h2))
theorem yul {vs ws:List V}{us:List Value}(h1:Vals vs us):Vals ws us->vs=ws:=by
 induction h1 generalizing ws with
 | nil=>intro h2;cases h2;rfl
 | cons r _ ih=>intro h2;cases h2 with|cons r2 t2=>rw [yxE r r2,ih t2]
theorem yAG {F H:Hp}{a:Addr}{vs ws:List V}(s:Same F H) (h1:TpAt K.K F a vs) (h2:TpAt K.K F a ws):vs=ws\/Odd K.K H:=by
 rcases h1 with h1|⟨o,its,n,e1,e2,e3,e4,e5⟩
 .rcases h2 with h2|⟨o,its,n,e1,e2,e3,e4,e5⟩
  .rw [h1] at h2;cases h2;exact .inl rfl
  .exact .inr ⟨a,_,o,s _ _ h1,e1⟩
 .rcases h2 with h2|⟨o',its',n',e1',e2',e3',e4',e5'⟩
  .exact .inr ⟨a,_,o,s _ _ h2,e1⟩
  .rw [e1] at e1';cases e1'
   rw [e3] at e3';cases e3'
   exact .inl (yul e5 e5')
theorem yhX {f:PV->PV->Option Bool}{W:Wd}(hf:∀ x y v b,f x y=some b->ycH K W x v->ycH K W y v->b=true\/Odd K.K W.H):∀ {xs ys:List PV}{vs:List V}{c:Bool},ycI K W xs vs->ycI K W ys vs->yhr f xs ys=some c->c=true\/Odd K.K W.H
 | [],_,_,_,_,_,e=>by simp [yhr] at e;exact .inl e
 | _::_,[],_,_,_,_,e=>by simp [yhr] at e;exact .inl e
 | x::xs,y::ys,_,c,⟨v,r,e1,h1,l1⟩,⟨u,q,e2,h2,l2⟩,e=>by
  rw [e1] at e2
  cases e2
  unfold yhr at e
  cases eb:f x y with
  | none=>rw [eb] at e;cases e
  | some b =>
   cases ec:yhr f xs ys with
   | none=>rw [eb,ec] at e;cases e
   | some c' =>
    rw [eb,ec] at e
    cases e
    rcases hf x y _ b eb h1 h2 with z|z
    .rcases yhX hf l1 l2 ec with z'|z'
     .exact .inl (by rw [z,z'];rfl)
     .exact .inr z'
    .exact .inr z
theorem ypB {f:PV->PV->Option Bool}{W:Wd}(w:WOk K W) (hf:∀ x y v b,f x y=some b->ycH K W x v->ycH K W y v->b=true\/Odd K.K W.H) {x y:PV}{v:V}{b:Bool}(e:pairE f W.h x y=some b) (rx:ycH K W x v) (ry:ycH K W y v):b=true\/Odd K.K W.H:=by
 unfold pairE at e
 split at e
 .rename_i xs ys
  obtain ⟨a,vs,ev,ha,ra⟩:=rx
  obtain ⟨a',vs',ev',ha',ra'⟩:=ry
  rw [ev] at ev'
  cases ev'
  rcases yAG w.le ha ha' with z|z
  .subst z
   cases ec:yhr f xs ys with
   | none=>rw [ec] at e;cases e
   | some c =>
    rw [ec] at e
    cases e
    rcases yhX hf ra ra' ec with z|z
    .left
     rw [z,<- ra.len,<- ra'.len]
     simp
    .exact .inr z
  .exact .inr z
 .obtain ⟨a',vs',ev',ha',ra'⟩:=ry
  have rx:v=.non:=rx
  rw [rx] at ev';cases ev'
 .obtain ⟨a',vs',ev',ha',ra'⟩:=rx
  have ry:v=.non:=ry
  rw [ry] at ev';cases ev'
 .split at e
  .rename_i xs ys hx hy
   obtain ⟨a,vs,ev,ha,ra⟩:=yY w hx rx
   obtain ⟨a',vs',ev',ha',ra'⟩:=yY w hy ry
   rw [ev] at ev'
   cases ev'
   rw [ha] at ha'
   cases ha'
   rw [if_pos (by rw [<- ra.len,<- ra'.len])] at e
   exact yhX hf ra ra' e
  .cases e
theorem ykp {W:Wd}(w:WOk K W):∀ (n:Nat) (x y:PV) (v:V) (b:Bool),eqP n W.h x y=some b->ycH K W x v->ycH K W y v->b=true\/Odd K.K W.H
 | 0,_,_,_,_,e,_,_=>by cases e
 | n+1,x,y,v,b,e,rx,ry=>by
  unfold eqP at e
  split at e
  .rename_i u u' hu hu'
   cases e
   rw [<- yfE hu rx,<- yfE hu' ry]
   exact .inl (yko (by rw [yfE hu rx];exact ykm hu))
  .exact ypB w (ykp w n) e rx ry
theorem yhY {f:PV->PV->Option Bool}{W:Wd}{n:Nat}(hf:∀ x y v u b,f x y=some b->ycH K W x v->ycH K W y u->EqR K.K W.H n v u b):∀ {xs ys:List PV}{vs us:List V}{c:Bool},ycI K W xs vs->ycI K W ys us->yhr f xs ys=some c ->
  ∃ e:Nat->Bool,(∀ j v u,vs[j]?=some v->us[j]?=some u->EqR K.K W.H n v u (e j))/\c=(List.range (min vs.length us.length)).all e
 | [],_,_,_,c,h1,_,e=>by
  rw [show _=[] from h1]
  simp [yhr] at e
  exact ⟨fun _=>true,fun j v u hv=>by simp at hv,by simp [e]⟩
 | _::_,[],_,_,c,_,h2,e=>by
  rw [show _=[] from h2]
  simp [yhr] at e
  exact ⟨fun _=>true,fun j v u _ hu=>by simp at hu,by simp [e]⟩
 | x::xs,y::ys,_,_,c,⟨v,r,e1,h1,l1⟩,⟨u,q,e2,h2,l2⟩,e=>by
  subst e1 e2
  unfold yhr at e
  cases eb:f x y with
  | none=>rw [eb] at e;cases e
  | some b =>
   cases ec:yhr f xs ys with
   | none=>rw [eb,ec] at e;cases e
   | some c' =>
    rw [eb,ec] at e
    cases e
    obtain ⟨e',k1,k2⟩:=yhY hf l1 l2 ec
    refine ⟨fun j=>match j with|0=>b|j+1=>e' j,fun j v' u' hv hu=>?_,?_⟩
    .cases j with
     | zero =>
      simp at hv hu
      subst hv hu
      exact hf x y _ _ b eb h1 h2
     | succ j=>exact k1 j v' u' (by simpa using hv) (by simpa using hu)
    .rw [k2,length_cons,length_cons,show min (r.length+1) (q.length+1)=min r.length q.length+1 by omega,List.range_succ_eq_map,List.all_cons,List.all_map]
     rfl
theorem yox {W:Wd}(w:WOk K W):∀ (n:Nat) (x y:PV) (v u:V) (b:Bool),eqP n W.h x y=some b->ycH K W x v->ycH K W y u->EqR K.K W.H n v u b
 | 0,_,_,_,_,_,e,_,_=>by cases e
 | n+1,x,y,v,u,b,e,rx,ry=>by
  have e0:=e
  unfold eqP at e
  split at e
  .rename_i v' u' hv hu
   cases e
   rw [yfE hv rx,yfE hu ry]
   exact .flat (ykm hv) (ykm hu)
  .unfold pairE at e
   split at e
   .rename_i xs ys _
    obtain ⟨a,vs,ev,ha,ra⟩:=rx
    obtain ⟨a',us,eu,ha',ra'⟩:=ry
    by_cases hab:a=a'
    .subst hab
     rcases ykp w (n+1) _ _ v b e0 ⟨a,vs,ev,ha,ra⟩ (by rw [ev,<- eu];exact ⟨a,us,eu,ha',ra'⟩) with this|z
     .rw [this,ev,eu]
      exact .same
     .exact .odd z
    .cases ec:yhr (eqP n W.h) xs ys with
     | none=>rw [ec] at e;cases e
     | some c =>
      rw [ec] at e
      cases e
      obtain ⟨e',k1,k2⟩:=yhY (yox w n) ra ra' ec
      rw [ev,eu,k2,<- ra.len,<- ra'.len]
      exact .tup (ydo w ha) (ydo w ha') hab k1
   .obtain ⟨a',us,eu,ha',ra'⟩:=ry
    cases e
    rw [show v=.non from rx,eu]
    exact .nt (ydo w ha')
   .obtain ⟨a',us,eu,ha',ra'⟩:=rx
    cases e
    rw [show u=.non from ry,eu]
    exact .tn (ydo w ha')
   .split at e
    .rename_i xs ys hx hy
     obtain ⟨a,vs,ev,ha,ra⟩:=yY w hx rx
     obtain ⟨a',us,eu,ha',ra'⟩:=yY w hy ry
     by_cases hab:a=a'
     .subst hab
      rcases ykp w (n+1) _ _ v b e0 rx (by rw [ev,<- eu];exact ry) with this|z
      .rw [this,ev,eu]
       exact .same
      .exact .odd z
     .split at e
      .rename_i hl
       obtain ⟨e',k1,k2⟩:=yhY (yox w n) ra ra' e
       have hl':vs.length=us.length:=by rw [ra.len,ra'.len,hl]
       rw [ev,eu,k2,<- hl',Nat.min_self]
       exact .lst ha ha' hl' hab k1
      .rename_i hl
       cases e
       rw [ev,eu]
       exact .lstN ha ha' (by rw [ra.len,ra'.len];exact hl)
    .cases e
def ypC:P2:=fun x y h=>match pairE (eqP 40 h) h x y with|some b=>some (.bl b,h)|none=>none
def yxF:P2:=fun x y h=>match pairE (eqP 40 h) h x y with|some b=>some (.bl (!b),h)|none=>none
theorem yoy {W:Wd}(w:WOk K W) {x y:PV}{v u:V}{b:Bool}(e:pairE (eqP 40 W.h) W.h x y=some b) (rx:ycH K W x v) (ry:ycH K W y u):RcR K.K W.H v u b:=by
 unfold pairE at e
 split at e
 .rename_i xs ys
  obtain ⟨a,vs,ev,ha,ra⟩:=rx
  obtain ⟨a',us,eu,ha',ra'⟩:=ry
  cases ec:yhr (eqP 40 W.h) xs ys with
  | none=>rw [ec] at e;cases e
  | some c =>
   rw [ec] at e
   cases e
   obtain ⟨e',k1,k2⟩:=yhY (yox w 40) ra ra' ec
   rw [ev,eu,k2,<- ra.len,<- ra'.len]
   exact .tup (ydo w ha) (ydo w ha') k1
 .obtain ⟨a',us,eu,ha',ra'⟩:=ry
  cases e
  rw [show v=.non from rx,eu]
  exact .nt (ydo w ha')
 .obtain ⟨a',us,eu,ha',ra'⟩:=rx
  cases e
  rw [show u=.non from ry,eu]
  exact .tn (ydo w ha')
 .split at e
  .rename_i xs ys hx hy
   obtain ⟨a,vs,ev,ha,ra⟩:=yY w hx rx
   obtain ⟨a',us,eu,ha',ra'⟩:=yY w hy ry
   split at e
   .rename_i hl
    obtain ⟨e',k1,k2⟩:=yhY (yox w 40) ra ra' e
    have hl':vs.length=us.length:=by rw [ra.len,ra'.len,hl]
    rw [ev,eu,k2,<- hl',Nat.min_self]
    exact .lst ha ha' hl' k1
   .rename_i hl
    cases e
    rw [ev,eu]
    exact .lstN ha ha' (by rw [ra.len,ra'.len];exact hl)
  .cases e
theorem yum:ybZ K (yFv K.K) ypC:=by
 intro W x y v u Q z h' w rx ry e q
 unfold ypC at e
 split at e
 .rename_i b hb
  cases e
  exact ⟨b,yoy w hb rx ry,q _ W rfl (.refl w) rfl⟩
 .cases e
theorem yxG:ybZ K (yFw K.K) yxF:=by
 intro W x y v u Q z h' w rx ry e q
 unfold yxF at e
 split at e
 .rename_i b hb
  cases e
  exact ⟨b,yoy w hb rx ry,q _ W rfl (.refl w) rfl⟩
 .cases e
end PX
namespace PX
open PySem L2
variable {K:Ck}
def ydp:XS:=fun _ _=>none
theorem yun:yfB K yvs ydp:=fun _ _ _ _ _ _ _ _ e _=>by cases e
def yh (k:Nat) (m:Str) (f:Fn) (e:XE) (as:XA):XE:=fun ρ h=>ob (e ρ h) fun x h1=>match yeQ x h1 with
 | some (k',ns,_)=>if k'=k/\m∉ns then ob (as ρ h1) fun ys h2=>f (x::ys) h2 else none
 | none=>none
theorem ylO {k n:Nat}{m:Str}{f:Fn}{ex:XK}{ta:TE}{t:TA}{ea:XE}{as:XA}(a:ybN K ta ea) (b:ymq K t as) (hn:∀ ρ h xs h',as ρ h=some (xs,h')->xs.length=n) :
  ybN K (ywE (K.A k) m (spE K (n+1) f) [] ex ta t) (yh k m f ea as):=by
 intro W0 W ρ σ Q z h' g e q
 obtain ⟨x,h1,e1,f1⟩:=yg e
 refine a W0 W ρ σ _ x h1 g e1 fun v W1 w1 l1 r1=>?_
 subst w1
 split at f1
 .rename_i k' ns xs hi
  split at f1
  .rename_i hc
   obtain ⟨ys,h2,e2,f2⟩:=yg f1
   obtain ⟨p,dx,vs,ev,hp,hl,rs⟩:=ygk l1.ok hi r1
   rw [hc.1] at hp
   refine ⟨p,dx,_,ev,hp,ydE hc.2,?_⟩
   refine b W0 W1 ρ σ _ ys h2 (g.step l1) e2 fun us W2 w2 l2 r2=>?_
   subst w2
   rw [append_nil]
   exact ⟨W2,x::ys,z,h',rfl,l2.ok,⟨v,us,rfl,l2.rep r1,r2⟩,by rw [length_cons,hn _ _ _ _ e2],f2,fun u W3 w3 l3 r3=>q u W3 w3 ((l1.trans l2).trans l3) r3⟩
  .cases f1
 .cases f1
def ycT (cs:List Nat) (f:Str) (eo ev:XE):XS:=fun ρ h=>ob (ev ρ h) fun y h1=>ob (eo ρ h1) fun x h2=>match x with
 | .loc n=>(match h2[n]? with|some (.ins k ns xs)=>if k∈cs/\ns.length<1000 then some (.nx ρ,h2.set n (.ins k (putN f y ns xs).1 (putN f y ns xs).2)) else none|_=>none)
 | _=>none
theorem yuo {cs:List Nat}{f:Str}{ta tv:TE}{ea ev:XE}(hc:∀ k∈cs,Cls K.K (K.A k)/\NoAttr K.K (K.A k) f) (a:ybN K ta ea) (c:ybN K tv ev):yfB K (yCE K.K ta tv f) (ycT cs f ea ev):=by
 intro W0 W ρ σ D o h' g e q
 obtain ⟨y,h1,e1,f1⟩:=yg e
 obtain ⟨x,h2,e2,f2⟩:=yg f1
 refine c W0 W ρ σ _ y h1 g e1 fun vy W1 w1 l1 r1=>?_
 subst w1
 refine a W0 W1 ρ σ _ x h2 (g.step l1) e2 fun vx W2 w2 l2 r2=>?_
 subst w2
 have w:=l2.ok
 split at f2
 .rename_i n
  split at f2
  .rename_i k ns xs hn
   split at f2
   .rename_i hk
    cases f2
    obtain ⟨p,ep,hm,hf,dx,us,hp,hl,rs⟩:=w.loc hn r2
    obtain ⟨us',p1,p2,p3⟩:=rs.putN (f:=f) hl (l2.rep r1)
    refine ⟨p,_,dx,_,ep,hp,(hc k hk.1).1,(hc k hk.1).2,by rw [length_zip,hl];simpa using hk.2,?_⟩
    rw [p1]
    have l4:Le K W2 (ynh W2 n p (.ins (K.A k) dx ((putN f y ns xs).1.zip us')) (.ins k (putN f y ns xs).1 (putN f y ns xs).2)):=yfP w hn hm hf ⟨hf,dx,us',yx,p2,p3⟩
    have l:=l1.trans (l2.trans l4)
    exact q _ σ rfl l.lf (g.step l)
   .cases f2
  .cases f2
 .cases f2
end PX
namespace PX
open PySem L2
variable {K:Ck}
def ynk (r d:Addr):HO:=.ext fun h=>h.get? r=some { cls:=.type "dict_items",data:=.fields #[.ref d] }
noncomputable def yvW:V->List V->Hp->VK->Prop:=fun x vs H Q=>∃ d kvs,x=.ref d/\vs=[]/\H d=some (.dK kvs)/\∀ r,H r=none->Q (.ref r) (upd H r (ynk r d))
noncomputable def yoz (H:Hp) (as:List Addr) (ts:List (List V)):Hp:=fun b=>match (as.zip ts).lookup b with|some t=>some (.tup t)|none=>H b
def yCr (H:Hp) (p:Addr) (as:List Addr) (ts:List (List V)):Hp:=upd (yoz H as ts) p (.lst (as.map V.ref))
def rSI:List V->Hp->VK->Prop:=fun xs H Q=>∃ (r d:Addr) (kvs:List (Key×V)) (ns:List Int),xs=[.ref r]/\H r=some (ynk r d)/\H d=some (.dK kvs)/\kvs.map (·.1)=ns.map .inl/\kvs.length<3 /\
 ∀ (p:Addr) (as:List Addr) (q:List Nat),q.Perm (List.range ns.length)->q.Pairwise (fun i j=>ns.getD i 0<=ns.getD j 0)->ns.Nodup->as.length=q.length->(∀ a∈p::as,H a=none)->(p::as).Nodup ->
  Q (.ref p) (yCr H p as (q.map fun i=>[V.int (ns.getD i 0),(kvs.map (·.2)).getD i .non]))
def yzc (p:Int×PV):List (Int×PV)->List (Int×PV)
 | []=>[p]
 | q::r=>if p.1<=q.1 then p::q::r else q::yzc p r
def ynl:List (Int×PV)->List (Int×PV)
 | []=>[]
 | p::r=>yzc p (ynl r)
def yro:List Key->Option (List Int)
 | []=>some []
 | .inl i::r=>(yro r).map (i::·)
 | .inr _::_=>none
theorem yoA:∀ {ks:List Key}{ns:List Int},yro ks=some ns->ks=ns.map .inl
 | [],ns,h=>by cases h;rfl
 | .inl i::r,ns,h=>by
  obtain ⟨m,e,rfl⟩:=Option.map_eq_some_iff.mp h
  rw [map_cons,<- yoA e]
 | .inr _::_,_,h=>by cases h
theorem yhZ (p:Int×PV):∀ l,(yzc p l).Perm (p::l)
 | []=>.refl _
 | q::r=>by
  unfold yzc
  split
  .exact .refl _
  .exact ((yhZ p r).cons q).trans (.swap _ _ _)
theorem yfp:∀ l,(ynl l).Perm l
 | []=>.refl _
 | p::r=>(yhZ p _).trans ((yfp r).cons p)
theorem yrp {p:Int×PV}:∀ {l:List (Int×PV)},l.Pairwise (fun a b=>a.1<=b.1)->(yzc p l).Pairwise (fun a b=>a.1<=b.1)
 | [],_=>List.pairwise_singleton _ _
 | q::r,h=>by
  obtain ⟨h1,h2⟩:=List.pairwise_cons.mp h
  unfold yzc
  split
  .rename_i hc
   exact List.pairwise_cons.mpr ⟨fun b hb=>by
    rcases mem_cons.mp hb with rfl|hb
    .exact hc
    .exact Int.le_trans hc (h1 b hb),h⟩
  .rename_i hc
   refine List.pairwise_cons.mpr ⟨fun b hb=>?_,yrp h2⟩
   rcases mem_cons.mp ((yhZ p r).mem_iff.mp hb) with rfl|hb
   .omega
   .exact h1 b hb
theorem ykq:∀ l,(ynl l).Pairwise (fun a b=>a.1<=b.1)
 | []=>.nil
 | _::r=>yrp (ykq r)
theorem yup {ns:List Int}{xs:List PV}{q:List Nat}(hl:xs.length=ns.length) (hp:q.Perm (List.range ns.length)) (hs:q.Pairwise fun i j=>ns.getD i 0<=ns.getD j 0) (nd:ns.Nodup) :
  (q.map fun i=>(ns.getD i 0,xs.getD i .non))=ynl (ns.zip xs):=by
 have hz:((List.range ns.length).map fun i=>(ns.getD i 0,xs.getD i .non))=ns.zip xs:=by
  apply List.ext_getElem
  .simp [hl]
  .intro i h1 h2
   have h3:i<ns.length:=by simpa using h1
   simp [getD,List.getElem?_eq_getElem h3,List.getElem?_eq_getElem (show i<xs.length by omega)]
 have hm:(q.map fun i=>(ns.getD i 0,xs.getD i .non)).Perm (ns.zip xs):=by rw [<- hz];exact hp.map _
 have hk:(ns.zip xs).map (·.1)=ns:=List.map_fst_zip (by omega)
 refine List.Perm.eq_of_pairwise (le:=fun a b=>a.1<=b.1) (fun a b ha hb h1 h2=>?_) (List.pairwise_map.mpr hs) (ykq _) (hm.trans (yfp _).symm)
 have ha:=hm.mem_iff.mp ha
 have hb:=(yfp _).mem_iff.mp hb
 obtain ⟨i,hi,rfl⟩:=getElem_of_mem ha
 obtain ⟨j,hj,rfl⟩:=getElem_of_mem hb
 have hi':i<ns.length:=by rw [length_zip] at hi;omega
 have hj':j<ns.length:=by rw [length_zip] at hj;omega
 have e:ns[i]=ns[j]:=by
  have:((ns.zip xs)[i]).1=((ns.zip xs)[j]).1:=Int.le_antisymm h1 h2
  simpa using this
 have:=yjt nd hi' hj' e
 subst this
 rfl
def yFx (W:Wd) (as:List Addr) (ts:List (List V)):Wd:=⟨yoz W.F as ts,yoz W.H as ts,W.m,W.h⟩
theorem lookup_mem {α:Type}:∀ {as:List Addr}{ts:List α}{b:Addr}{t:α},(as.zip ts).lookup b=some t->b∈as
 | [],_,_,_,h=>by simp at h
 | _::_,[],_,_,h=>by simp at h
 | a::as,u::ts,b,t,h=>by
  rw [zip_cons_cons,lookup_cons] at h
  split at h
  .rename_i hb;rw [eq_of_beq hb];exact mem_cons_self
  .exact mem_cons_of_mem _ (lookup_mem h)
theorem ygT {H:Hp}{as:List Addr}{ts:List (List V)}{b:Addr}(h:b∉as):yoz H as ts b=H b:=by
 unfold yoz
 split
 .rename_i e;exact absurd (lookup_mem e) h
 .rfl
theorem yxH {W:Wd}{as:List Addr}{ts:List (List V)}(w:WOk K W) (h:∀ a∈as,W.H a=none):Le K W (yFx W as ts):=by
 have nm:∀ a∈as,a∉W.m:=fun a ha=>w.out (h a ha)
 have sF:Same W.F (yoz W.F as ts):=fun b o e=>by
  rw [ygT fun z=>by rw [w.ff (h b z)] at e;cases e];exact e
 have sH:Same W.H (yoz W.H as ts):=fun b o e=>by
  rw [ygT fun z=>by rw [h b z] at e;cases e];exact e
 refine ⟨⟨?_,w.len,w.nd,fun n d a e1 e2=>?_⟩,sF,prefix_refl _,fun b u e _=>sH b u e,fun b u e _ f=>?_,fun b z n=>absurd z n,fun n ks xs e1=>⟨e1,fun a e2=>ygT fun z=>nm a z (mem_of_getElem? e2)⟩⟩
 .intro b u e
  have e:yoz W.F as ts b=some u:=e
  show yoz W.H as ts b=some u
  unfold yoz at e ⊢
  split at e
  .exact e
  .exact w.le _ _ e
 .have ha:a∉as:=fun z=>nm a z (mem_of_getElem? e2)
  exact (w.at_ n d a e1 e2).mono sF (prefix_refl _) (fun u e=>sH _ _ e) fun f=>(ygT ha).trans f
 .exact (ygT fun z=>by rw [h b z] at e;cases e).trans f
theorem ylP {F:Hp}{m:List Addr}{Y:Nat->PV}{T:Nat->List V}{Z:Nat->List PV}(hY:∀ i,Y i=.tup (Z i)):∀ (as:List Addr) (q:List Nat),as.length=q.length->as.Nodup->(∀ a∈as,∀ i,i∈q->(as.zip (q.map T)).lookup a=some (T i)->F a=some (.tup (T i))) ->
  (∀ i∈q,RepL K F m (Z i) (T i))->RepL K F m (q.map Y) (as.map V.ref)
 | [],[],_,_,_,_=>rfl
 | [],_::_,h,_,_,_=>by cases h
 | _::_,[],h,_,_,_=>by cases h
 | a::as,i::q,hl,hn,hF,hR=>by
  obtain ⟨n1,n2⟩:=List.nodup_cons.mp hn
  refine ⟨.ref a,_,rfl,?_,ylP hY as q (by simpa using hl) n2 (fun b hb j hj e=>?_) fun j hj=>hR j (mem_cons_of_mem _ hj)⟩
  .rw [hY]
   exact ⟨a,T i,rfl,.inl (hF a mem_cons_self i mem_cons_self (by simp)),hR i mem_cons_self⟩
  .refine hF b (mem_cons_of_mem _ hb) j (mem_cons_of_mem _ hj) ?_
   rw [map_cons,zip_cons_cons,lookup_cons]
   have:(b == a)=false:=beq_eq_false_iff_ne.mpr fun z=>n1 (z ▸ hb)
   rw [this]
   exact e
noncomputable def sortI (ks:List Key) (xs:List PV):Option (List PV):=match yro ks with|some ns=>if ns.length<3 then some ((ynl (ns.zip xs)).map fun p=>.tup [.int p.1,p.2]) else none|none=>none
def yju (e:XE):XO:=fun ρ h=>ob (e ρ h) fun x h1=>match ylM x h1 with|some (ks,xs)=>(match sortI ks xs with|some l=>some (.lst l,h1)|none=>none)|none=>none
theorem yvX {W:Wd}{x:PV}{v:V}{ks:List Key}{xs:List PV}(w:WOk K W) (e:ylM x W.h=some (ks,xs)) (r:ycH K W x v):tyV K.K "dict" v W.H:=by
 obtain ⟨a,vs,rfl,hp,_⟩:=ylN w e r
 exact .inr (.inr (.inl ⟨rfl,.inl ⟨_,hp⟩⟩))
theorem yrq {ta:TE}{ea:XE}(a:ybN K ta ea):ylF K (tCB rSI (ymC (yCH K.K "dict" yvW ta) ytl)) (yju ea):=by
 intro W0 W ρ σ Q z h' g e q
 obtain ⟨x,h1,e1,f1⟩:=yg e
 refine a W0 W ρ σ _ x h1 g e1 fun v W1 w1 l1 r1=>?_
 subst w1
 split at f1
 .rename_i ks xs hd
  split at f1
  .rename_i l hl
   cases f1
   refine ⟨yvX l1.ok hd r1,?_⟩
   obtain ⟨d,vs,ev,hp,hvl,rs⟩:=ylN l1.ok hd r1
   subst ev
   refine ⟨d,_,rfl,rfl,hp,fun r hr=>?_⟩
   unfold sortI at hl
   split at hl
   .rename_i ns hk
    split at hl
    .rename_i h64
     cases hl
     have hk:=yoA hk
     have l2:=ycC (o:=ynk r d) l1.ok hr
     have hnl:ks.length=ns.length:=by rw [hk,length_map]
     have hxl:xs.length=ns.length:=by rw [<- rs.len];omega
     show rSI [.ref r] (upd W1.H r (ynk r d)) Q
     refine ⟨r,d,ks.zip vs,ns,rfl,yx,(yF (ybr hp hr)).trans hp,by rw [List.map_fst_zip (by omega),hk],by rw [length_zip];omega,fun p as o hperm hs nd hal hfree hnd=>?_⟩
     rw [List.map_snd_zip (by omega)]
     generalize hW2:ygM W1 r (ynk r d)=W2 at l2
     have hH2:W2.H=upd W1.H r (ynk r d):=by rw [<- hW2];rfl
     rw [<- hH2] at hfree ⊢
     have l3:=yxH (ts:=o.map fun i=>[V.int (ns.getD i 0),vs.getD i .non]) l2.ok fun a ha=>hfree a (mem_cons_of_mem _ ha)
     obtain ⟨n1,n2⟩:=List.nodup_cons.mp hnd
     have hp3:(yFx W2 as (o.map fun i=>[V.int (ns.getD i 0),vs.getD i .non])).H p=none:=(ygT n1).trans (hfree p mem_cons_self)
     have l4:=ycC (o:=.lst (as.map V.ref)) l3.ok hp3
     have l:=l2.trans (l3.trans l4)
     have inq:∀ i∈o,i<ns.length:=fun i hi=>by have:=hperm.mem_iff.mp hi;simpa using this
     refine q p _ (by rw [<- hW2];rfl) (l1.trans l) (l3.ok.out hp3) ((l1.trans l2).fresh (hfree p mem_cons_self)) (fun z=>by cases z) ⟨l3.ok.ff hp3,_,yx,?_⟩
     rw [<- yup hxl hperm hs nd,map_map]
     refine ylP (T:=fun i=>[V.int (ns.getD i 0),vs.getD i .non]) (Z:=fun i=>[.int (ns.getD i 0),xs.getD i .non]) (fun i=>rfl) as o hal n2 (fun a ha i hi e=>?_) fun i hi=>⟨_,_,rfl,rfl,_,_,rfl,?_,rfl⟩
     .show yoz W2.F as _ a=_
      unfold yoz
      rw [e]
     .have hi':=inq i hi
      obtain ⟨u,h3,h4⟩:=(l2.trans (l3.trans l4)).repL rs |>.get (List.getElem?_eq_getElem (show i<xs.length by omega))
      have e5:xs.getD i .non=xs[i]'(by omega):=by simp [getD,List.getElem?_eq_getElem (show i<xs.length by omega)]
      have e6:vs.getD i .non=u:=by simp [getD,h3]
      rw [e5,e6]
      exact h4
    .cases hl
   .cases hl
  .cases f1
 .cases f1
end PX
namespace PX
open PySem L2
variable {K:Ck}
def ItR (K:PySem.W.Frag) (a:Addr) (m:Nat):It :=
 ⟨fun i H=>i<m/\∃ xs x,SqL K H a xs/\xs[m-1-i]?=some x,fun i H x H'=>H'=H/\∀ xs,SqL K H a xs->xs[m-1-i]?=some x,fun i _=>i=m⟩
def yFy (K:PySem.W.Frag) (tl:TE):TI:=fun σ H R=>tl σ H fun x H1=>∃ a xs,x=.ref a/\SqL K H1 a xs/\R (ItR K a xs.length) H1
def ymu (n:Nat) (rev:Bool) (g:XG) (s:XS):Nat->Nat->PSt->AH->Option (Out×AH)
 | 0,i,ρ,h=>match h[n]? with|some (.lst xs)=>if xs.length=i then some (.nx ρ,h) else none|_=>none
 | k+1,i,ρ,h=>match h[n]? with
  | some (.lst xs)=>(match xs[if rev then k else i]? with
   | some x=>(g x ρ).bind fun ρ1=>ob (s ρ1 h) fun o h1=>match o with|.nx ρ'=>ymu n rev g s k (i+1) ρ' h1|.ct ρ'=>ymu n rev g s k (i+1) ρ' h1|.bk ρ'=>some (.nx ρ',h1)|.rt y=>some (.rt y,h1)
   | none=>none)
  | _=>none
def ykr (rev:Bool) (e:XE) (g:XG) (s:XS):XS:=fun ρ h=>ob (e ρ h) fun x h1=>match x with
 | .loc n=>(match h1[n]? with|some (.lst xs)=>ymu n rev g s xs.length 0 ρ h1|_=>none)
 | _=>none
structure ItX (K:Ck) (n:Nat) (rev:Bool) (m:Nat) (a:Addr) (J:It):Prop where
 go:∀ (i:Nat) (H:Hp) (vs:List V) (v:V),H a=some (.lst vs)->i<m->vs[if rev then m-1-i else i]?=some v->J.go i H
 yld:∀ (i:Nat) (H:Hp) (vs:List V) (v:V) (H2:Hp),H a=some (.lst vs)->i<m->J.yld i H v H2->H2=H/\vs[if rev then m-1-i else i]?=some v
 stop:∀ (H:Hp) (vs:List V),H a=some (.lst vs)->vs.length=m->J.stop m H
section
variable {ta:TE}{ea:XE}{t:TS}{s:XS}
theorem ylQ {n:Nat}{xs:List PV}{p:Addr}{us:List V}{J:It}{rev:Bool}{g:TG}{y:XG}(b:yvJ K g y) (c:yfB K t s) {W0 W W1:Wd}{ρ:PSt}{σ:St}{D:Ends}{o:Out}{h':AH}(gd:Good K W0 W ρ σ) (l1:Le K W W1) (q:Ends.Ok K W0 W D h' o)
  (f1:ymu n rev y s xs.length 0 ρ W1.h=some (o,h')) (hn:W1.h[n]?=some (.lst xs)) (hm:W1.m[n]?=some p) (rs:ycI K W1 xs us) (J1:ItX K n rev us.length p J) :
  ∃ Z:Nat->Nat->St->Hp->Prop,(∃ m,Z 0 m σ W1.H)/\∀ i m σ H,Z i m σ H ->
   (J.stop i H/\D.nx σ H)\/(J.go i H/\∃ N:St->Hp->Prop,(∀ σ' H',N σ' H'->∃ m',m'<m/\Z (i+1) m' σ' H')/\∀ x H',J.yld i H x H'->g x σ H' fun σ2 H2=>t { D with nx:=N,ct:=N,bk:=D.nx } σ2 H2):=by
   have q1:=q.from_ l1.lf
   have hul:us.length=xs.length:=rs.len
   rw [hul] at J1
   refine ⟨fun i m σ H=>m=xs.length-i/\i<=xs.length/\∃ W' ρ',W'.H=H/\Lf K W1 W'/\Good K W0 W' ρ' σ/\ymu n rev y s (xs.length-i) i ρ' W'.h=some (o,h'),⟨_,rfl,zero_le _,W1,ρ,rfl,.refl,gd.step l1,f1⟩,?_⟩
   rintro i m σ _ ⟨rfl,hi,W',ρ',rfl,l,g',f⟩
   have hm':W'.m[n]?=some p:=yew l.pre hm
   by_cases hlt:i<xs.length
   .obtain ⟨k,hk⟩:∃ k,xs.length-i=k+1:=⟨xs.length-i-1,by omega⟩
    rw [hk] at f
    unfold ymu at f
    split at f
    .rename_i ys hy
     split at f
     .rename_i z hz
      obtain ⟨p',ev',hm2,hf',vs,hp',rs'⟩:=g'.ok.loc hy (v:=.ref p) ⟨p,rfl,hm'⟩
      cases ev'
      have hix:(if rev=true then xs.length-1-i else i)=(if rev=true then k else i):=by rw [show xs.length-1-i=k by omega]
      obtain ⟨vz,hv1,hv2⟩:=rs'.get hz
      obtain ⟨ρ1,k1,f⟩:=Option.bind_eq_some_iff.mp f
      obtain ⟨o1,h2,k2,f3⟩:=yg f
      refine .inr ⟨J1.go i W'.H vs vz hp' hlt (by rw [hix];exact hv1),fun σ2 H2=>i+1<=xs.length/\∃ W2 ρ2,W2.H=H2/\Lf K W1 W2/\Good K W0 W2 ρ2 σ2/\ymu n rev y s (xs.length-(i+1)) (i+1) ρ2 W2.h=some (o,h'),fun σ2 H2 ⟨n1,n2⟩=>⟨xs.length-(i+1),by omega,rfl,n1,n2⟩,fun v H2 hy=>?_⟩
      obtain ⟨rfl,hx⟩:=J1.yld i W'.H vs v H2 hp' hlt hy
      rw [hix,hv1] at hx
      cases hx
      have ek:xs.length-(i+1)=k:=by omega
      refine b W0 W' ρ' ρ1 σ _ vz _ g' hv2 k1 fun σ2 g2=>?_
      refine c W0 W' ρ1 σ2 _ o1 h2 g2 k2 ?_
      cases o1 with
      | nx ρ2=>exact fun W2 σ3 w2 l2 g3=>⟨hlt,W2,ρ2,rfl,l.trans l2,g3,by rw [w2,ek];exact f3⟩
      | ct ρ2=>exact fun W2 σ3 w2 l2 g3=>⟨hlt,W2,ρ2,rfl,l.trans l2,g3,by rw [w2,ek];exact f3⟩
      | bk ρ2=>cases f3;exact fun W2 σ3 w2 l2 g3=>q1 W2 σ3 w2 (l.trans l2) g3
      | rt x=>cases f3;exact q1
     .cases f
    .cases f
   .have ei:i=xs.length:=by omega
    subst ei
    rw [sub_self] at f
    unfold ymu at f
    split at f
    .rename_i ys hy
     obtain ⟨p',ev',hm2,hf',vs,hp',rs'⟩:=g'.ok.loc hy (v:=.ref p) ⟨p,rfl,hm'⟩
     cases ev'
     split at f
     .rename_i hyl
      cases f
      exact .inl ⟨J1.stop W'.H vs hp' (by rw [rs'.len,hyl]),q1 W' σ rfl l g'⟩
     .cases f
    .cases f
theorem yDR {n m:Nat}{a:Addr}:ItX K n false m a (Itl K.K a) where
 go:=fun i H vs v h _ e=>⟨vs,v,SqL.of h,e⟩
 yld:=fun i H vs v H2 h _ e=>⟨e.1,e.2 vs (SqL.of h)⟩
 stop:=fun H vs h e=>⟨vs,SqL.of h,le_of_eq e⟩
theorem yDS {n m:Nat}{a:Addr}:ItX K n true m a (ItR K.K a m) where
 go:=fun i H vs v h hi e=>⟨hi,vs,v,SqL.of h,e⟩
 yld:=fun i H vs v H2 h _ e=>⟨e.1,e.2 vs (SqL.of h)⟩
 stop:=fun H vs h e=>rfl
theorem yuq {g:TG}{y:XG}(a:ybN K ta ea) (b:yvJ K g y) (c:yfB K t s):yfB K (yCm (yte K.K ta) g t) (ykr false ea y s):=by
 intro W0 W ρ σ D o h' gd e q
 obtain ⟨x,h1,e1,f1⟩:=yg e
 refine a W0 W ρ σ _ x h1 gd e1 fun v W1 w1 l1 r1=>?_
 subst w1
 split at f1
 .rename_i n
  split at f1
  .rename_i xs hn
   obtain ⟨p,ev,hm,hf,us,hp,rs⟩:=l1.ok.loc hn r1
   exact ⟨p,ev,⟨us,SqL.of hp⟩,ylQ b c gd l1 q f1 hn hm rs yDR⟩
  .cases f1
 .cases f1
theorem yur {g:TG}{y:XG}(a:ybN K ta ea) (b:yvJ K g y) (c:yfB K t s):yfB K (yCm (yFy K.K ta) g t) (ykr true ea y s):=by
 intro W0 W ρ σ D o h' gd e q
 obtain ⟨x,h1,e1,f1⟩:=yg e
 refine a W0 W ρ σ _ x h1 gd e1 fun v W1 w1 l1 r1=>?_
 subst w1
 split at f1
 .rename_i n
  split at f1
  .rename_i xs hn
   obtain ⟨p,ev,hm,hf,us,hp,rs⟩:=l1.ok.loc hn r1
   exact ⟨p,us,ev,SqL.of hp,ylQ b c gd l1 q f1 hn hm rs yDS⟩
  .cases f1
 .cases f1
end
end PX
namespace PX
open PySem L2
variable {K:Ck}
def yDT (kvs more:List (Key×V)):List (Key×V):=more.foldl (fun acc kv=>putK acc kv.1 kv.2) kvs
def yFz:V->List V->Hp->VK->Prop:=fun x vs H Q=>∃ d o kvs more,x=.ref d/\vs=[.ref o]/\d≠o/\H d=some (.dK kvs)/\H o=some (.dK more)/\kvs.length+more.length<=sizeLine/\Q .non (upd H d (.dK (yDT kvs more)))
def yks:List Key->List PV->List Key->List PV->List Key×List PV
 | j::js,y::ys,ks,xs=>yks js ys (ycS ks xs j y).1 (ycS ks xs j y).2
 | _,_,ks,xs=>(ks,xs)
def ypD:PV->AH->Bool:=fun x h=>(ylM x h).isSome
theorem yus {W:Wd}{x:PV}{v:V}(w:WOk K W) (r:ycH K W x v) (c:ypD x W.h=true):tyV K.K "dict" v W.H:=by
 obtain ⟨⟨ks,xs⟩,hd⟩:=Option.isSome_iff_exists.mp c
 exact yvX w hd r
theorem yrr {F:Hp}{m:List Addr}:∀ {js:List Key}{ys:List PV}{us:List V}{ks:List Key}{xs:List PV}{vs:List V},RepL K F m ys us->us.length=js.length->RepL K F m xs vs->vs.length=ks.length ->
  ∃ ws,yDT (ks.zip vs) (js.zip us)=(yks js ys ks xs).1.zip ws/\ws.length=(yks js ys ks xs).1.length/\RepL K F m (yks js ys ks xs).2 ws
 | [],ys,us,ks,xs,vs,r,hl,r2,hl2=>by
  obtain rfl:us=[]:=List.length_eq_zero_iff.mp (by simpa using hl)
  cases ys with
  | cons y ys=>obtain ⟨v,r',e,_⟩:=r;cases e
  | nil=>exact ⟨vs,rfl,hl2,r2⟩
 | j::js,[],us,ks,xs,vs,r,hl,r2,hl2=>by
  obtain rfl:us=[]:=r
  cases hl
 | j::js,y::ys,_,ks,xs,vs,⟨u,us,e,ru,rr⟩,hl,r2,hl2=>by
  subst e
  have key:∃ ws,putK (ks.zip vs) j u=(ycS ks xs j y).1.zip ws/\ws.length=(ycS ks xs j y).1.length/\RepL K F m (ycS ks xs j y).2 ws:=by
   have hput:=you j u ks vs hl2
   unfold ycS
   by_cases hj:yrk ks j=true
   .rw [if_pos hj] at hput ⊢
    exact ⟨_,hput,by rw [ykj];exact hl2,r2.setK ks j ru⟩
   .rw [if_neg hj] at hput ⊢
    exact ⟨_,hput,by rw [length_append,length_append,hl2];rfl,r2.snoc ru⟩
  obtain ⟨ws,p1,p2,p3⟩:=key
  have ih:=yrr (js:=js) rr (by simpa using hl) p3 p2
  show ∃ ws,yDT (putK (ks.zip vs) j u) (js.zip us)=_/\_
  rw [p1]
  exact ih
def yzd:PM:=fun x ys h=>match x,ys with|.loc n,[.loc k]=>(match h[n]?,h[k]? with|some (.dct ks xs),some (.dct js zs)=>if n≠k/\ks.length+js.length<1000 then some (.non,h.set n (.dct (yks js zs ks xs).1 (yks js zs ks xs).2)) else none|_,_=>none)|_,_=>none
theorem yDU:yka K "dict" ypD yFz yzd:=by
 refine ⟨fun W x v w r c=>yus w r c,fun W x v xs vs Q z h' w rx r e q=>?_⟩
 unfold yzd at e
 split at e
 .rename_i n k
  split at e
  .rename_i ks xs js zs hn hk
   split at e
   .rename_i hc
    cases e
    obtain ⟨u,rfl,ru⟩:=yoh r
    obtain ⟨a,ev,hm,hf,us,hp,hl,rs⟩:=w.loc hn rx
    obtain ⟨b,ev2,hm2,hf2,us2,hp2,hl2,rs2⟩:=w.loc hk ru
    have hne:a≠b:=fun z=>by
     subst z
     obtain ⟨l1,q1⟩:=List.getElem?_eq_some_iff.mp hm
     obtain ⟨l2,q2⟩:=List.getElem?_eq_some_iff.mp hm2
     exact hc.1 (yjt w.nd l1 l2 (q1.trans q2.symm))
    obtain ⟨ws,p1,p2,p3⟩:=yrr rs2 hl2 rs hl
    refine ⟨a,b,_,_,ev,by rw [ev2],hne,hp,hp2,by rw [length_zip,length_zip];exact small (by omega),?_⟩
    rw [p1]
    exact q .non (ynh W n a (.dK ((yks js zs ks xs).1.zip ws)) (.dct (yks js zs ks xs).1 (yks js zs ks xs).2)) rfl (yfP w hn hm hf ⟨hf,_,yx,p2,p3⟩) rfl
   .cases e
  .cases e
 .cases e
end PX
namespace PX
open PySem L2
variable {K:Ck}
noncomputable def yAH (J:It) (tc:TT) (te:TE) (inn:V->St) (D:Addr) (Q:VK) (H:Hp):Prop:=∃ W:Nat->Nat->Hp->Prop,(∃ m,W 0 m H)/\∀ i m H,W i m H ->
 (J.stop i H/\Q (.ref D) H)\/(J.go i H/\∀ x H',J.yld i H x H'->tc (inn x) H' fun b H1=>if b=true then te (inn x) H1 fun y H2=>∃ acc,H2 D=some (.lst acc)/\acc.length<sizeLine/\∃ m',m'<m/\W (i+1) m' (upd H2 D (.lst (acc++[y]))) else ∃ m',m'<m/\W (i+1) m' H1)
def yjv (wi:TI) (ix:List Nat) (tc:TT) (te:TE):TE:=fun σ H Q=>wi σ H fun J H1=>∀ D,H1 D=none->yAH J tc te (inner ix σ) D Q (upd H1 D (.lst []))
def yvY (c:XT) (e:XE) (inn:PV->PSt):List PV->AH->Option (List PV×AH)
 | [],h=>some ([],h)
 | x::xs,h=>ob (c (inn x) h) fun b h1=>if b=true then ob (e (inn x) h1) fun y h2=>ob (yvY c e inn xs h2) fun ys h3=>some (y::ys,h3) else yvY c e inn xs h1
def yfF (it:XA) (ix:List Nat) (c:XT) (e:XE):XO:=fun ρ h=>ob (it ρ h) fun xs h1=>if xs.length<100000 then ob (yvY c e (yfw ix ρ) xs h1) fun ys h2=>some (.lst ys,h2) else none
theorem ylR {ta:TE}{ea:XE}{tA:TT}{eA:XT}{wi:TI}{it:XA}(ix:List Nat) (a:yvK K wi it) (c:ylE K tA eA) (b:ybN K ta ea):ylF K (yjv wi ix tA ta) (yfF it ix eA ea):=by
 intro W0 W ρ σ Q d h' gd e q
 obtain ⟨xs,h1,e1,f1⟩:=yg e
 split at f1
 .rename_i hlen
  obtain ⟨zs,h2,e2,f2⟩:=yg f1
  cases f2
  refine a W0 W ρ σ _ xs h1 gd e1 fun J W1 w1 l1 J1=>?_
  subst w1
  intro D hD
  have nm:=l1.ok.out hD
  have nf:=l1.ok.ff hD
  refine ⟨fun i m H=>m=xs.length-i/\i<=xs.length/\∃ W' acc done rest,W'.H=H/\Le K W1 W'/\D∉W'.m/\W'.F D=none/\H D=some (.lst acc)/\ycI K W' done acc/\done.length<=i/\zs=done++rest/\yvY eA ea (yfw ix ρ) (xs.drop i) W'.h=some (rest,h'),⟨_,rfl,zero_le _,ygM W1 D (.lst []),[],[],zs,rfl,ycC l1.ok hD,nm,nf,yx,rfl,Nat.le_refl _,rfl,by rw [List.drop_zero];exact e2⟩,?_⟩
  rintro i m _ ⟨rfl,hi,W',acc,done,rest,rfl,l,n1,n2,hd,rd,ld,ez,f⟩
  by_cases hlt:i<xs.length
  .rw [List.drop_eq_getElem_cons hlt] at f
   obtain ⟨k0,h0,k00,f0⟩:=yg f
   refine .inr ⟨J1.go i W' l.lf l.ok hlt,fun v H2 hy=>?_⟩
   obtain ⟨rfl,x,hx,rx⟩:=J1.yld i W' v H2 l.lf l.ok hlt hy
   rw [List.getElem?_eq_getElem hlt] at hx
   cases hx
   refine c W' W' _ _ _ k0 h0 (ygj gd (l1.trans l) ix rx) k00 fun W0' w0' l0=>?_
   subst w0'
   have hd0:=l0.keep _ _ hd n1
   have nm0:D∉W0'.m:=fun z=>by rw [l0.mn D z n1] at hd;cases hd
   have nf0:W0'.F D=none:=l0.new D _ hd n1 n2
   cases k0 with
   | false =>
    rw [if_neg (by decide)] at f0 ⊢
    exact ⟨xs.length-(i+1),by omega,rfl,hlt,W0',acc,done,rest,rfl,l.trans l0,nm0,nf0,hd0,l0.repL rd,by omega,ez,f0⟩
   | true =>
   rw [if_pos rfl] at f0 ⊢
   obtain ⟨y,h3,k1,f3⟩:=yg f0
   obtain ⟨ys,h4,k2,f4⟩:=yg f3
   cases f4
   refine b W0' W0' _ _ _ y h3 (ygj gd (l1.trans (l.trans l0)) ix (l0.rep rx)) k1 fun w W2 w2 l2 r2=>?_
   have nm2:D∉W2.m:=fun z=>by rw [l2.mn D z nm0] at hd0;cases hd0
   have nf2:W2.F D=none:=l2.new D _ hd0 nm0 nf0
   refine ⟨acc,l2.keep _ _ hd0 nm0,?_,xs.length-(i+1),by omega,rfl,hlt,yqV W2 D (.lst (acc++[w])),acc++[w],done++[y],ys,rfl,yhO ((l.trans l0).trans l2) nm2 nf2 hD,nm2,nf2,yx,((l0.trans l2).repL rd).snoc r2,by simp;omega,by simp [ez],?_⟩
   .rw [rd.len];exact big (by omega)
   .show yvY eA ea (yfw ix ρ) (xs.drop (i+1)) W2.h=some (ys,h')
    rw [w2];exact k2
  .have ei:i=xs.length:=by omega
   subst ei
   rw [List.drop_length] at f
   cases f
   refine .inl ⟨J1.stop W' l.lf l.ok,?_⟩
   rw [append_nil] at ez
   subst ez
   exact q D W' rfl (l1.trans l) n1 (l1.fresh hD) (fun z=>by cases z) ⟨n2,acc,hd,rd⟩
 .cases f1
end PX
namespace PX
open PySem L2
variable {K:Ck}
end PX
namespace PX
open PySem L2
variable {K:Ck}
def ykt:Key->PV|.inl i=>.int i|.inr s=>.str s
theorem yrs {W:Wd}(k:Key):ycH K W (ykt k) (kV k):=by cases k<;>exact rfl
def ItD (a:Addr) (ob:Obj) (kvs:List (Key×V)):It :=
 ⟨fun i H=>i<kvs.length/\H a=some (.frz ob (.dK kvs)),fun i H x H'=>H'=H/\∃ kv,kvs[i]?=some kv/\x=kV kv.1,fun i H=>i=kvs.length/\H a=some (.frz ob (.dK kvs))⟩
def yAI (NF:Addr->Prop) (te:TE):TI:=fun σ H R=>te σ H fun x H1=>∃ a kvs,x=.ref a/\H1 a=some (.dK kvs)/\∀ ob,NF a->R (ItD a ob kvs) (upd H1 a (.frz ob (.dK kvs)))
theorem yxI {W:Wd}(w:WOk K W) {n:Nat}{d d':Nd}{a:Addr}{o:HO}(e:W.h[n]?=some d) (hm:W.m[n]?=some a) (hF:W.F a=none) (at':NdAt K W.F (upd W.H a o) W.m d' a):WOk K (ynh W n a o d'):=by
 have hn:n<W.h.length:=(List.getElem?_eq_some_iff.mp e).1
 refine ⟨fun b u q=>?_,by show W.m.length=(W.h.set n d').length;rw [length_set];exact w.len,w.nd,fun j dj b e1 e2=>?_⟩
 .have:b≠a:=ybr q hF
  exact (yF this).trans (w.le _ _ q)
 .have e1:(W.h.set n d')[j]?=some dj:=e1
  by_cases hj:n=j
  .subst hj
   rw [getElem?_set_self hn] at e1
   cases e1
   have e2:W.m[n]?=some b:=e2
   rw [hm] at e2
   cases e2
   exact at'
  .rw [getElem?_set_ne hj] at e1
   have e2:W.m[j]?=some b:=e2
   have hb:b≠a:=fun z=>by
    subst z
    obtain ⟨l1,q1⟩:=List.getElem?_eq_some_iff.mp hm
    obtain ⟨l2,q2⟩:=List.getElem?_eq_some_iff.mp e2
    exact hj (yjt w.nd l1 l2 (q1.trans q2.symm))
   exact (w.at_ j dj b e1 e2).mono (Same.refl _) (prefix_refl _) (fun u q=>(yF hb).trans q) id
theorem yxJ {W0 W':Wd}(w:WOk K W') (pre:W0.m <+: W'.m) (fz:∀ (n:Nat) (ks:List Key) (xs:List PV),W0.h[n]?=some (.fz ks xs)->W'.h[n]?=some (.fz ks xs)/\∀ a,W0.m[n]?=some a->W'.H a=W0.H a)
  {n:Nat}{a:Addr}{o:HO}{d:Nd}(hm:W'.m[n]?=some a) (n0:∀ ks xs,W0.h[n]?≠some (.fz ks xs)) (j:Nat) (ks:List Key) (xs:List PV) (e1:W0.h[j]?=some (.fz ks xs)) :
  (ynh W' n a o d).h[j]?=some (.fz ks xs)/\∀ b,W0.m[j]?=some b->(ynh W' n a o d).H b=W0.H b:=by
 obtain ⟨h1,h2⟩:=fz j ks xs e1
 have hj:n≠j:=fun z=>by subst z;exact n0 _ _ e1
 refine ⟨(getElem?_set_ne hj).trans h1,fun b e2=>(yF fun z=>?_).trans (h2 b e2)⟩
 subst z
 obtain ⟨l1,q1⟩:=List.getElem?_eq_some_iff.mp hm
 obtain ⟨l2,q2⟩:=List.getElem?_eq_some_iff.mp (yew pre e2)
 exact hj (yjt w.nd l1 l2 (q1.trans q2.symm))
theorem yxK {W0 W':Wd}(l:Le K W0 W') {n:Nat}{a:Addr}{o:HO}{d d':Nd}(e:W'.h[n]?=some d) (hm:W'.m[n]?=some a) (hF:W'.F a=none) (at':NdAt K W'.F (upd W'.H a o) W'.m d' a) (n0:∀ ks xs,W0.h[n]?≠some (.fz ks xs)):Le K W0 (ynh W' n a o d') where
 ok:=yxI l.ok e hm hF at'
 fs:=l.fs
 pre:=l.pre
 keep:=fun b u q hb=>by
  have:b≠a:=fun z=>by
   subst z
   rw [l.mn b (mem_of_getElem? hm) hb] at q
   cases q
  exact (yF this).trans (l.keep b u q hb)
 new:=l.new
 mn:=l.mn
 fz:=yxJ l.ok l.pre l.fz hm n0
theorem yAJ {W W1:Wd}(l:Le K W W1) {n:Nat}{d:Nd}(e:W1.h[n]?=some d) (nf:∀ ks xs,d≠.fz ks xs) (ks:List Key) (xs:List PV):W.h[n]?≠some (.fz ks xs):=fun z=>by
 have:=(l.fz n ks xs z).1
 rw [e] at this
 cases this
 exact nf _ _ rfl
section
variable {ta:TE}{ea:XE}{t:TS}{s:XS}
end
end PX
namespace PX
open PySem L2
variable {K:Ck}
def spJ (K:Ck) (n k:Nat) (f:List PV->AH->Option (Nd×AH)):Sp:=fun vs H Q _=>∃ (W0 W:Wd) (x:Addr) (args:List V) (xs:List PV) (d:Nd) (h':AH),vs=.ref x::args/\W.H=H/\Le K W0 W/\W0.H x=none/\x∉W.m/\NdAt K W.F W.H W.m (.ins k [] []) x /\
 ycI K W xs args/\xs.length=n/\f xs W.h=some (d,h')/\∀ W',W'.h=h'->Lf K W W'->Le K W0 W'->x∉W'.m->d≠.dead->NdAt K W'.F W'.H W'.m d x->Q .non W'.H
theorem yxL {n k:Nat}{f} {vs:List V}{H:Hp}{Q:VK}{E:XK}(h:spJ K n k f vs H Q E):vs.length=n+1:=by
 obtain ⟨W0,W,x,args,xs,d,h',rfl,_,_,_,_,_,r,hn,_⟩:=h
 rw [length_cons,r.len,hn]
theorem yrt {N:List Str}{n k:Nat}{t:TS}{s:XS}{vs:List V}{H:Hp}{Q:VK}{E:XK}{bk ct:St->Hp->Prop}(hN:n+1<=N.length) (a:ysR K t s) (h:spJ K n k (yok N.length k s) vs H Q E):t ⟨fun _ H'=>Q .non H',Q,bk,ct⟩ (L2.start N vs) H:=by
 obtain ⟨W0,W,x,args,xs,d,h',rfl,rfl,le,hx,hm,at_,r,hn,e,q⟩:=h
 obtain ⟨o,h1,e1,f1⟩:=yg e
 have gs:=ygP (K:=K) (N:=N.drop 1) le.ok r
 have g:Good K W0 W (.own (.ins k [] [])::(xs.map .val++replicate (N.length-(xs.length+1)) .no)) (L2.start N (.ref x::args)):=by
  have es:L2.start N (.ref x::args)=some (.ref x)::L2.start (N.drop 1) args:=by
   have e3:N.length-(args.length+1)=(N.drop 1).length-args.length:=by rw [length_drop];omega
   unfold L2.start
   rw [map_cons,List.cons_append,length_cons,e3]
  have eN:N.length-(xs.length+1)=(N.drop 1).length-xs.length:=by rw [length_drop];omega
  rw [es,eN]
  have noown:∀ (j:Nat) (d:Nd),(xs.map PVar.val++replicate ((N.drop 1).length-xs.length) .no)[j]?≠some (.own d):=fun j d z=>by
   by_cases hj:j<xs.length
   .rw [getElem?_append_left (by simpa using hj),getElem?_map,List.getElem?_eq_getElem hj] at z
    cases z
   .rw [getElem?_append_right (by simp;omega),getElem?_replicate] at z
    split at z<;>cases z
  refine ⟨le,by rw [length_cons,length_cons,gs.len],fun j y z=>?_,fun j d z=>?_,fun i j d d' hij z z'=>?_⟩
  .cases j with
   | zero=>cases z
   | succ j=>exact gs.val j y z
  .cases j with
   | zero=>cases z;exact ⟨x,rfl,hm,hx,(fun z=>by cases z),at_⟩
   | succ j=>exact absurd z (noown j d)
  .cases i with
   | zero =>
    cases j with
    | zero=>exact absurd rfl hij
    | succ j=>exact absurd z' (noown j d')
   | succ i=>exact absurd z (noown i d)
 cases o with
 | rt y=>cases f1
 | bk ρ=>cases f1
 | ct ρ=>cases f1
 | nx ρ =>
  refine a W0 W _ ρ _ _ h1 g e1 fun W' ew lf g'=>?_
  dsimp only at f1
  split at f1
  .rename_i d' hd'
   cases f1
   obtain ⟨p,b1,b2,b3,b4,b5⟩:=g'.own 0 _ hd'
   have b1:some (some (V.ref x))=some (some (V.ref p)):=b1
   cases b1
   exact q W' ew lf g'.le b2 b4 b5
  .cases f1
def yAK:PVar->Bool|.own _=>false|_=>true
def xBI (k:Nat) (f:List PV->AH->Option (Nd×AH)) (a:XA):XS:=fun ρ h=>match ρ with
 | .own (.ins k' [] [])::r=>if k'=k/\r.all yAK=true then ob (a ρ h) fun xs h1=>ob (f xs h1) fun d h2=>(match d with|.dead=>none|d=>some (.nx (.own d::r),h2)) else none
 | _=>none
theorem yxM {n k:Nat}{f} {E:XK}{t:TA}{aa:XA}(a:ymq K t aa) (hn:∀ ρ h xs h',aa ρ h=some (xs,h')->xs.length=n):ysR K (yqi (ytm (spJ K n k f) [] E (ymC (ypW 0) t))) (xBI k f aa):=by
 intro W0 W ρ ρ' σ D h' g e q
 unfold xBI at e
 split at e
 .rename_i k' r
  split at e
  .rename_i c
   obtain ⟨rfl,hr⟩:=c
   obtain ⟨xs,h1,e1,f1⟩:=yg e
   obtain ⟨d,h2,e2,f2⟩:=yg f1
   have nodead:d≠.dead:=fun z=>by subst z;cases f2
   have f2:some (Out.nx (.own d::r),h2)=some (.nx ρ',h'):=by
    cases d<;>first|exact f2|cases f2
   cases f2
   obtain ⟨p,b1,b2,b3,b4,b5⟩:=g.own 0 _ rfl
   refine ⟨.ref p,b1,?_⟩
   refine a W0 W _ σ _ xs h1 g e1 fun vs W1 w1 l1 r1=>?_
   subst w1
   have g1:=g.step l1
   obtain ⟨p',c1,c2,c3,c4,c5⟩:=g1.own 0 _ rfl
   rw [b1] at c1
   cases c1
   rw [append_nil]
   refine ⟨W0,W1,p,vs,xs,d,h',rfl,rfl,g1.le,c3,c2,c5,r1,hn _ _ _ _ e1,e2,fun W2 w2 lf le hm hd at_=>?_⟩
   refine q W2 w2 (l1.lf.trans lf) ⟨le,g1.len,fun j y z=>?_,fun j d' z=>?_,fun i j d1 d2 hij z1 z2=>?_⟩
   .cases j with
    | zero=>cases z
    | succ j =>
     obtain ⟨v,z1,z2⟩:=g1.val (j+1) y z
     exact ⟨v,z1,lf.rep z2⟩
   .cases j with
    | zero=>cases z;exact ⟨p,b1,hm,c3,hd,at_⟩
    | succ j =>
     have z:r[j]?=some (.own d'):=z
     have:=List.all_eq_true.mp hr _ (mem_of_getElem? z)
     cases this
   .cases i with
    | zero =>
     cases j with
     | zero=>exact absurd rfl hij
     | succ j =>
      have z:r[j]?=some (.own d2):=z2
      have:=List.all_eq_true.mp hr _ (mem_of_getElem? z)
      cases this
    | succ i =>
     have z:r[i]?=some (.own d1):=z1
     have:=List.all_eq_true.mp hr _ (mem_of_getElem? z)
     cases this
  .cases e
 .cases e
end PX
namespace PX
open PySem L2
variable {K:Ck}
end PX
namespace PX
open PySem L2
variable {K:Ck}
end PX
namespace PX
open PySem L2
variable {K:Ck}
noncomputable def yru (c:Nat):List Nat->List (List Nat)
 | []=>[[]]
 | k::r=>if k=c then []::yru c r else match yru c r with|[]=>[[k]]|w::ws=>(k::w)::ws
theorem ylS {c:Nat}:∀ {w:List Nat},c∉w->yru c w=[w]
 | [],_=>rfl
 | k::r,h=>by
  have h1:k≠c:=fun z=>h (z ▸ mem_cons_self ..)
  unfold yru
  rw [if_neg h1,ylS fun z=>h (mem_cons_of_mem _ z)]
theorem yoB {c:Nat}:∀ {w r:List Nat},c∉w->yru c (w++c::r)=w::yru c r
 | [],r,_=>by
  rw [List.nil_append]
  show (if c=c then []::yru c r else _)=_
  rw [if_pos rfl]
 | k::w,r,h=>by
  have h1:k≠c:=fun z=>h (z ▸ mem_cons_self ..)
  rw [List.cons_append]
  show (if k=c then []::yru c (w++c::r) else match yru c (w++c::r) with|[]=>[[k]]|w::ws=>(k::w)::ws)=_
  rw [if_neg h1,yoB fun z=>h (mem_cons_of_mem _ z)]
def yrv (z:Str):List Str:=(yru 32 z.cps.toList).map fun w=>⟨w.toArray⟩
theorem yia:∀ (ws:List Str),ws≠[]->(∀ w∈ws,32∉w.cps.toList)->yrv (Str.join " " ws)=ws
 | [],h,_=>absurd rfl h
 | [w],_,h=>by
  have h1:=ylS (h w (List.mem_singleton.mpr rfl))
  show (yru 32 w.cps.toList).map _=_
  rw [h1];rfl
 | w::v::r,_,h=>by
  have ih:=yia (v::r) (fun z=>by cases z) fun u hu=>h u (mem_cons_of_mem _ hu)
  show yrv (w++" "++Str.join " " (v::r))=_
  have e:(w++(" ":Str)++Str.join " " (v::r)).cps.toList=w.cps.toList++32::(Str.join " " (v::r)).cps.toList:=by
   show (w.cps++(" ":Str).cps++(Str.join " " (v::r)).cps).toList=_
   rw [show (" ":Str).cps = #[32] by rfl']
   simp
  unfold yrv at ih ⊢
  rw [e,yoB (h w (mem_cons_self ..)),map_cons,ih]
def yvZ:V->List V->Hp->VK->Prop:=fun x vs H Q=>∃ z:Str,x=.str z/\vs=[.str " "]/\z.length<=100000/\∀ p,H p=none->Q (.ref p) (upd H p (.lst ((yrv z).map V.str)))
def ylT:PM:=fun x xs h=>match x,xs with|.str z,[.str y]=>if y = " "/\z.length<=100000 then some (.lst ((yrv z).map .str),h) else none|_,_=>none
theorem RepL.of_strs {F:Hp}{m:List Addr}:∀ (ts:List Str),RepL K F m (ts.map PV.str) (ts.map V.str)
 | []=>rfl
 | _::ts=>⟨_,_,rfl,rfl,RepL.of_strs ts⟩
theorem m_split:yka K "str" isStr yvZ ylT:=by
 refine ⟨fun W x v w r c=>?_,fun W x v xs vs Q z h' w rx r e q=>?_⟩
 .unfold isStr at c
  split at c
  .rw [show v=_ from r];rfl
  .cases c
 .unfold ylT at e
  split at e
  .rename_i z y
   split at e
   .rename_i c
    cases e
    obtain ⟨u,rfl,ru⟩:=yoh r
    have ru:u=.str y:=ru
    refine ⟨z,rx,by rw [ru,c.1],c.2,fun p hp=>?_⟩
    have l2:=yqQ (o:=.lst ((yrv z).map V.str)) w hp
    exact q (.ref p) (ywX W p (.lst ((yrv z).map V.str))) rfl l2 ⟨p,_,rfl,yx,RepL.of_strs _⟩
   .cases e
  .cases e
theorem yxN {z:Str}{h:AH}(e:z.length<=100000):ylT (.str z) [.str " "] h=some (.lst ((yrv z).map .str),h):=by
 unfold ylT;exact if_pos ⟨rfl,e⟩
variable {t:TS}{s:XS}
end PX
namespace PX
open PySem L2
variable {K:Ck}
mutual
noncomputable def clean:PV->Bool
 | .loc _=>false
 | .lst xs=>yoC xs
 | .tup xs=>yoC xs
 | .ins _ _ xs=>yoC xs
 | _=>true
noncomputable def yoC:List PV->Bool
 | []=>true
 | x::xs=>clean x && yoC xs
end
noncomputable def yrw (f:PV->Option PV):List PV->Option (List PV)
 | []=>some []
 | x::xs=>match f x,yrw f xs with|some y,some ys=>some (y::ys)|_,_=>none
def see:Nat->AH->PV->Option PV
 | 0,_,x=>if clean x=true then some x else none
 | n+1,h,x=>match x with
  | .loc m=>(match h[m]? with|some (.lst xs)=>(yrw (see n h) xs).map .lst|some (.ins k ns xs)=>(yrw (see n h) xs).map (.ins k ns)|_=>none)
  | x=>if clean x=true then some x else none
section
variable {F H:Hp}{m:List Addr}
end
variable {t:TA}{e:XA}
end PX
namespace PX
open PySem L2
variable {K:Ck}
end PX
namespace PX
open PySem L2
variable {K:Ck}
theorem yDV {W W1:Wd}(l1:Le K W W1) {p:Addr}{d:Nd}(hm:p∉W1.m) (hn:W.H p=none) (at_:NdAt K W1.F W1.H W1.m d p):Le K W ⟨W1.F,W1.H,W1.m++[p],W1.h++[d]⟩/\ycH K ⟨W1.F,W1.H,W1.m++[p],W1.h++[d]⟩ (.loc W1.h.length) (.ref p):=by
 have pre:W1.m <+: W1.m++[p]:=List.prefix_append _ _
 refine ⟨⟨⟨l1.ok.le,?_,?_,fun n d' a e1 e2=>?_⟩,l1.fs,l1.pre.trans pre,l1.keep,l1.new,fun b z n=>?_,fun n ks xs e1=>⟨by
  have:=(l1.fz n ks xs e1).1
  show (W1.h++[d])[n]?=_
  rw [getElem?_append_left (List.getElem?_eq_some_iff.mp this).1];exact this,(l1.fz n ks xs e1).2⟩⟩,⟨p,rfl,?_⟩⟩
 .show (W1.m++[p]).length=(W1.h++[d]).length
  rw [length_append,length_append,l1.ok.len];rfl
 .show (W1.m++[p]).Nodup
  rw [List.nodup_append]
  refine ⟨l1.ok.nd,by simp,?_⟩
  intro a ha b hb
  simp at hb
  subst hb
  exact fun z=>hm (z ▸ ha)
 .have e1:(W1.h++[d])[n]?=some d':=e1
  have e2:(W1.m++[p])[n]?=some a:=e2
  by_cases hlt:n<W1.h.length
  .rw [getElem?_append_left hlt] at e1
   rw [getElem?_append_left (by rw [l1.ok.len];exact hlt)] at e2
   exact (l1.ok.at_ n d' a e1 e2).mono (Same.refl _) pre (fun _ f1=>f1) id
  .rw [getElem?_append_right (by omega)] at e1
   rw [getElem?_append_right (by rw [l1.ok.len];omega)] at e2
   rw [l1.ok.len] at e2
   cases hk:n-W1.h.length with
   | zero =>
    rw [hk] at e1 e2
    simp at e1 e2
    subst e1 e2
    exact at_.mono (Same.refl _) pre (fun _ f1=>f1) id
   | succ k=>rw [hk] at e1;simp at e1
 .have z:b∈W1.m++[p]:=z
  rcases List.mem_append.mp z with z|z
  .exact l1.mn b z n
  .simp at z;subst z;exact hn
 .show (W1.m++[p])[W1.h.length]?=some p
  rw [<- l1.ok.len];simp
def yib (k:Nat) (f:Fn) (a:XA):XE:=fun ρ h=>ob (a ρ h) fun xs h1=>ob (f (.loc h1.length::xs) (h1++[.ins k [] []])) fun x h2=>match x with|.non=>some (.loc h1.length,h2)|_=>none
theorem yrx {k:Nat}{f:Fn}{aa:XA}{ρ:PSt}{h:AH}:yib k f aa ρ h=ob (aa ρ h) fun xs h1=>ob (f (.loc h1.length::xs) (h1++[.ins k [] []])) fun x h2=>match x with|.non=>some (.loc h1.length,h2)|_=>none:=id rfl
theorem yry {n k:Nat}{f:Fn}{ex:XK}{t:TA}{e:XA}(a:ymq K t e) (hn:∀ ρ h xs h',e ρ h=some (xs,h')->xs.length=n):ybN K (ytn (K.A k) (spE K (n+1) f) [] ex t) (yib k f e):=by
 intro W0 W ρ σ Q z h' g e' q
 obtain ⟨xs,h1,e1,e2⟩:=yg e'
 obtain ⟨y,h2,e3,e4⟩:=yg e2
 refine a W0 W ρ σ _ xs h1 g e1 fun vs W1 w1 l1 r1=>?_
 subst w1
 intro x dx hx hd hne
 rw [append_nil]
 have a1:Le K W1 (ygM W1 dx (.own x)):=ycC l1.ok hd
 have hx1:(ygM W1 dx (.own x)).H x=none:=(yF hne.symm).trans hx
 have a2:Le K (ygM W1 dx (.own x)) (ygM (ygM W1 dx (.own x)) x (.ins (K.A k) dx [])):=ycC a1.ok hx1
 obtain ⟨a3,r3⟩:=yDV (d:=.ins k [] []) (a1.trans a2) (l1.ok.out hx) hx ⟨l1.ok.ff hx,dx,[],yx,rfl,rfl⟩
 refine ⟨⟨W1.F,upd (upd W1.H dx (.own x)) x (.ins (K.A k) dx []),W1.m++[x],W1.h++[Nd.ins k [] []]⟩,.loc W1.h.length::xs,y,h2,rfl,a3.ok,⟨_,_,rfl,r3,a3.repL r1⟩,by rw [length_cons,hn _ _ _ _ e1],e3,fun v W' w' l' r'=>?_⟩
 split at e4
 .cases e4
  exact ⟨r',q (.ref x) W' w' (l1.trans (a3.trans l')) (l'.rep r3)⟩
 .cases e4
noncomputable def yFA:List V->Hp->VK->Prop:=fun xs H Q=>∃ (p:Addr) (bs:List Bool),xs=[.ref p]/\H p=some (.lst (bs.map V.bl))/\Q (.bl (bs.any id)) H
def yut:List PV->AH->Option (PV×AH):=fun xs h=>match xs with|[x]=>(match ybL x h with|some ys=>(match yhP ys with|some ns=>some (.bl (ns.any id),h)|none=>none)|none=>none)|_=>none
theorem yAL:yhN K yFA yut:=by
 intro W xs vs Q z h' w r e q
 unfold yut at e
 split at e
 .split at e
  .rename_i ys hy
   split at e
   .rename_i ns hn
    cases e
    obtain ⟨v,rfl,rx⟩:=yoh r
    obtain ⟨a,us,rfl,hs,rs⟩:=yY w hy rx
    have:=yhQ hn rs
    subst this
    exact ⟨a,ns,rfl,hs,q _ W rfl (.refl w) rfl⟩
   .cases e
  .cases e
 .cases e
def ypY (n:Nat) (e:XE) (inn:PV->PSt):Nat->Nat->AH->Option (List PV×AH)
 | 0,i,h=>match h[n]? with|some (.lst xs)=>if xs.length=i then some ([],h) else none|_=>none
 | k+1,i,h=>match h[n]? with
  | some (.lst xs)=>(match xs[i]? with|some x=>ob (e (inn x) h) fun y h1=>ob (ypY n e inn k (i+1) h1) fun ys h2=>some (y::ys,h2)|none=>none)
  | _=>none
def yeV (e:XE) (ix:List Nat) (el:XE):XO:=fun ρ h=>ob (e ρ h) fun x h1=>match x with
 | .loc n=>(match h1[n]? with|some (.lst xs)=>if xs.length<=10000 then ob (ypY n el (yfw ix ρ) xs.length 0 h1) fun ys h2=>some (.lst ys,h2) else none|_=>none)
 | _=>none
theorem yrz {ta tb:TE}{ea eb:XE}(ix:List Nat) (a:ybN K ta ea) (b:ybN K tb eb):ylF K (yps (yte K.K ta) ix tb) (yeV ea ix eb):=by
 intro W0 W ρ σ Q d h' gd e q
 obtain ⟨x,h1,e1,f1⟩:=yg e
 refine a W0 W ρ σ _ x h1 gd e1 fun v W1 w1 l1 r1=>?_
 subst w1
 split at f1
 .rename_i n
  split at f1
  .rename_i xs hn
   split at f1
   .rename_i hlen
    obtain ⟨zs,h2,e2,f2⟩:=yg f1
    cases f2
    obtain ⟨p,ev,hm,hf,us,hp,rs⟩:=l1.ok.loc hn r1
    refine ⟨p,ev,⟨us,SqL.of hp⟩,fun D hD=>?_⟩
    have nm:=l1.ok.out hD
    have nf:=l1.ok.ff hD
    refine ⟨fun i m H=>m=xs.length-i/\i<=xs.length/\∃ W' acc done rest,W'.H=H/\Le K W1 W'/\D∉W'.m/\W'.F D=none/\H D=some (.lst acc)/\ycI K W' done acc/\done.length=i/\zs=done++rest/\ypY n eb (yfw ix ρ) (xs.length-i) i W'.h=some (rest,h'),⟨_,rfl,zero_le _,ygM W1 D (.lst []),[],[],zs,rfl,ycC l1.ok hD,nm,nf,yx,rfl,rfl,rfl,e2⟩,?_⟩
    rintro i m _ ⟨rfl,hi,W',acc,done,rest,rfl,l,n1,n2,hd,rd,ld,ez,f⟩
    have hm':W'.m[n]?=some p:=yew l.pre hm
    by_cases hlt:i<xs.length
    .obtain ⟨k,hk⟩:∃ k,xs.length-i=k+1:=⟨xs.length-i-1,by omega⟩
     rw [hk] at f
     unfold ypY at f
     split at f
     .rename_i ys hy
      split at f
      .rename_i z hz
       obtain ⟨p',ev',hm2,hf',vs,hp',rs'⟩:=l.ok.loc hy (v:=.ref p) ⟨p,rfl,hm'⟩
       cases ev'
       obtain ⟨y,h3,k1,f3⟩:=yg f
       obtain ⟨ys',h4,k2,f4⟩:=yg f3
       cases f4
       obtain ⟨vz,hv1,hv2⟩:=rs'.get hz
       refine .inr ⟨⟨vs,vz,SqL.of hp',hv1⟩,fun v H2 hy=>?_⟩
       obtain ⟨rfl,hx⟩:=hy
       have hx:=hx vs (SqL.of hp')
       rw [hv1] at hx
       cases hx
       refine b W' W' _ _ _ y h3 (ygj gd (l1.trans l) ix hv2) k1 fun w W2 w2 l2 r2=>?_
       have nm2:D∉W2.m:=fun z=>by rw [l2.mn D z n1] at hd;cases hd
       have nf2:W2.F D=none:=l2.new D _ hd n1 n2
       refine ⟨acc,l2.keep _ _ hd n1,?_,xs.length-(i+1),by omega,rfl,hlt,yqV W2 D (.lst (acc++[w])),acc++[w],done++[y],ys',rfl,yhO (l.trans l2) nm2 nf2 hD,nm2,nf2,yx,(l2.repL rd).snoc r2,by simp [ld],by simp [ez],?_⟩
       .rw [rd.len,ld];exact big (by omega)
       .show ypY n eb (yfw ix ρ) (xs.length-(i+1)) (i+1) W2.h=some (ys',h')
        rw [w2,show xs.length-(i+1)=k by omega];exact k2
      .cases f
     .cases f
    .have ei:i=xs.length:=by omega
     subst ei
     rw [sub_self] at f
     unfold ypY at f
     split at f
     .rename_i ys hy
      obtain ⟨p',ev',hm2,hf',vs,hp',rs'⟩:=l.ok.loc hy (v:=.ref p) ⟨p,rfl,hm'⟩
      cases ev'
      split at f
      .rename_i hyl
       cases f
       refine .inl ⟨⟨vs,SqL.of hp',by rw [rs'.len,hyl];exact Nat.le_refl _⟩,?_⟩
       rw [append_nil] at ez
       subst ez
       exact q D W' rfl (l1.trans l) n1 (l1.fresh hD) (fun z=>by cases z) ⟨n2,acc,hd,rd⟩
      .cases f
     .cases f
   .cases f1
  .cases f1
 .cases f1
end PX
namespace PX
open PySem L2
variable {K:Ck}
def yjw (e:XE) (ix:List Nat) (el:XE):XO:=fun ρ h=>ob (e ρ h) fun x h1=>match x with
 | .loc n=>(match h1[n]? with|some (.dct ks xs)=>if ks.length<=10000 then ob (yke el (yfw ix ρ) (ks.map ykt) (h1.set n (.fz ks xs))) fun ys h2=>some (.lst ys,h2.set n (.dct ks xs)) else none|_=>none)
 | _=>none
def ywa (NF:Addr->Prop) (te:TE) (ix:List Nat) (tb:TE):TE:=fun σ H Q=>yps (yAI NF te) ix tb σ H fun v H'=>∃ a ob kvs,NF a/\H' a=some (.frz ob (.dK kvs))/\Q v (upd H' a (.dK kvs))
theorem yrA {NF:Addr->Prop}{ta tb:TE}{ea eb:XE}(ix:List Nat) (a:ybN K ta ea) (b:ybN K tb eb):ylF K (ywa NF ta ix tb) (yjw ea ix eb):=by
 intro W0 W ρ σ Q d h' gd e q
 obtain ⟨x,h1,e1,f1⟩:=yg e
 refine a W0 W ρ σ _ x h1 gd e1 fun v W1 w1 l1 r1=>?_
 subst w1
 split at f1
 .rename_i n
  split at f1
  .rename_i ks xs hn
   split at f1
   .rename_i hlen
    obtain ⟨zs,h2,e2,f2⟩:=yg f1
    cases f2
    have hz:=ynb e2
    rw [length_map] at hz
    obtain ⟨p,ev,hm,hf,us,hp,hl,rs⟩:=l1.ok.loc hn r1
    have hzl:(ks.zip us).length=ks.length:=by rw [length_zip,hl,Nat.min_self]
    refine ⟨p,ks.zip us,ev,hp,fun ob nf=>?_⟩
    have lf:Le K W1 (ynh W1 n p (.frz ob (.dK (ks.zip us))) (.fz ks xs)):=yfP l1.ok hn hm hf ⟨hf,ob,us,yx,hl,rs⟩
    have hnl:n<W1.h.length:=(List.getElem?_eq_some_iff.mp hn).1
    have still:∀ W',Lf K (ynh W1 n p (.frz ob (.dK (ks.zip us))) (.fz ks xs)) W'->W'.h[n]?=some (.fz ks xs)/\W'.H p=some (.frz ob (.dK (ks.zip us))):=fun W' l=>by
     obtain ⟨z1,z2⟩:=l.fz n ks xs (getElem?_set_self hnl)
     exact ⟨z1,(z2 p hm).trans yx⟩
    have l2:=l1.trans lf
    generalize hW2:ynh W1 n p (.frz ob (.dK (ks.zip us))) (.fz ks xs)=W2 at *
    have hW2h:W2.h=W1.h.set n (.fz ks xs):=by rw [<- hW2];rfl
    have hW2H:W2.H=upd W1.H p (.frz ob (.dK (ks.zip us))):=by rw [<- hW2];rfl
    have hW2m:W2.m=W1.m:=by rw [<- hW2];rfl
    rw [<- hW2h] at e2
    rw [<- hW2H]
    intro D hD
    have nm:=lf.ok.out hD
    have nf2:=lf.ok.ff hD
    refine ⟨fun i m H=>m=ks.length-i/\i<=ks.length/\∃ W' acc done rest,W'.H=H/\Le K W2 W'/\D∉W'.m/\W'.F D=none/\H D=some (.lst acc)/\ycI K W' done acc/\done.length=i/\zs=done++rest/\yke eb (yfw ix ρ) ((ks.map ykt).drop i) W'.h=some (rest,h2),⟨_,rfl,zero_le _,ygM W2 D (.lst []),[],[],zs,rfl,ycC lf.ok hD,nm,nf2,yx,rfl,rfl,rfl,by rw [List.drop_zero];exact e2⟩,?_⟩
    rintro i m _ ⟨rfl,hi,W',acc,done,rest,rfl,l,n1,n2,hd,rd,ld,ez,f⟩
    obtain ⟨z1,z2⟩:=still W' l.lf
    by_cases hlt:i<ks.length
    .have hlt':i<(ks.map ykt).length:=by rw [length_map];exact hlt
     rw [List.drop_eq_getElem_cons hlt'] at f
     obtain ⟨y,h3,k1,f3⟩:=yg f
     obtain ⟨ys,h4,k2,f4⟩:=yg f3
     cases f4
     refine .inr ⟨⟨by rw [hzl];exact hlt,z2⟩,fun v H2 hy=>?_⟩
     obtain ⟨rfl,kv,y1,rfl⟩:=hy
     obtain ⟨y4,y5⟩:=List.getElem?_eq_some_iff.mp y1
     have ek:(ks.map ykt)[i]=ykt kv.1:=by rw [List.getElem_map,<- y5,List.getElem_zip]
     rw [ek] at k1
     refine b W' W' _ _ _ y h3 (ygj gd (l2.trans l) ix (yrs kv.1)) k1 fun w W3 w3 l3 r3=>?_
     have nm3:D∉W3.m:=fun z=>by rw [l3.mn D z n1] at hd;cases hd
     have nf3:W3.F D=none:=l3.new D _ hd n1 n2
     refine ⟨acc,l3.keep _ _ hd n1,?_,ks.length-(i+1),by omega,rfl,hlt,yqV W3 D (.lst (acc++[w])),acc++[w],done++[y],ys,rfl,yhO (l.trans l3) nm3 nf3 hD,nm3,nf3,yx,(l3.repL rd).snoc r3,by simp [ld],by simp [ez],?_⟩
     .rw [rd.len,ld];exact big (by omega)
     .show yke eb (yfw ix ρ) ((ks.map ykt).drop (i+1)) W3.h=some (ys,h2)
      rw [w3];exact k2
    .have ei:i=ks.length:=by omega
     subst ei
     rw [List.drop_of_length_le (by rw [length_map];exact Nat.le_refl _)] at f
     cases f
     refine .inl ⟨⟨hzl.symm,z2⟩,p,ob,ks.zip us,nf,z2,?_⟩
     rw [append_nil] at ez
     subst ez
     have hm':W'.m[n]?=some p:=yew l.pre (by rw [hW2m];exact hm)
     obtain ⟨z3,_⟩:=l.ok.at_ n _ p z1 hm'
     have at':NdAt K W'.F (upd W'.H p (.dK (ks.zip us))) W'.m (.dct ks xs) p:=⟨z3,us,yx,hl,RepL.mono (lf.fs.trans l.fs) (lf.pre.trans l.pre) _ _ rs⟩
     have nW:=yAJ l1 hn (fun _ _ z=>by cases z)
     have hDp:D≠p:=fun z=>by subst z;exact n1 (mem_of_getElem? hm')
     refine q D (ynh W' n p (.dK (ks.zip us)) (.dct ks xs)) rfl (yxK (l2.trans l) z1 hm' z3 at' nW) n1 (l2.fresh hD) (fun z=>by cases z) ⟨n2,acc,(yF hDp).trans hd,rd⟩
   .cases f1
  .cases f1
 .cases f1
end PX
namespace L2
open PySem PySem.Spec PyProof.Rows PX
def PTs (X:Cx) (cs:List Expr) (t:TT):Prop :=
 ∀ (pins:List (Addr×Obj)) (s:Shared) (σ:St) (H:Hp) (Q:Bool->Hp->Prop),Inv X pins σ H s->t σ H Q->wpAny (model X.prog X.w) X.A (forIn cs true fun c r=>if r=true then do let ok <- isTrue c X.env (eval c X.env);pure (ForInStep.yield ok) else pure (ForInStep.yield r)) (TP X pins σ Q) X.xe s
theorem yrB {X:Cx}{c:Expr}{t:TT}(h:PT X c t):PTs X [c] t:=fun p s σ H Q I q=>wpAny_tests_one (h p s σ H Q I q)
def yCs:TT:=fun _ H Q=>Q true H
theorem yku {X:Cx}:PTs X [] yCs:=fun p s σ H Q I q=>wpAny_tests_nil ⟨H,I,q⟩
theorem yrC {wi:TI}{ix:List Nat}{te:TE}:yjv wi ix yCs te=yps wi ix te:=rfl
theorem yxO {X:Cx}{e:Expr}{wi:TI}{ix:List Nat}{te:TE}(h:PE X e (yjv wi ix yCs te)):PE X e (yps wi ix te):=yrC ▸ h
theorem yDW {X:Cx}{e:Stmt}{wi:TI}{ix:List Nat}{te:TE}{g:TG}(h:PS X e (yvt (yjv wi ix yCs te) g)):PS X e (yvt (yps wi ix te) g):=yrC ▸ h
theorem yhD {X:Cx}{elt iter:Expr}{cs:List Expr}{tc:TT}{x:Str}{px:Pos}{scope:Scope}{cpos:Pos}{wi:TI}{te:TE}(ix:List Nat) (fr:List Str) (hc:X.calm=true) (hi:PI X (.Name x px) iter wi) (hfr:FrOk X scope ix fr)
  (he:∀ (cl:List (Str×Addr)) (C:Addr) (s₃:Shared) (H₃:Hp) (fp:List Addr) (pins:List (Addr×Obj)),PE (cxC X scope cl C (x::fr) s₃ H₃ fp pins) elt te)
  (hq:∀ (cl:List (Str×Addr)) (C:Addr) (s₃:Shared) (H₃:Hp) (fp:List Addr) (pins:List (Addr×Obj)),PTs (cxC X scope cl C (x::fr) s₃ H₃ fp pins) cs tc)
  (hnd:(x::fr).Nodup) (hkind:scope.kind=.function) (hcell:∀ y∈scope.names,y.2≠.cell)
  (hnames:∀ y∈scope.names,y.2=.local->scope.names.lookup y.1=some .local) (hfree0:∀ y∈scope.names,y.2=.free->y.1∈fr) (hx:scope.names.lookup x=some .local)
  (hs:∀ v,foldedSetIterable iter X.env v=pure v):PE X (.ListComp elt [⟨.Name x px,iter,cs,0⟩] scope cpos) (yjv wi ix tc te):=by
 intro pins s σ H Q I h
 have hfn:X.env.scope.kind=.function:=I.ok.kind
 have hfree:∀ y∈scope.names,y.2=.free->X.env.kindOf y.1=some .cell/\scope.names.lookup y.1=some .free:=fun y hy e=>by
  obtain ⟨j,hj,ej⟩:=getElem_of_mem (hfree0 y hy e)
  obtain ⟨i,_,_,h3,h4⟩:=hfr.get (j:=j) (y:=y.1) (by rw [List.getElem?_eq_getElem hj,ej])
  exact ⟨h4,h3⟩
 obtain ⟨cl,ecl,hcl1,hcl2⟩:=ydQ (env:=X.env) scope.names [] fun n hn=>I.ok.has n (.inl (hfree _ hn rfl).1)
 have hclos:closureFor scope X.env=pure cl:=by
  unfold closureFor
  have:(forIn scope.names ([]:List (Str×Addr)) (fun (x:Str×NameKind) (r:List (Str×Addr))=>if (x.2 == NameKind.free)=true then do let c <- cellOf X.env x.1;pure (ForInStep.yield ((x.1,c)::r)) else pure (ForInStep.yield r)):Sem (List (Str×Addr)))=pure cl:=ecl
  first
   | exact (by simpa using congrArg (· >>= fun r=>pure r) this)
   | (rw [show (pure cl:Sem (List (Str×Addr)))=(pure cl >>= fun r=>pure r) from rfl,<- this];rfl)
 have hcle:∀ y c,cl.lookup y=some c->X.env.cells.lookup y=some c/\(y,NameKind.free)∈scope.names:=fun y c e=>by
  by_cases hy:(y,NameKind.free)∈scope.names
  .exact ⟨by rw [<- hcl1 y hy];exact e,hy⟩
  .rw [hcl2 y hy] at e;simp at e
 rw [eval_ListComp]
 refine wpAny_comprehension_free (use:=none) rfl hs hclos hkind hnames ?_
 refine thn (hi pins s σ H _ I h) fun v s1 h1=>thn h1 fun itv s2 h2=>?_
 obtain ⟨it,fp,tn,J,H2,e,I2,T,st2,f2,q2⟩:=h2
 subst e
 refine wpAny_newObj_type ?_
 generalize hs3:({ s2 with heap:=s2.heap.push { cls:=.type "list",dict:=none,data:=.seq ([]:List Value).toArray } }:Shared)=s3
 generalize hD:s2.heap.objs.size=D
 have hDn:H2 D=none:=by rw [<- hD];exact I2.hok.fresh (Nat.le_refl _)
 have I3:Inv X pins σ (upd H2 D (.lst [])) s3:=by
  rw [<- hs3,<- hD]
  exact I2.lnew (t':=s2.toks) (ys:=[]) (its:=[]) .nil (zero_le _)
 have k3:∀ b o,s2.heap.get? b=some o->s3.heap.get? b=some o:=fun b o e=>by rw [<- hs3];exact Heap.get?_push_of_some _ e
 have st3:tn 0 s3.heap:=T.keep _ _ _ st2 fun b _ o e=>k3 b o e
 have fne:∀ b∈fp,b≠D:=fun b hb=>by
  obtain ⟨o,e,_⟩:=T.obj _ _ st2 b hb
  rw [<- hD]
  exact ne_of_lt (Heap.lt_size e)
 have f3:∀ b∈fp,yqj X pins (upd H2 D (.lst [])) b:=fun b hb=>⟨by rw [yF (fne b hb)];exact (f2 b hb).1,(f2 b hb).2⟩
 have q3:=q2 D hDn
 generalize upd H2 D (.lst [])=H3 at I3 f3 q3
 obtain ⟨W,⟨m0,w0⟩,turn⟩:=q3
 refine wpAny_newFunctionEnv hcell (by intro y hy;simp at hy) (fun h4 hns hsb=>?_) hkind
 try dsimp only at hns hsb ⊢
 generalize hC:s3.heap.objs.size=C at hns hsb ⊢
 have k4:∀ b o,s3.heap.get? b=some o->h4.get? b=some o:=fun b o e=>(hsb.2 b (by rw [<- hC];exact ne_of_lt (Heap.lt_size e))).trans (Heap.get?_push_of_some _ e)
 have Cne:∀ b o,s3.heap.get? b=some o->b≠C:=fun b o e=>by rw [<- hC];exact ne_of_lt (Heap.lt_size e)
 have stk:=I3.stkSub
 have pinF:∀ p∈X.pn++pins,p.1∉frs X.stack:=fun p hp z=>by
  obtain ⟨_,_,n1,n2,_⟩:=I3.pin p hp
  rcases mem_cons.mp (stk _ z) with z|z
  .exact n1 z
  .exact n2 z
 have okC:(cxC X scope cl C (x::fr) s3 H3 fp pins).Ok:=by
  refine ⟨I3.ok.mod,by show (relabel scope X.env).kind=_;exact hkind,I3.ok.glob,I3.ok.blt,le_of_eq hC,fun y z c h1 h2=>I3.ok.inj y z c (hcle y c h1).1 (hcle z c h2).1,fun y hy=>?_,fun y c hf _=>(by cases hf),I3.ok.hd,I3.ok.frames,.inl rfl,fun b hb=>⟨?_,fun y c e z=>?_⟩,I3.bs,?_,fun b o e hb=>?_,fun b hb z=>?_,I3.stack,I3.stkFree⟩
  .have hy:((relabel scope X.env).names.lookup y=some .cell)\/((relabel scope X.env).names.lookup y=some .free):=hy
   rw [show (relabel scope X.env).names.lookup y=_ from yct y scope.names] at hy
   cases e:scope.names.lookup y with
   | none=>rw [e] at hy;simp at hy
   | some k =>
    have hm:(y,k)∈scope.names:=PySem.mem_of_lookup e
    have hkf:k=.free:=by
     rw [e] at hy
     cases k<;>simp at hy ⊢
     exact absurd rfl (hcell _ hm)
    subst hkf
    obtain ⟨c,hc'⟩:=I3.ok.has y (.inl (hfree _ hm rfl).1)
    exact ⟨c,by show cl.lookup y=_;rw [hcl1 y hm];exact hc'⟩
  .obtain ⟨o,e,_⟩:=T.obj _ _ st3 b hb
   exact Cne b o e
  .exact (f3 b hb).2.2.2.2.1 y c (hcle y c e).1 z
  .exact Nat.le_trans I3.ok.bsz I3.sz
  .rcases (f3 b hb).2.2.2.1 with z|z
   .exact I3.ok.noex b o e z
   .exact absurd (lt_of_lt_of_le (Heap.lt_size e) (Nat.le_trans I3.ok.bsz z)) (lt_irrefl _)
  .rcases mem_cons.mp (stk _ z) with z|z
   .exact (f3 b hb).2.1 z
   .exact (f3 b hb).2.2.1 z
 have inn:∀ v,(inner ix σ v)=some v::ix.map fun i=>(σ[i]?).getD none:=fun _=>rfl
 have I4:Inv (cxC X scope cl C (x::fr) s3 H3 fp pins) [] (none::ix.map fun i=>(σ[i]?).getD none) H3 { s3 with heap:=h4,toks:=s3.toks+([]:List (Str×Value)).length }:=by
  refine ⟨okC,rfl,I3.bare,Un.kept k4,⟨_,hns,fun j y v e1 e2 e3=>?_⟩,fun y c e=>?_,I3.hok.fresh (le_of_eq hC),fun y c e=>I3.freeC y c (hcle y c e).1,fun p hp=>?_,I3.hok.kept k4,?_⟩
  .match j,e1,e2 with
   | 0,e1,e2=>simp at e2
   | j+1,e1,e2 =>
    obtain ⟨i,hi1,hi2,hi3,hi4⟩:=hfr.get (j:=j) (y:=y) (by have e1':(x::fr)[j+1]?=some y:=e1;simpa using e1')
    have e2':σ[i]?=some (some v):=by
     have e2:(ix.map fun i=>(σ[i]?).getD none)[j]?=some (some v):=by simpa using e2
     rw [getElem?_map,hi1] at e2
     simp at e2
     cases z:σ[i]? with
     | none=>rw [z] at e2;simp at e2
     | some o=>rw [z] at e2;simp at e2;rw [e2]
    obtain ⟨m,_,hl⟩:=I3.loc
    obtain ⟨u,r,l⟩:=hl i y v hi2 e2' (.inr (.inl hi4))
    refine ⟨u,r,?_⟩
    rcases l with ⟨k,_⟩|⟨k,c,ec,z⟩
    .rw [hi4] at k;cases k
    .have hm:(y,NameKind.free)∈scope.names:=PySem.mem_of_lookup hi3
     refine .inr ⟨.inl ?_,c,by show cl.lookup y=_;rw [hcl1 y hm];exact ec,?_⟩
     .show (relabel scope X.env).names.lookup y=_
      rw [show (relabel scope X.env).names.lookup y=_ from yct y scope.names,hi3]
      simp [hfn,hi4]
     .obtain ⟨o,ho,hd⟩:=z
      exact ⟨o,k4 _ _ ho,hd⟩
  .obtain ⟨v,o,ho,hd⟩:=I3.cell y c (hcle y c e).1
   exact ⟨v,o,k4 _ _ ho,hd⟩
  .have hp:p∈X.pn++pins:=by simpa [cxC] using hp
   obtain ⟨e,n,ne,nf,d⟩:=I3.pin p hp
   exact ⟨k4 _ _ e,n,Cne _ _ e,pinF p hp,d⟩
  .show (none::ix.map fun i=>(σ[i]?).getD none).length=(x::fr).length
   rw [length_cons,length_cons,length_map,hfr.len]
 have st4:tn 0 h4:=T.keep _ _ _ st3 fun b _ o e=>k4 b o e
 have f4:∀ b∈fp,b≠C/\b∉frs X.stack/\(∀ y c,cl.lookup y=some c->c≠b)/\∀ p∈(X.pn++pins)++([]:List (Addr×Obj)),p.1≠b:=fun b hb=>by
  obtain ⟨o,e,_⟩:=T.obj _ _ st3 b hb
  refine ⟨Cne b o e,fun z=>?_,fun y c e=>(f3 b hb).2.2.2.2.1 y c (hcle y c e).1,fun p hp=>(f3 b hb).2.2.2.2.2 p (by simpa using hp)⟩
  rcases mem_cons.mp (stk _ z) with z|z
  .exact (f3 b hb).2.1 z
  .exact (f3 b hb).2.2.1 z
 have stat:∀ {H':Hp},(∀ b∈fp,H' b=none)->∀ b∈fp,yqj (cxC X scope cl C (x::fr) s3 H3 fp pins) [] H' b:=fun hn b hb=>⟨hn b hb,(f4 b hb).1,(f4 b hb).2.1,.inl hb,(f4 b hb).2.2.1,(f4 b hb).2.2.2⟩
 have fin:∀ {σ':St}{H':Hp}{s':Shared},Inv (cxC X scope cl C (x::fr) s3 H3 fp pins) [] σ' H' s'->Q (.ref D) H'->compPost (model X.prog X.w) X.A X.xe none (EP X pins σ Q) (.ref D) C (.ok .next) s':=fun {σ' H' s'} I' q'=>by
  obtain ⟨m,hn,_⟩:=I'.loc
  refine ⟨m,hn,fun h' sb=>⟨.ref D,H',?_,rfl,q'⟩⟩
  have hCn:H' C=none:=I'.free
  have same:∀ b,b≠C->h'.get? b=s'.heap.get? b:=fun b hb=>sb.2 b hb
  have U:=I'.base
  have U':Un (frs X.stack) fp H3 H' s3.heap h':=by
   refine ⟨fun b o e n h1 h2=>?_,fun b o e n h1 h2=>?_,U.free,fun b o e h2=>?_,U.tups,U.frzs,U.tbls⟩
   .rw [same b (Cne b o e)];exact U.keep b o e n h1 h2
   .rw [same b (Cne b o e)];exact U.slot b o e n h1 h2
   .rw [same b (Cne b o e)];exact U.there b o e h2
  refine I3.call' (s':={ s' with heap:=h' }) (by show s'.os=s3.os;exact I'.os) U' ?_ I'.bare fun b hb=>⟨(f3 b hb).2.2.2.1,(f3 b hb).2.1,(f3 b hb).2.2.2.2.1,(f3 b hb).2.2.2.2.2⟩
  intro b ob e
  refine (I'.hok b ob e).stay (fun c w' hc q=>?_) (fun _ q=>q) fun _ _ q=>q
  show h'.get? c=_
  rw [same c ?_]
  .exact q
  rintro rfl
  rcases hc with rfl|hc
  .rw [hCn] at e;cases e
  .rw [hCn] at hc;cases hc
 have loop:∀ s5:Shared,s5={ s3 with heap:=h4,toks:=s3.toks+([]:List (Str×Value)).length } ->
   codeAny (model X.prog X.w) X.A (.compLoop (.ListComp elt [⟨.Name x px,iter,cs,0⟩] scope cpos) 0 (.ref it) (.ref D) (compEnvC scope cl C X.env)) (compPost (model X.prog X.w) X.A X.xe none (EP X pins σ Q) (.ref D) C) s5:=by
  rintro s5 rfl
  refine codeAny_loop rfl (fun n s'=>∃ i o H',Inv (cxC X scope cl C (x::fr) s3 H3 fp pins) [] (o::ix.map fun i=>(σ[i]?).getD none) H' s'/\tn i s'.heap/\(∀ b∈fp,H' b=none)/\W i n H') ?_ m0 ⟨0,none,H3,I4,st4,fun b hb=>(f3 b hb).1,w0⟩
  rintro n s6 ⟨i,o,H6,I6,st6,fr6,w6⟩
  show wpAny _ _ ((compTurn (.ListComp elt [⟨.Name x px,iter,cs,0⟩] scope cpos) 0 (.ref it) (.ref D) (compEnvC scope cl C X.env)).onRaise (fun x=>do noteFrame x (compEnvC scope cl C X.env);theTreesLotGoes x)) _ _ s6
  refine wpAny_noted ?_
  rw [compTurn_list]
  rcases turn i n H6 w6 with ⟨stop,qn⟩|⟨go,step⟩
  .refine wpAny_bind (wpAny_standAt (wpAny_bind (thn (T.done (cxC X scope cl C (x::fr) s3 H3 fp pins) rfl rfl rfl hc i [] s6 _ H6 _ I6 (stat fr6) st6 stop) fun r s7 ⟨hr,I7⟩=>?_)))
   subst hr
   exact wpAny_pure (fin I7 qn)
  .refine wpAny_bind (wpAny_standAt (wpAny_bind (thn (T.item (cxC X scope cl C (x::fr) s3 H3 fp pins) rfl rfl rfl hc i [] s6 _ H6 _ I6 (stat fr6) st6 go) fun r s7 ⟨u,hr,h7⟩=>?_)))
   subst hr
   refine wpAny_bind (thn h7 fun _ s8 ⟨y,H8,I8,r8,y8,st8,fr8⟩=>?_)
   have I8':=I8.pinned (stat fr8) (T.obj _ _ st8)
   have hx':Loc (cxC X scope cl C (x::fr) s3 H3 fp pins).env.scope x:=.inl (lookup_relabel_local hx)
   refine wpAny_bind (wpAny_mono (yjO (X:=cxC X scope cl C (x::fr) s3 H3 fp pins) (i:=0) (x:=x) (pos:=px) hnd rfl hx' (.inr (lookup_relabel_local hx)) _ s8 _ H8 y u (fun σ9 H9=>σ9=inner ix σ y/\H9=H8) I8' r8 ⟨rfl,rfl⟩) (fun _ s9 ⟨σ9,H9,I9,e9,e9'⟩=>?_) fun _ _ f=>f.elim)
   subst e9 e9'
   refine wpAny_bind (wpAny_mono (hq cl C s3 H3 fp pins _ s9 _ _ _ I9 (step y _ y8)) (fun kb s9b hkb=>?_) fun _ _ f=>f.elim)
   obtain ⟨H9b,I9b,q9b⟩:=hkb
   cases kb with
   | false =>
    rw [if_neg (by decide)] at q9b
    obtain ⟨m',hm',w10⟩:=q9b
    refine wpAny_pure ⟨rfl,m',hm',i+1,some y,_,I9b.unpinned,T.keep _ _ _ st8 fun b hb o e=>(I9b.pin (b,o) (mem_append_right _ (mem_append_right _ (ybJ hb e)))).1,fun b hb=>?_,w10⟩
    obtain ⟨o,e,d⟩:=T.obj _ _ st8 b hb
    exact (I9b.pin (b,o) (mem_append_right _ (mem_append_right _ (ybJ hb e)))).2.1
   | true =>
   rw [if_pos rfl] at q9b
   refine wpAny_bind (wpAny_bind (wpAny_mono (he cl C s3 H3 fp pins _ s9b _ _ _ I9b q9b) (fun v s10 ⟨z,H10,I10,r10,acc,a10,l10,m',hm',w10⟩=>?_) fun _ _ f=>f.elim))
   refine wpAny_bind (wpAny_mono (ydD (X:=cxC X scope cl C (x::fr) s3 H3 fp pins) _ s10 _ H10 (.ref D) [z] (.ref D) [v] (fun _ H11=>H11=upd H10 D (.lst (acc++[z]))) I10 rfl (.cons r10 .nil) ⟨D,acc,z,rfl,rfl,a10,l10,rfl⟩) (fun _ s11 ⟨_,H11,I11,_,e11⟩=>?_) fun _ _ f=>f.elim)
   subst e11
   refine wpAny_pure (wpAny_pure ⟨rfl,m',hm',i+1,some y,_,I11.unpinned,T.keep _ _ _ st8 fun b hb o e=>(I11.pin (b,o) (mem_append_right _ (mem_append_right _ (ybJ hb e)))).1,fun b hb=>?_,w10⟩)
   obtain ⟨o,e,d⟩:=T.obj _ _ st8 b hb
   exact (I11.pin (b,o) (mem_append_right _ (mem_append_right _ (ybJ hb e)))).2.1
 exact codeAny_compStart_list (loop _ rfl) (T.self X.A 0 _ _ _ st4 (loop _ rfl))
theorem yoD {y:Str}{py spos:Pos}{iy:Nat}{X:Cx}{elt iter:Expr}{cs:List Expr}{tc:TT}{x:Str}{px:Pos}{scope:Scope}{cpos:Pos}{wi:TI}{te:TE}(ix:List Nat) (fr:List Str) (hc:X.calm=true) (hi:PI X (.Name x px) iter wi) (hfr:FrOk X scope ix fr)
  (he:∀ (cl:List (Str×Addr)) (C:Addr) (s₃:Shared) (H₃:Hp) (fp:List Addr) (pins:List (Addr×Obj)),PE (cxC X scope cl C (x::fr) s₃ H₃ fp pins) elt te)
  (hq:∀ (cl:List (Str×Addr)) (C:Addr) (s₃:Shared) (H₃:Hp) (fp:List Addr) (pins:List (Addr×Obj)),PTs (cxC X scope cl C (x::fr) s₃ H₃ fp pins) cs tc)
  (hnd:(x::fr).Nodup) (hkind:scope.kind=.function) (hcell:∀ y∈scope.names,y.2≠.cell)
  (hnames:∀ y∈scope.names,y.2=.local->scope.names.lookup y.1=some .local) (hfree0:∀ y∈scope.names,y.2=.free->y.1∈fr) (hx:scope.names.lookup x=some .local)
  (hs:∀ v,foldedSetIterable iter X.env v=pure v)
  (hN:X.N.Nodup) (hyi:X.N[iy]?=some y) (hyx:Loc X.env.scope y) (hyf:X.fn y=true\/X.env.scope.names.lookup y=some .local) (hsw:swapsWith (.ListComp elt [⟨.Name x px,iter,cs,0⟩] scope cpos) (some (.Name y py)) spos.line X.env=pure true) :
  PS X (.Assign [.Name y py] (.ListComp elt [⟨.Name x px,iter,cs,0⟩] scope cpos) spos) (yvt (yjv wi ix tc te) (ypj iy)):=by
 intro pins s σ H D0 I h
 have hfn:X.env.scope.kind=.function:=I.ok.kind
 have hfree:∀ y∈scope.names,y.2=.free->X.env.kindOf y.1=some .cell/\scope.names.lookup y.1=some .free:=fun y hy e=>by
  obtain ⟨j,hj,ej⟩:=getElem_of_mem (hfree0 y hy e)
  obtain ⟨i,_,_,h3,h4⟩:=hfr.get (j:=j) (y:=y.1) (by rw [List.getElem?_eq_getElem hj,ej])
  exact ⟨h4,h3⟩
 obtain ⟨cl,ecl,hcl1,hcl2⟩:=ydQ (env:=X.env) scope.names [] fun n hn=>I.ok.has n (.inl (hfree _ hn rfl).1)
 have hclos:closureFor scope X.env=pure cl:=by
  unfold closureFor
  have:(forIn scope.names ([]:List (Str×Addr)) (fun (x:Str×NameKind) (r:List (Str×Addr))=>if (x.2 == NameKind.free)=true then do let c <- cellOf X.env x.1;pure (ForInStep.yield ((x.1,c)::r)) else pure (ForInStep.yield r)):Sem (List (Str×Addr)))=pure cl:=ecl
  first
   | exact (by simpa using congrArg (· >>= fun r=>pure r) this)
   | (rw [show (pure cl:Sem (List (Str×Addr)))=(pure cl >>= fun r=>pure r) from rfl,<- this];rfl)
 have hcle:∀ y c,cl.lookup y=some c->X.env.cells.lookup y=some c/\(y,NameKind.free)∈scope.names:=fun y c e=>by
  by_cases hy:(y,NameKind.free)∈scope.names
  .exact ⟨by rw [<- hcl1 y hy];exact e,hy⟩
  .rw [hcl2 y hy] at e;simp at e
 rw [exec_Assign_Name_used _ _ _ _ hsw]
 refine wpAny_bind (wpAny_standAt (wpAny_bind ?_))
 show wpAny _ X.A (do let _ <- comprehension (.ListComp elt [⟨.Name x px,iter,cs,0⟩] scope cpos) scope X.env _ (newList []) false (eval iter X.env) (some (assign (.Name y py) X.env))) _ _ s
 refine wpAny_bind (wpAny_mono (wpAny_comprehension_free (use:=some (assign (.Name y py) X.env)) (Q:=fun _ s'=>SP X pins D0 .next s') rfl hs hclos hkind hnames ?_) (fun _ s' hq=>wpAny_pure (wpAny_pure hq)) fun _ _ e=>e)
 refine thn (hi pins s σ H _ I h) fun v s1 h1=>thn h1 fun itv s2 h2=>?_
 obtain ⟨it,fp,tn,J,H2,e,I2,T,st2,f2,q2⟩:=h2
 subst e
 refine wpAny_newObj_type ?_
 generalize hs3:({ s2 with heap:=s2.heap.push { cls:=.type "list",dict:=none,data:=.seq ([]:List Value).toArray } }:Shared)=s3
 generalize hD:s2.heap.objs.size=D
 have hDn:H2 D=none:=by rw [<- hD];exact I2.hok.fresh (Nat.le_refl _)
 have I3:Inv X pins σ (upd H2 D (.lst [])) s3:=by
  rw [<- hs3,<- hD]
  exact I2.lnew (t':=s2.toks) (ys:=[]) (its:=[]) .nil (zero_le _)
 have k3:∀ b o,s2.heap.get? b=some o->s3.heap.get? b=some o:=fun b o e=>by rw [<- hs3];exact Heap.get?_push_of_some _ e
 have st3:tn 0 s3.heap:=T.keep _ _ _ st2 fun b _ o e=>k3 b o e
 have fne:∀ b∈fp,b≠D:=fun b hb=>by
  obtain ⟨o,e,_⟩:=T.obj _ _ st2 b hb
  rw [<- hD]
  exact ne_of_lt (Heap.lt_size e)
 have f3:∀ b∈fp,yqj X pins (upd H2 D (.lst [])) b:=fun b hb=>⟨by rw [yF (fne b hb)];exact (f2 b hb).1,(f2 b hb).2⟩
 have q3:=q2 D hDn
 generalize upd H2 D (.lst [])=H3 at I3 f3 q3
 obtain ⟨W,⟨m0,w0⟩,turn⟩:=q3
 refine wpAny_newFunctionEnv hcell (by intro y hy;simp at hy) (fun h4 hns hsb=>?_) hkind
 try dsimp only at hns hsb ⊢
 generalize hC:s3.heap.objs.size=C at hns hsb ⊢
 have k4:∀ b o,s3.heap.get? b=some o->h4.get? b=some o:=fun b o e=>(hsb.2 b (by rw [<- hC];exact ne_of_lt (Heap.lt_size e))).trans (Heap.get?_push_of_some _ e)
 have Cne:∀ b o,s3.heap.get? b=some o->b≠C:=fun b o e=>by rw [<- hC];exact ne_of_lt (Heap.lt_size e)
 have stk:=I3.stkSub
 have pinF:∀ p∈X.pn++pins,p.1∉frs X.stack:=fun p hp z=>by
  obtain ⟨_,_,n1,n2,_⟩:=I3.pin p hp
  rcases mem_cons.mp (stk _ z) with z|z
  .exact n1 z
  .exact n2 z
 have okC:(cxC X scope cl C (x::fr) s3 H3 fp pins).Ok:=by
  refine ⟨I3.ok.mod,by show (relabel scope X.env).kind=_;exact hkind,I3.ok.glob,I3.ok.blt,le_of_eq hC,fun y z c h1 h2=>I3.ok.inj y z c (hcle y c h1).1 (hcle z c h2).1,fun y hy=>?_,fun y c hf _=>(by cases hf),I3.ok.hd,I3.ok.frames,.inl rfl,fun b hb=>⟨?_,fun y c e z=>?_⟩,I3.bs,?_,fun b o e hb=>?_,fun b hb z=>?_,I3.stack,I3.stkFree⟩
  .have hy:((relabel scope X.env).names.lookup y=some .cell)\/((relabel scope X.env).names.lookup y=some .free):=hy
   rw [show (relabel scope X.env).names.lookup y=_ from yct y scope.names] at hy
   cases e:scope.names.lookup y with
   | none=>rw [e] at hy;simp at hy
   | some k =>
    have hm:(y,k)∈scope.names:=PySem.mem_of_lookup e
    have hkf:k=.free:=by
     rw [e] at hy
     cases k<;>simp at hy ⊢
     exact absurd rfl (hcell _ hm)
    subst hkf
    obtain ⟨c,hc'⟩:=I3.ok.has y (.inl (hfree _ hm rfl).1)
    exact ⟨c,by show cl.lookup y=_;rw [hcl1 y hm];exact hc'⟩
  .obtain ⟨o,e,_⟩:=T.obj _ _ st3 b hb
   exact Cne b o e
  .exact (f3 b hb).2.2.2.2.1 y c (hcle y c e).1 z
  .exact Nat.le_trans I3.ok.bsz I3.sz
  .rcases (f3 b hb).2.2.2.1 with z|z
   .exact I3.ok.noex b o e z
   .exact absurd (lt_of_lt_of_le (Heap.lt_size e) (Nat.le_trans I3.ok.bsz z)) (lt_irrefl _)
  .rcases mem_cons.mp (stk _ z) with z|z
   .exact (f3 b hb).2.1 z
   .exact (f3 b hb).2.2.1 z
 have inn:∀ v,(inner ix σ v)=some v::ix.map fun i=>(σ[i]?).getD none:=fun _=>rfl
 have I4:Inv (cxC X scope cl C (x::fr) s3 H3 fp pins) [] (none::ix.map fun i=>(σ[i]?).getD none) H3 { s3 with heap:=h4,toks:=s3.toks+([]:List (Str×Value)).length }:=by
  refine ⟨okC,rfl,I3.bare,Un.kept k4,⟨_,hns,fun j y v e1 e2 e3=>?_⟩,fun y c e=>?_,I3.hok.fresh (le_of_eq hC),fun y c e=>I3.freeC y c (hcle y c e).1,fun p hp=>?_,I3.hok.kept k4,?_⟩
  .match j,e1,e2 with
   | 0,e1,e2=>simp at e2
   | j+1,e1,e2 =>
    obtain ⟨i,hi1,hi2,hi3,hi4⟩:=hfr.get (j:=j) (y:=y) (by have e1':(x::fr)[j+1]?=some y:=e1;simpa using e1')
    have e2':σ[i]?=some (some v):=by
     have e2:(ix.map fun i=>(σ[i]?).getD none)[j]?=some (some v):=by simpa using e2
     rw [getElem?_map,hi1] at e2
     simp at e2
     cases z:σ[i]? with
     | none=>rw [z] at e2;simp at e2
     | some o=>rw [z] at e2;simp at e2;rw [e2]
    obtain ⟨m,_,hl⟩:=I3.loc
    obtain ⟨u,r,l⟩:=hl i y v hi2 e2' (.inr (.inl hi4))
    refine ⟨u,r,?_⟩
    rcases l with ⟨k,_⟩|⟨k,c,ec,z⟩
    .rw [hi4] at k;cases k
    .have hm:(y,NameKind.free)∈scope.names:=PySem.mem_of_lookup hi3
     refine .inr ⟨.inl ?_,c,by show cl.lookup y=_;rw [hcl1 y hm];exact ec,?_⟩
     .show (relabel scope X.env).names.lookup y=_
      rw [show (relabel scope X.env).names.lookup y=_ from yct y scope.names,hi3]
      simp [hfn,hi4]
     .obtain ⟨o,ho,hd⟩:=z
      exact ⟨o,k4 _ _ ho,hd⟩
  .obtain ⟨v,o,ho,hd⟩:=I3.cell y c (hcle y c e).1
   exact ⟨v,o,k4 _ _ ho,hd⟩
  .have hp:p∈X.pn++pins:=by simpa [cxC] using hp
   obtain ⟨e,n,ne,nf,d⟩:=I3.pin p hp
   exact ⟨k4 _ _ e,n,Cne _ _ e,pinF p hp,d⟩
  .show (none::ix.map fun i=>(σ[i]?).getD none).length=(x::fr).length
   rw [length_cons,length_cons,length_map,hfr.len]
 have st4:tn 0 h4:=T.keep _ _ _ st3 fun b _ o e=>k4 b o e
 have f4:∀ b∈fp,b≠C/\b∉frs X.stack/\(∀ y c,cl.lookup y=some c->c≠b)/\∀ p∈(X.pn++pins)++([]:List (Addr×Obj)),p.1≠b:=fun b hb=>by
  obtain ⟨o,e,_⟩:=T.obj _ _ st3 b hb
  refine ⟨Cne b o e,fun z=>?_,fun y c e=>(f3 b hb).2.2.2.2.1 y c (hcle y c e).1,fun p hp=>(f3 b hb).2.2.2.2.2 p (by simpa using hp)⟩
  rcases mem_cons.mp (stk _ z) with z|z
  .exact (f3 b hb).2.1 z
  .exact (f3 b hb).2.2.1 z
 have stat:∀ {H':Hp},(∀ b∈fp,H' b=none)->∀ b∈fp,yqj (cxC X scope cl C (x::fr) s3 H3 fp pins) [] H' b:=fun hn b hb=>⟨hn b hb,(f4 b hb).1,(f4 b hb).2.1,.inl hb,(f4 b hb).2.2.1,(f4 b hb).2.2.2⟩
 have fin:∀ {σ':St}{H':Hp}{s':Shared},Inv (cxC X scope cl C (x::fr) s3 H3 fp pins) [] σ' H' s'->ypj iy (.ref D) σ H' D0.nx->compPost (model X.prog X.w) X.A X.xe (some (assign (.Name y py) X.env)) (fun _ s'=>SP X pins D0 .next s') (.ref D) C (.ok .next) s':=fun {σ' H' s'} I' q'=>by
  obtain ⟨m,hn,_⟩:=I'.loc
  have hCn:H' C=none:=I'.free
  have U:=I'.base
  have U':Un (frs X.stack) fp H3 H' s3.heap s'.heap:=⟨U.keep,U.slot,U.free,U.there,U.tups,U.frzs,U.tbls⟩
  have IX:Inv X pins σ H' s':=I3.call' (s':=s') (by show s'.os=s3.os;exact I'.os) U' I'.hok I'.bare fun b hb=>⟨(f3 b hb).2.2.2.1,(f3 b hb).2.1,(f3 b hb).2.2.2.2.1,(f3 b hb).2.2.2.2.2⟩
  have hCf:yqj X pins H' C:=I3.fpOk (le_of_eq hC) hCn
  obtain ⟨o,es,ep,eo,r1,r2,r3⟩:=hn
  have IP:=IX.pinned (fp:=[C]) (fun b hb=>by have e:b=C:=(by simpa using hb);subst e;exact hCf) (fun b hb=>by have e:b=C:=(by simpa using hb);subst e;exact ⟨o,eo,fun v z=>by rw [r1] at z;cases z⟩)
  refine thn (yjO hN hyi hyx hyf _ s' σ H' (.ref D) (.ref D) D0.nx IP rfl q') fun _ s2 ⟨σ2,H2',I2',q2'⟩=>?_
  have pc:=I2'.pin (C,o) (mem_append_right _ (mem_append_right _ (ybJ (by simp) eo)))
  exact ⟨m,⟨o,es,ep,pc.1,r1,r2,r3⟩,fun h' sb=>⟨σ2,H2',I2'.unpinned.turned (t':=s2.toks) (fun b ob hb e=>(sb.2 b hb).trans e) pc.2.1 hCf.2.1 hCf.2.2.2.1 hCf.2.2.2.2.1 hCf.2.2.2.2.2,q2'⟩⟩
 have loop:∀ s5:Shared,s5={ s3 with heap:=h4,toks:=s3.toks+([]:List (Str×Value)).length } ->
   codeAny (model X.prog X.w) X.A (.compLoop (.ListComp elt [⟨.Name x px,iter,cs,0⟩] scope cpos) 0 (.ref it) (.ref D) (compEnvC scope cl C X.env)) (compPost (model X.prog X.w) X.A X.xe (some (assign (.Name y py) X.env)) (fun _ s'=>SP X pins D0 .next s') (.ref D) C) s5:=by
  rintro s5 rfl
  refine codeAny_loop rfl (fun n s'=>∃ i o H',Inv (cxC X scope cl C (x::fr) s3 H3 fp pins) [] (o::ix.map fun i=>(σ[i]?).getD none) H' s'/\tn i s'.heap/\(∀ b∈fp,H' b=none)/\W i n H') ?_ m0 ⟨0,none,H3,I4,st4,fun b hb=>(f3 b hb).1,w0⟩
  rintro n s6 ⟨i,o,H6,I6,st6,fr6,w6⟩
  show wpAny _ _ ((compTurn (.ListComp elt [⟨.Name x px,iter,cs,0⟩] scope cpos) 0 (.ref it) (.ref D) (compEnvC scope cl C X.env)).onRaise (fun x=>do noteFrame x (compEnvC scope cl C X.env);theTreesLotGoes x)) _ _ s6
  refine wpAny_noted ?_
  rw [compTurn_list]
  rcases turn i n H6 w6 with ⟨stop,qn⟩|⟨go,step⟩
  .refine wpAny_bind (wpAny_standAt (wpAny_bind (thn (T.done (cxC X scope cl C (x::fr) s3 H3 fp pins) rfl rfl rfl hc i [] s6 _ H6 _ I6 (stat fr6) st6 stop) fun r s7 ⟨hr,I7⟩=>?_)))
   subst hr
   exact wpAny_pure (fin I7 qn)
  .refine wpAny_bind (wpAny_standAt (wpAny_bind (thn (T.item (cxC X scope cl C (x::fr) s3 H3 fp pins) rfl rfl rfl hc i [] s6 _ H6 _ I6 (stat fr6) st6 go) fun r s7 ⟨u,hr,h7⟩=>?_)))
   subst hr
   refine wpAny_bind (thn h7 fun _ s8 ⟨y,H8,I8,r8,y8,st8,fr8⟩=>?_)
   have I8':=I8.pinned (stat fr8) (T.obj _ _ st8)
   have hx':Loc (cxC X scope cl C (x::fr) s3 H3 fp pins).env.scope x:=.inl (lookup_relabel_local hx)
   refine wpAny_bind (wpAny_mono (yjO (X:=cxC X scope cl C (x::fr) s3 H3 fp pins) (i:=0) (x:=x) (pos:=px) hnd rfl hx' (.inr (lookup_relabel_local hx)) _ s8 _ H8 y u (fun σ9 H9=>σ9=inner ix σ y/\H9=H8) I8' r8 ⟨rfl,rfl⟩) (fun _ s9 ⟨σ9,H9,I9,e9,e9'⟩=>?_) fun _ _ f=>f.elim)
   subst e9 e9'
   refine wpAny_bind (wpAny_mono (hq cl C s3 H3 fp pins _ s9 _ _ _ I9 (step y _ y8)) (fun kb s9b hkb=>?_) fun _ _ f=>f.elim)
   obtain ⟨H9b,I9b,q9b⟩:=hkb
   cases kb with
   | false =>
    rw [if_neg (by decide)] at q9b
    obtain ⟨m',hm',w10⟩:=q9b
    refine wpAny_pure ⟨rfl,m',hm',i+1,some y,_,I9b.unpinned,T.keep _ _ _ st8 fun b hb o e=>(I9b.pin (b,o) (mem_append_right _ (mem_append_right _ (ybJ hb e)))).1,fun b hb=>?_,w10⟩
    obtain ⟨o,e,d⟩:=T.obj _ _ st8 b hb
    exact (I9b.pin (b,o) (mem_append_right _ (mem_append_right _ (ybJ hb e)))).2.1
   | true =>
   rw [if_pos rfl] at q9b
   refine wpAny_bind (wpAny_bind (wpAny_mono (he cl C s3 H3 fp pins _ s9b _ _ _ I9b q9b) (fun v s10 ⟨z,H10,I10,r10,acc,a10,l10,m',hm',w10⟩=>?_) fun _ _ f=>f.elim))
   refine wpAny_bind (wpAny_mono (ydD (X:=cxC X scope cl C (x::fr) s3 H3 fp pins) _ s10 _ H10 (.ref D) [z] (.ref D) [v] (fun _ H11=>H11=upd H10 D (.lst (acc++[z]))) I10 rfl (.cons r10 .nil) ⟨D,acc,z,rfl,rfl,a10,l10,rfl⟩) (fun _ s11 ⟨_,H11,I11,_,e11⟩=>?_) fun _ _ f=>f.elim)
   subst e11
   refine wpAny_pure (wpAny_pure ⟨rfl,m',hm',i+1,some y,_,I11.unpinned,T.keep _ _ _ st8 fun b hb o e=>(I11.pin (b,o) (mem_append_right _ (mem_append_right _ (ybJ hb e)))).1,fun b hb=>?_,w10⟩)
   obtain ⟨o,e,d⟩:=T.obj _ _ st8 b hb
   exact (I11.pin (b,o) (mem_append_right _ (mem_append_right _ (ybJ hb e)))).2.1
 exact codeAny_compStart_list (loop _ rfl) (T.self X.A 0 _ _ _ st4 (loop _ rfl))
end L2
namespace PX
open PySem L2 PySem.Spec PyProof.Rows
section
variable (K:Ck)
noncomputable def cE (x:XE):TE:=fun σ H Q=>∃ (W0 W:Wd) (ρ:PSt) (y:PV) (h':AH),W.H=H/\Good K W0 W ρ σ/\x ρ W.h=some (y,h')/\∀ v W',W'.h=h'->Le K W W'->ycH K W' y v->Q v W'.H
def cO (x:XO):TE:=fun σ H Q=>∃ (W0 W:Wd) (ρ:PSt) (d:Nd) (h':AH),W.H=H/\Good K W0 W ρ σ/\x ρ W.h=some (d,h')/\∀ p W',W'.h=h'->Le K W W'->p∉W'.m->W.H p=none->d≠.dead->NdAt K W'.F W'.H W'.m d p->Q (.ref p) W'.H
noncomputable def cT (x:XT):TT:=fun σ H Q=>∃ (W0 W:Wd) (ρ:PSt) (y:Bool) (h':AH),W.H=H/\Good K W0 W ρ σ/\x ρ W.h=some (y,h')/\∀ W',W'.h=h'->Le K W W'->Q y W'.H
noncomputable def cA (x:XA):TA:=fun σ H Q=>∃ (W0 W:Wd) (ρ:PSt) (y:List PV) (h':AH),W.H=H/\Good K W0 W ρ σ/\x ρ W.h=some (y,h')/\∀ v W',W'.h=h'->Le K W W'->ycI K W' y v->Q v W'.H
noncomputable def cP (x:PSt->AH->Option (Option Int×AH)):TO:=fun σ H Q=>∃ (W0 W:Wd) (ρ:PSt) (y:Option Int) (h':AH),W.H=H/\Good K W0 W ρ σ/\x ρ W.h=some (y,h')/\∀ W',W'.h=h'->Le K W W'->Q y W'.H
noncomputable def cI (x:XA):TI:=fun σ H R=>∃ (W0 W:Wd) (ρ:PSt) (y:List PV) (h':AH),W.H=H/\Good K W0 W ρ σ/\x ρ W.h=some (y,h')/\∀ J W',W'.h=h'->Le K W W'->yCW K W' J y->R J W'.H
noncomputable def cG (y:XG):TG:=fun v σ H Q=>∃ (W0 W:Wd) (ρ ρ':PSt) (x:PV),W.H=H/\Good K W0 W ρ σ/\ycH K W x v/\y x ρ=some ρ'/\∀ σ',Good K W0 W ρ' σ'->Q σ' W.H
def cS (s:XS):TS:=fun D σ H=>∃ (W0 W:Wd) (ρ:PSt) (o:Out) (h':AH),W.H=H/\Good K W0 W ρ σ/\s ρ W.h=some (o,h')/\Ends.Ok K W0 W D h' o
noncomputable def cF (s:XS):TS:=fun D σ H=>∃ (W0 W:Wd) (ρ ρ':PSt) (h':AH),W.H=H/\Good K W0 W ρ σ/\s ρ W.h=some (.nx ρ',h')/\∀ W',W'.h=h'->Lf K W W'->Good K W0 W' ρ' σ->D.nx σ W'.H
end
section
variable {K:Ck}
theorem sE {x:XE}:ybN K (cE K x) x:=fun W0 W ρ σ Q y h' g e q=>⟨W0,W,ρ,y,h',rfl,g,e,q⟩
theorem sO {x:XO}:ylF K (cO K x) x:=fun W0 W ρ σ Q y h' g e q=>⟨W0,W,ρ,y,h',rfl,g,e,q⟩
theorem sT {x:XT}:ylE K (cT K x) x:=fun W0 W ρ σ Q y h' g e q=>⟨W0,W,ρ,y,h',rfl,g,e,q⟩
theorem sA {x:XA}:ymq K (cA K x) x:=fun W0 W ρ σ Q y h' g e q=>⟨W0,W,ρ,y,h',rfl,g,e,q⟩
theorem sP {x}:yzW K (cP K x) x:=fun W0 W ρ σ Q y h' g e q=>⟨W0,W,ρ,y,h',rfl,g,e,q⟩
theorem sI {x:XA}:yvK K (cI K x) x:=fun W0 W ρ σ Q y h' g e q=>⟨W0,W,ρ,y,h',rfl,g,e,q⟩
theorem sG {y:XG}:yvJ K (cG K y) y:=fun W0 W ρ ρ' σ x v Q g r e q=>⟨W0,W,ρ,ρ',x,rfl,g,r,e,q⟩
theorem sS {s:XS}:yfB K (cS K s) s:=fun W0 W ρ σ D o h' g e q=>⟨W0,W,ρ,o,h',rfl,g,e,q⟩
theorem sF {s:XS}:ysR K (cF K s) s:=fun W0 W ρ ρ' σ D h' g e q=>⟨W0,W,ρ,ρ',h',rfl,g,e,q⟩
end
abbrev ckX (X:Cx) (A:Nat->Addr):Ck:=⟨X.K,A⟩
structure ZE (X:Cx) (A:Nat->Addr) (e:Expr) (x:XE):Prop where of:PE X e (cE (ckX X A) x)
structure ZO (X:Cx) (A:Nat->Addr) (e:Expr) (x:XO):Prop where of:PE X e (cO (ckX X A) x)
structure ZT (X:Cx) (A:Nat->Addr) (e:Expr) (x:XT):Prop where of:PT X e (cT (ckX X A) x)
structure ZW (X:Cx) (A:Nat->Addr) (e:Expr) (x:XT):Prop where of:PW X e (cT (ckX X A) x)
structure ZA (X:Cx) (A:Nat->Addr) (e:List Expr) (n:Nat) (x:XA):Prop where
 of:PA X e (cA (ckX X A) x)
 len:∀ ρ h xs h',x ρ h=some (xs,h')->xs.length=n
structure ZP (X:Cx) (A:Nat->Addr) (e:Option Expr) (x:PSt->AH->Option (Option Int×AH)):Prop where of:PO X e (cP (ckX X A) x)
structure ZI (X:Cx) (A:Nat->Addr) (tg e:Expr) (x:XA):Prop where of:PI X tg e (cI (ckX X A) x)
structure ZG (X:Cx) (A:Nat->Addr) (e:Expr) (y:XG):Prop where of:PG X e (cG (ckX X A) y)
structure ZS (X:Cx) (A:Nat->Addr) (e:Stmt) (s:XS):Prop where of:PS X e (cS (ckX X A) s)
structure ZSs (X:Cx) (A:Nat->Addr) (e:List Stmt) (s:XS):Prop where of:PSs X e (cS (ckX X A) s)
structure ZF (X:Cx) (A:Nat->Addr) (e:Stmt) (s:XS):Prop where of:PS X e (cF (ckX X A) s)
structure ZFs (X:Cx) (A:Nat->Addr) (e:List Stmt) (s:XS):Prop where of:PSs X e (cF (ckX X A) s)
section
variable {X:Cx}{A:Nat->Addr}{e:Expr}{es:List Expr}
theorem wE {t:TE}{x:XE}(p:PE X e t) (s:ybN (ckX X A) t x):ZE X A e x:=⟨fun pins st σ H Q I ⟨W0,W,ρ,y,h',eh,g,ex,q⟩=>by subst eh;exact p pins st σ _ Q I (s W0 W ρ σ Q y h' g ex q)⟩
theorem wO {t:TE}{x:XO}(p:PE X e t) (s:ylF (ckX X A) t x):ZO X A e x:=⟨fun pins st σ H Q I ⟨W0,W,ρ,y,h',eh,g,ex,q⟩=>by subst eh;exact p pins st σ _ Q I (s W0 W ρ σ Q y h' g ex q)⟩
theorem wT {t:TT}{x:XT}(p:PT X e t) (s:ylE (ckX X A) t x):ZT X A e x:=⟨fun pins st σ H Q I ⟨W0,W,ρ,y,h',eh,g,ex,q⟩=>by subst eh;exact p pins st σ _ Q I (s W0 W ρ σ Q y h' g ex q)⟩
theorem wW {t:TT}{x:XT}(p:PW X e t) (s:ylE (ckX X A) t x):ZW X A e x:=⟨fun wh pins st σ H Q I ⟨W0,W,ρ,y,h',eh,g,ex,q⟩=>by subst eh;exact p wh pins st σ _ Q I (s W0 W ρ σ Q y h' g ex q)⟩
theorem wA {t:TA}{x:XA}{n:Nat}(p:PA X es t) (s:ymq (ckX X A) t x) (l:∀ ρ h xs h',x ρ h=some (xs,h')->xs.length=n):ZA X A es n x:=⟨fun pos pins st σ H Q I ⟨W0,W,ρ,y,h',eh,g,ex,q⟩=>by subst eh;exact p pos pins st σ _ Q I (s W0 W ρ σ Q y h' g ex q),l⟩
theorem wP {o:Option Expr}{t:TO}{x} (p:PO X o t) (s:yzW (ckX X A) t x):ZP X A o x:=⟨fun pins st σ H Q I ⟨W0,W,ρ,y,h',eh,g,ex,q⟩=>by subst eh;exact p pins st σ _ Q I (s W0 W ρ σ Q y h' g ex q)⟩
theorem wI {tg:Expr}{t:TI}{x:XA}(p:PI X tg e t) (s:yvK (ckX X A) t x):ZI X A tg e x:=⟨fun pins st σ H Q I ⟨W0,W,ρ,y,h',eh,g,ex,q⟩=>by subst eh;exact p pins st σ _ Q I (s W0 W ρ σ Q y h' g ex q)⟩
theorem wG {t:TG}{y:XG}(p:PG X e t) (s:yvJ (ckX X A) t y):ZG X A e y:=⟨fun pins st σ H v u Q I rv ⟨W0,W,ρ,ρ',x,eh,g,r,ex,q⟩=>by subst eh;exact p pins st σ _ v u Q I rv (s W0 W ρ ρ' σ x v Q g r ex q)⟩
theorem wS {st:Stmt}{t:TS}{x:XS}(p:PS X st t) (s:yfB (ckX X A) t x):ZS X A st x:=⟨fun pins st σ H D I ⟨W0,W,ρ,o,h',eh,g,ex,q⟩=>by subst eh;exact p pins st σ _ D I (s W0 W ρ σ D o h' g ex q)⟩
theorem wSs {st:List Stmt}{t:TS}{x:XS}(p:PSs X st t) (s:yfB (ckX X A) t x):ZSs X A st x:=⟨fun pins st σ H D I ⟨W0,W,ρ,o,h',eh,g,ex,q⟩=>by subst eh;exact p pins st σ _ D I (s W0 W ρ σ D o h' g ex q)⟩
theorem wF {st:Stmt}{t:TS}{x:XS}(p:PS X st t) (s:ysR (ckX X A) t x):ZF X A st x:=⟨fun pins st σ H D I ⟨W0,W,ρ,ρ',h',eh,g,ex,q⟩=>by subst eh;exact p pins st σ _ D I (s W0 W ρ ρ' σ D h' g ex q)⟩
theorem wFs {st:List Stmt}{t:TS}{x:XS}(p:PSs X st t) (s:ysR (ckX X A) t x):ZFs X A st x:=⟨fun pins st σ H D I ⟨W0,W,ρ,ρ',h',eh,g,ex,q⟩=>by subst eh;exact p pins st σ _ D I (s W0 W ρ ρ' σ D h' g ex q)⟩
end
structure Nm (x:Str):Prop where
 d:(x == ("__debug__":Str))=false
 c:(x == ("__classdict__":Str))=false
 n:x≠"__name__"
section
variable {X:Cx}{A:Nat->Addr}{a b c o:Expr}{es:List Expr}{xa xb xc:XE}{xo:XO}{aa:XA}{pos p apos:Pos}{x:Str}{n k:Nat}
theorem yfy {j}:ZE X A (.Constant .none j pos) (xC .non):=wE yzl ywS
theorem ysS {b j}:ZE X A (.Constant (.bool b) j pos) (xC (.bl b)):=wE yCu yzQ
theorem yj {i j}:ZE X A (.Constant (.int i) j pos) (xC (.int i)):=wE yzk yqO
theorem yz {x j}:ZE X A (.Constant (.str x) j pos) (xC (.str x)):=wE yzm yqP
theorem z_v {i:Nat}(m:Nm x:=by exact ⟨by rfl',by rfl',by rfl'⟩) (hN:X.N[i]?=some x:=by rfl) (hv:Vis X.env.scope x:=by first|exact Or.inl rfl|exact Or.inr (Or.inl rfl)):ZE X A (.Name x pos) (yf i):=wE (yjk hN hv m.d m.c) (ywR i)
theorem yic {n:Int}{t:Tok}(hm:X.mg x=some (.int n t)) (m:Nm x:=by exact ⟨by rfl',by rfl',by rfl'⟩) (hg:Gl X x:=by rfl):ZE X A (.Name x pos) (xC (.int n)):=wE (ywN hg hm m.d) yqO
theorem ylU {n:Str}{t:Tok}(hm:X.mg x=some (.str n t)) (m:Nm x:=by exact ⟨by rfl',by rfl',by rfl'⟩) (hg:Gl X x:=by rfl):ZE X A (.Name x pos) (xC (.str n)):=wE (ywO hg hm m.d) yqP
theorem yeN {k:Nat}(hm:X.mg x=some (.ref (A k))) (m:Nm x:=by exact ⟨by rfl',by rfl',by rfl'⟩) (hg:Gl X x:=by rfl):ZE X A (.Name x pos) (xC (.cls k)):=wE (yqL hg hm m.d) (ywT (K:=ckX X A))
theorem yAM {n:String}(hm:X.mg x=none) (m:Nm x:=by exact ⟨by rfl',by rfl',by rfl'⟩) (hg:Gl X x:=by rfl) (hv:bootBuiltins x=some (.type n):=by rfl'):ZE X A (.Name x pos) (xC (.ty n)):=wE (yzO hg hm hv m.n m.d) yzR
theorem ycu (h:ZO X A a xo):ZE X A a (xFz xo):=wE h.of (yvG sO)
theorem yei (h:ZO X A a xo):ZE X A a (ygd xo):=wE h.of (yqS sO)
theorem ybW {op:Operator}{r:R2}{q:P2}(ho:OpR X (binaryOp op) r) (hq:ybZ (ckX X A) r q) (ha:ZE X A a xa) (hb:ZE X A b xb):ZE X A (.BinOp a op b pos) (xOp q xa xb):=wE (yzC ho ha.of hb.of) (yoe hq sE sE)
theorem ynm {op:Operator}{r:R2}{q:P2O}(ho:OpR X (binaryOp op) r) (hq:yod (ckX X A) r q) (ha:ZE X A a xa) (hb:ZE X A b xb):ZO X A (.BinOp a op b pos) (yqM q xa xb):=wO (yzC ho ha.of hb.of) (ywU hq sE sE)
theorem yDX {op:UnaryOp}{r} {q} (ho:UnR X (unaryOp op) r) (hq:ywQ (ckX X A) r q) (ha:ZE X A a xa):ZE X A (.UnaryOp op a pos) (xUn q xa):=wE (yCB ho ha.of) (yzS hq sE)
theorem yDY (ha:ZE X A a xa):ZE X A (.UnaryOp .Not a pos) (ywP xa):=wE (yzw ha.of) (ytA sE)
theorem yfz {op:CmpOp}{r:R2}{q:P2}(ho:OpR X (compareOp op) r) (hq:ybZ (ckX X A) r q) (ha:ZE X A a xa) (hb:ZE X A b xb) (hm:behindInMarks op b=false:=by first|exact yla _|with_unfolding_all rfl):ZE X A (.Compare a [op] [b] pos) (xOp q xa xb):=wE (ywy ho ha.of hb.of hm) (yoe hq sE sE)
theorem yrD {op op':CmpOp}{r r':R2}{q q':P2}(ho:OpR X (compareOp op) r) (ho':OpR X (compareOp op') r') (hq:ybZ (ckX X A) r q) (hq':ybZ (ckX X A) r' q') (ha:ZE X A a xa) (hb:ZE X A b xb) (hc:ZE X A c xc) (hm:lastMarks [op,op'] [b,c]=false:=by first|exact yla _|with_unfolding_all rfl):ZE X A (.Compare a [op,op'] [b,c] pos) (yfC q q' xa xb xc):=wE (yth ho ho' ha.of hb.of hc.of hm) (ylG hq hq' sE sE sE)
theorem ynn {op} (h:ZE X A a xa):ZE X A (.BoolOp op [a] pos) xa:=⟨yzu h.of⟩
theorem yno (ha:ZE X A a xa) (hb:ZE X A (.BoolOp .And (b::es) pos) xb):ZE X A (.BoolOp .And (a::b::es) pos) (yiX xa xb):=wE (yzv ha.of hb.of) (ytz sE sE)
section
variable {ca cb:XT}
theorem yxP (hc:ZT X A c ca) (ha:ZE X A a xa) (hb:ZE X A b xb):ZE X A (.IfExp c a b pos) (xIf ca xa xb):=wE (ytb hc.of ha.of hb.of) (yzV sT sE sE)
theorem yu {op:CmpOp}{r:R2}{q:P2}(ho:OpR X (compareOp op) r) (hq:ybZ (ckX X A) r q) (ha:ZE X A a xa) (hb:ZE X A b xb) (hm:behindInMarks op b=false:=by first|exact yla _|with_unfolding_all rfl):ZT X A (.Compare a [op] [b] pos) (yp (xOp q xa xb)):=wT (ywA ho ha.of hb.of hm) (yhC (yoe hq sE sE))
theorem yhE {op op':CmpOp}{r r':R2}{q q':P2}(ho:OpR X (compareOp op) r) (ho':OpR X (compareOp op') r') (hq:ybZ (ckX X A) r q) (hq':ybZ (ckX X A) r' q') (ha:ZE X A a xa) (hb:ZE X A b xb) (hc:ZE X A c xc) (hm:lastMarks [op,op'] [b,c]=false:=by first|exact yla _|with_unfolding_all rfl):ZT X A (.Compare a [op,op'] [b,c] pos) (yp (yfC q q' xa xb xc)):=wT (yti ho ho' ha.of hb.of hc.of hm) (yhC (ylG hq hq' sE sE sE))
theorem ydF (ha:ZT X A a ca):ZT X A (.UnaryOp .Not a pos) (yjZ ca):=wT (yzr ha.of) (ywW sT)
theorem ybM (h:ZE X A a xa) (he:∀ whole,isTrue a X.env whole=(do let v <- whole;standAt a.pos;holding [v] (truthy v)):=by exact fun _=>rfl):ZT X A a (yp xa):=wT (yzo h.of he) (yzT sE)
theorem yoE (h:ZW X A a ca):ZT X A a ca:=⟨PW.pt h.of⟩
theorem yoF (ha:ZT X A a ca) (hb:ZW X A (.BoolOp .And (b::es) pos) cb):ZW X A (.BoolOp .And (a::b::es) pos) (yvF ca cb):=wW (yzq ha.of hb.of) (ywV sT sT)
theorem ygU (ha:ZT X A a ca) (hb:ZW X A (.BoolOp .Or (b::es) pos) cb):ZW X A (.BoolOp .Or (a::b::es) pos) (xOr ca cb):=wW (yCw ha.of hb.of) (yzU sT sT)
theorem ykv (ha:ZT X A a ca):ZW X A (.BoolOp .And [a] pos) ca:=⟨yww ha.of⟩
theorem yfG (ha:ZT X A a ca):ZW X A (.BoolOp .Or [a] pos) ca:=⟨yzp ha.of⟩
end
theorem yd:ZA X A [] 0 yi:=wA yjo ykc ymX
theorem ya (ha:ZE X A a xa) (hr:ZA X A es n aa) (hs:starEach (a::es) X.env=(false,eval a X.env)::starEach es X.env:=by rfl):ZA X A (a::es) (n+1) (yc xa aa):=wA (yfL ha.of hr.of hs) (ytB sE sA) (ytE hr.len)
theorem ycb (h:ZA X A es n aa):ZO X A (.List es pos) (ydY aa):=wO (yzF h.of) (ywZ sA)
theorem ycc {q} (h:ZA X A es n aa):ZE X A (.Tuple es q pos) (yeg aa):=wE (yzE h.of) (ywY sA)
theorem yrE (h:ZE X A a xa):ZP X A (some a) (ymV xa):=wP (ywH h.of) (ytF sE)
section
variable {lo hi:Option Expr}{xl xh:PSt->AH->Option (Option Int×AH)}{p2:Pos}
theorem yDZ {r} {q} (hr:SlR X r) (hq:yqT (ckX X A) r q) (ha:ZE X A a xa) (hl:ZP X A lo xl) (hh:ZP X A hi xh):ZO X A (.Subscript a (.Slice lo hi none p2) pos) (yzP q xa xl xh):=wO (ytr hr ha.of hl.of hh.of) (yxc hq sE sP sP)
end
theorem ybo {r:R2}{q:P2}(hr:IxR X r) (hq:ybZ (ckX X A) r q) (ha:ZE X A a xa) (hb:ZE X A b xb) (hs:yqC b:=by exact fun _ _=>rfl):ZE X A (.Subscript a b pos) (xOp q xa xb):=wE (yCG hr ha.of hb.of hs) (yoe hq sE sE)
theorem yw {cs:List Nat}{f:Str}(hc:∀ k∈cs,Cls X.K (A k)/\NoAttr X.K (A k) f) (ha:ZE X A a xa) (hb:attributeBase a f X.env (eval a X.env)=eval a X.env:=by rfl):ZE X A (.Attribute a f pos) (ybb cs f xa):=wE (yzD ha.of hb) (yxr (K:=ckX X A) hc sE)
section
variable {f C:Addr}{fd:FuncData}{ps:List Str}{lv:Nat}{fn:Fn}
theorem yR (F:FnOk X.prog X.w X.K X.mg X.base CX0 lv f fd ps (spE (ckX X A) (n+1) fn)) (hm:X.mg x=some (.ref f)) (hk:keepIn X.K (.ref f)=true) (hb:Binds X.K fd ps []) (ha:ZA X A (a::es) (n+1) aa) (hr:Room lv X.A:=by exact hr.mono (by omega)) (m:Nm x:=by exact ⟨by rfl',by rfl',by rfl'⟩) (hg:Gl X x:=by rfl) (he:starEach (a::es) X.env=(false,eval a X.env)::starEach es X.env:=by rfl) (hpl:(backTo pos (starEach es X.env)).any (·.1)=false:=by rfl):ZE X A (.Call (.Name x p) (a::es) [] pos) (ybg fn aa) :=
 wE (ywF F hr hg hm hk hb .nil ylk ha.of m.d he hpl) (ytD sA ha.len)
theorem yhg {k:Nat}{fi} (M:Mk X.K (A k) f) (F:FnOk X.prog X.w X.K X.mg X.base CX0 lv f fd ps (spI (ckX X A) (n+1) k fi)) (hm:X.mg x=some (.ref (A k))) (hb:Binds X.K fd ps []) (ha:ZA X A (a::es) (n+1) aa) (hr:Room (lv+1) X.A:=by exact hr.mono (by omega)) (m:Nm x:=by exact ⟨by rfl',by rfl',by rfl'⟩) (hg:Gl X x:=by rfl) (he:starEach (a::es) X.env=(false,eval a X.env)::starEach es X.env:=by rfl) (hpl:(backTo pos (starEach es X.env)).any (·.1)=false:=by rfl):ZO X A (.Call (.Name x p) (a::es) [] pos) (ygR fi aa) :=
 wO (yqz M F hr hg hm hb .nil ylk ha.of m.d he hpl) (yol (K:=ckX X A) (k:=k) sA ha.len)
theorem yxQ {k:Nat}(hm:makesIn X.K (A k)=true) (hi:findIn X.K (.ref (A k)) "__init__" = some (some (.builtin "object.__init__"))) (hk:keepIn X.K (.ref (A k))=true) (hmg:X.mg x=some (.ref (A k))) (m:Nm x:=by exact ⟨by rfl',by rfl',by rfl'⟩) (hg:Gl X x:=by rfl):ZO X A (.Call (.Name x p) [] [] pos) (yom k) :=
 wO (ytv hm hi hk hg hmg m.d) (yre (K:=ckX X A))
theorem yrF {m:Str}{fm:Nat->Fn}{pl:Sem Bool}(he:ZE X A o xa) (G:ymL X.prog X.w X.K X.mg X.base lv A m (fun k=>spE (ckX X A) 1 (fm k))) (hr:Room lv X.A:=by exact hr.mono (by omega)) (ht:eval (.Call (.Attribute o m apos) [] [] pos) X.env=(do
   let ov <- eval o X.env
   standAt apos.atName
   let (f,first) <- holding [ov] (getMethod ov m pl)
   callWith pos f first (backTo pos (starEach [] X.env)) (backToKw pos (keywordEach [] X.env))):=by rfl):ZE X A (.Call (.Attribute o m apos) [] [] pos) (yiZ m fm xa) :=
 wE (yqK he.of G hr ht) (ytU (K:=ckX X A) sE)
end
theorem yeu {id:String}{r} {q} (hc:yfK X (.builtin id) r) (hq:yhN (ckX X A) r q) (hm:X.mg x=none) (ha:ZA X A (a::es) n aa) (m:Nm x:=by exact ⟨by rfl',by rfl',by rfl'⟩) (hg:Gl X x:=by rfl) (hv:bootBuiltins x=some (.builtin id):=by rfl') (he:starEach (a::es) X.env=(false,eval a X.env)::starEach es X.env:=by rfl) (hpl:(backTo pos (starEach es X.env)).any (·.1)=false:=by rfl):ZE X A (.Call (.Name x p) (a::es) [] pos) (xCB q aa) :=
 wE (yjR hc hg hm hv ha.of m.n m.d he hpl) (yvH hq sA)
theorem ypE {T:String}{r} {q} (hc:yfK X (.type T) r) (hq:yhN (ckX X A) r q) (hm:X.mg x=none) (ha:ZA X A (a::es) n aa) (m:Nm x:=by exact ⟨by rfl',by rfl',by rfl'⟩) (hg:Gl X x:=by rfl) (hv:bootBuiltins x=some (.type T):=by rfl') (he:starEach (a::es) X.env=(false,eval a X.env)::starEach es X.env:=by rfl) (hpl:(backTo pos (starEach es X.env)).any (·.1)=false:=by rfl):ZE X A (.Call (.Name x p) (a::es) [] pos) (xCB q aa) :=
 wE (ylh hc hg hm hv ha.of m.n m.d he hpl) (yvH hq sA)
theorem ycK {T:String}{r} {q} (hc:yfK X (.type T) r) (hq:yqN (ckX X A) r q) (hm:X.mg x=none) (ha:ZA X A (a::es) n aa) (m:Nm x:=by exact ⟨by rfl',by rfl',by rfl'⟩) (hg:Gl X x:=by rfl) (hv:bootBuiltins x=some (.type T):=by rfl') (he:starEach (a::es) X.env=(false,eval a X.env)::starEach es X.env:=by rfl) (hpl:(backTo pos (starEach es X.env)).any (·.1)=false:=by rfl):ZO X A (.Call (.Name x p) (a::es) [] pos) (yiU q aa) :=
 wO (ylh hc hg hm hv ha.of m.n m.d he hpl) (yxa hq sA)
section
variable {name:Str}{cpos:Pos}{T id:String}{r:V->List V->Hp->VK->Prop}{cc:PV->AH->Bool}{q:PM}
theorem yxR (pa:PlainAttrs T) (slot:Slot T name id) (hty:typeOf (.builtin id)=pure (.type "method_descriptor")) (hm:MtR X id r) (hq:yka (ckX X A) T cc r q) (ho:ZE X A o xa) (ha:ZA X A (a::es) n aa) (hbase:attributeBase o name X.env (eval o X.env)=eval o X.env:=by rfl) (hfew:((backTo cpos (starEach (a::es) X.env)).all (fun x=>!x.1) && (backToKw cpos (keywordEach [] X.env)).all (fun x=>x.1.isSome)
   && decide ((a::es).length+([]:List Keyword).length+(if ([]:List Keyword).isEmpty then 0 else 1)<30))=true:=by rfl) (hline:(apos.endLine == cpos.line)=true:=by rfl) (hs:starEach (a::es) X.env=(false,eval a X.env)::starEach es X.env:=by rfl) (hplain:(backTo cpos (starEach es X.env)).any (·.1)=false:=by rfl) :
  ZE X A (.Call (.Attribute o name apos) (a::es) [] cpos) (xBM cc q xa aa):=wE (ywJ pa slot hty hm ho.of ha.of hbase hfew hline hs hplain) (yvI (K:=ckX X A) hq sE sA)
theorem yuu (pa:PlainAttrs T) (slot:Slot T name id) (hty:typeOf (.builtin id)=pure (.type "method_descriptor")) (hm:MtR X id r) (hq:yka (ckX X A) T cc r q) (ho:ZE X A o xa) (hbase:attributeBase o name X.env (eval o X.env)=eval o X.env:=by rfl) (hline:(apos.endLine == cpos.line)=true:=by rfl) :
  ZE X A (.Call (.Attribute o name apos) [] [] cpos) (xBM cc q xa yi):=wE (yvC pa slot hty hm ho.of hbase hline) (yxb (K:=ckX X A) hq sE)
theorem ywb {i:Nat}(ha:ZE X A a xa) (ho:PE X o (ypW i):=by exact yjk rfl (by first|exact Or.inl rfl|exact Or.inr (Or.inl rfl)) (by rfl') (by rfl')) (hbase:attributeBase o "append" X.env (eval o X.env)=eval o X.env:=by rfl) (hfew:((backTo cpos (starEach [a] X.env)).all (fun x=>!x.1) && (backToKw cpos (keywordEach [] X.env)).all (fun x=>x.1.isSome)
   && decide ([a].length+([]:List Keyword).length+(if ([]:List Keyword).isEmpty then 0 else 1)<30))=true:=by rfl) (hline:(apos.endLine == cpos.line)=true:=by rfl) (hs:starEach [a] X.env=(false,eval a X.env)::starEach [] X.env:=by rfl) (hplain:(backTo cpos (starEach [] X.env)).any (·.1)=false:=by rfl) (hsw:swapsWith (.Call (.Attribute o "append" apos) [a] [] cpos) none pos.line X.env=pure false:=by rfl) :
  ZS X A (.Expr (.Call (.Attribute o "append" apos) [a] [] cpos) pos) (ykd i xa) :=
 wS (yjN (ywJ plainAttrs_list PySem.F.slot_list_append PySem.F.type_list_append ydD ho (yfL ha.of yjo hs) hbase hfew hline hs hplain) hsw) (ytJ (K:=ckX X A) i sE)
end
section
variable {tg:Expr}
theorem yfQ (h:ZE X A a xa):ZI X A tg a (xIL xa):=wI (ymA h.of) (yqX (K:=ckX X A) sE)
theorem yAN (h:ZE X A a xa):ZI X A tg a (xIS xa):=wI (yzN h.of) (ytK sE)
theorem ygV (hm:X.mg "range" = none) (ha:ZA X A [a] n aa) (hg:Gl X "range":=by rfl) (hs:starEach [a] X.env=[(false,eval a X.env)]:=by rfl):ZI X A tg (.Call (.Name "range" p) [a] [] pos) (ylH aa):=wI (yqm hg hm ha.of hs) (yqY sA)
end
theorem yex {i:Nat}(hN:X.N.Nodup:=by exact nd) (hi:X.N[i]?=some x:=by rfl) (hx:Loc X.env.scope x:=by first|exact Or.inl rfl|exact Or.inr rfl) (hf:X.fn x=true\/X.env.scope.names.lookup x=some .local:=by exact Or.inl rfl):ZG X A (.Name x pos) (yq i):=wG (yjO hN hi hx hf) (ygi i)
theorem yoG {elt iter:Expr}{px:Pos}{scope:Scope}{cpos:Pos}{it:XA}{xe:XE}{ix:List Nat}(fr:List Str) (hi:ZI X A (.Name x px) iter it) (he:∀ (cl:List (Str×Addr)) (C:Addr) (s₃:Shared) (H₃:Hp) (fp:List Addr) (pins:List (Addr×Obj)),ZE (cxC X scope cl C (x::fr) s₃ H₃ fp pins) A elt xe) (hc:X.calm=true:=by rfl) (hfr:FrOk X scope ix fr:=by repeat' first|exact True.intro|exact rfl|refine And.intro ?_ ?_) (hnd:(x::fr).Nodup:=by rfl') (hkind:scope.kind=.function:=by rfl) (hcell:∀ y∈scope.names,y.2≠.cell:=by rfl') (hnames:∀ y∈scope.names,y.2=.local->scope.names.lookup y.1=some .local:=by rfl') (hfree0:∀ y∈scope.names,y.2=.free->y.1∈fr:=by rfl') (hx:scope.names.lookup x=some .local:=by rfl) (hs:∀ v,foldedSetIterable iter X.env v=pure v:=by exact fun _=>rfl):ZO X A (.ListComp elt [⟨.Name x px,iter,[],0⟩] scope cpos) (yiY it ix xe) :=
 wO (yxO (yhD ix fr hc hi.of hfr (te:=cE (ckX X A) xe) (fun cl C s₃ H₃ fp pins=>(he cl C s₃ H₃ fp pins).of) (fun _ _ _ _ _ _=>yku) hnd hkind hcell hnames hfree0 hx hs)) (yof (K:=ckX X A) ix sI sE)
section
variable {st:Stmt}{rest:List Stmt}{s u:XS}
theorem yk (h:ZE X A a xa):ZS X A (.Return (some a) pos) (yP xa):=wS (yzy h.of) (yxe sE)
theorem yL (h:ZE X A a xa) (hs:swapsWith a none pos.line X.env=pure false:=by rfl):ZS X A (.Expr a pos) (ybj xa):=wS (yjN h.of hs) (ytH sE)
theorem yt {i:Nat}{pos':Pos}(h:ZE X A a xa) (hN:X.N.Nodup:=by exact nd) (hi:X.N[i]?=some x:=by rfl) (hx:Loc X.env.scope x:=by first|exact Or.inl rfl|exact Or.inr rfl) (hs:swapsWith a (some (.Name x pos')) pos.line X.env=pure false:=by rfl) (hf:X.fn x=true\/X.env.scope.names.lookup x=some .local:=by exact Or.inl rfl):ZS X A (.Assign [.Name x pos'] a pos) (ybG xa (yq i)) :=
 wS (yvu hN hi hx h.of hs hf) (yna sE (ygi i))
theorem ynp {i:Nat}{pos':Pos}(h:ZO X A a xo) (hN:X.N.Nodup:=by exact nd) (hi:X.N[i]?=some x:=by rfl) (hx:Loc X.env.scope x:=by first|exact Or.inl rfl|exact Or.inr rfl) (hs:swapsWith a (some (.Name x pos')) pos.line X.env=pure false:=by rfl) (hf:X.fn x=true\/X.env.scope.names.lookup x=some .local:=by exact Or.inl rfl):ZS X A (.Assign [.Name x pos'] a pos) (ypx xo i) :=
 wS (yvu hN hi hx h.of hs hf) (ytI i sO)
theorem ybR {cs:List Nat}{f:Str}{pos':Pos}{i:Nat}(hc:∀ k∈cs,Cls X.K (A k)/\NoAttr X.K (A k) f) (h:ZE X A a xa) (ho:PE X o (ypW i):=by exact yjk rfl (by first|exact Or.inl rfl|exact Or.inr (Or.inl rfl)) (by rfl') (by rfl')) (hs:swapsWith a (some (.Attribute o f pos')) pos.line X.env=pure false:=by rfl):ZF X A (.Assign [.Attribute o f pos'] a pos) (ycW cs i f xa):=wF (yvz ho h.of hs) (ytR (K:=ckX X A) hc sE)
theorem yI {ca:XT}{l m:List Stmt}(hc:ZT X A c ca) (ha:ZSs X A l s) (hb:ZSs X A m u):ZS X A (.If c l m pos) (ybK ca s u):=wS (yCy hc.of ha.of hb.of) (yxf sT sS sS)
theorem yid {tg iter:Expr}{it:XA}{y:XG}(hi:ZI X A tg iter it) (hg:ZG X A tg y) (hb:ZSs X A rest s) (hp:PassesOwn (model X.prog X.w) X.A X.env X.xe:=by exact PassesOwn.never) (hc:X.calm=true:=by rfl) (hs:∀ x,foldedSetIterable iter X.env x=pure x:=by exact fun _=>rfl):ZS X A (.For tg iter rest [] pos) (ymZ it y s):=wS (yqo hp hc hi.of hg.of hb.of hs) (yxj sI sG sS)
theorem ykw {ca:XT}{fu:Nat}(hc:ZT X A c ca) (hb:ZSs X A rest s) (hp:PassesOwn (model X.prog X.w) X.A X.env X.xe:=by exact PassesOwn.never):ZS X A (.While c rest [] pos) (yfD fu ca s):=wS (ytd hp hc.of hb.of) (yqZ fu sT sS)
theorem ym:ZSs X A [] yO:=wSs ywx ytG
theorem ye (h:ZS X A st s):ZSs X A [st] s:=⟨yqh h.of⟩
theorem yb (h:ZS X A st s) (hr:ZSs X A rest u):ZSs X A (st::rest) (yl s u):=wSs (ynT h.of hr.of) (yxd sS sS)
theorem yeW {i:Nat}(h:ZSs X A rest s):ZSs X A rest (ypX i s):=wSs h.of (yxg i sS)
theorem ydZ (h:ZF X A st s):ZFs X A [st] s:=⟨yqh h.of⟩
theorem ybH (h:ZF X A st s) (hr:ZFs X A rest u):ZFs X A (st::rest) (yl s u):=wFs (ynT h.of hr.of) (ytS sF sF)
end
end
section
variable {P:Program}{w:World}{K:PySem.W.Frag}{mg:Str->Option Value}{base:Heap}{A:Nat->Addr}
theorem zfn {x qual:Str}{st:Stmt}{f:Addr}{fd:FuncData}{N ps:List Str}{k:Nat}{s:XS}(F:Fun K x qual st f fd) (S:yev N ps (ybz st))
  (h:∀ (cdv:Value) (Ar:Around) (outer:List Env) (sh:Shared) (H:Hp) (E:XK),Room k (Ar.deeper (envOfC qual (ybz st) sh.heap.objs.size f cdv))->ZSs (ytq CX0 P w K mg base N qual (ybz st) f cdv Ar outer sh H E).nox A (yfM st) s) :
  FnOk P w K mg base CX0 (k+1) f fd ps (spE ⟨K,A⟩ ps.length (ybt N.length s)) :=
 F.ok S (fun _ _ _ _ h=>yxk h) fun cdv Ar outer sh H vs Q E hr hq=>⟨_,(h cdv Ar outer sh H E hr).of,ytL (K:=⟨K,A⟩) sS hq⟩
theorem zin {x qual:Str}{st:Stmt}{f:Addr}{fd:FuncData}{N ps:List Str}{k kc n:Nat}{s:XS}(F:Fun K x qual st f fd) (S:yev N ps (ybz st)) (hn:ps.length=n+1) (hN:n+1<=N.length)
  (h:∀ (cdv:Value) (Ar:Around) (outer:List Env) (sh:Shared) (H:Hp) (E:XK),Room k (Ar.deeper (envOfC qual (ybz st) sh.heap.objs.size f cdv))->ZFs (ytq CX0 P w K mg base N qual (ybz st) f cdv Ar outer sh H E).nox A (yfM st) s) :
  FnOk P w K mg base CX0 (k+1) f fd ps (spI ⟨K,A⟩ n kc (yok N.length kc s)) :=
 F.ok S (fun _ _ _ _ h=>(yxs h).trans hn.symm) fun cdv Ar outer sh H vs Q E hr hq=>⟨_,(h cdv Ar outer sh H E hr).of,ytT (K:=⟨K,A⟩) hN sF hq⟩
end
end PX
namespace PX
open PySem L2 PySem.Spec PyProof.Rows
section
variable {X:Cx}{A:Nat->Addr}{a b c o i:Expr}{es:List Expr}{xa xb xc xd xk xv:XE}{xo:XO}{aa:XA}{pos p apos cpos pos':Pos}{x:Str}{n k:Nat}
theorem ywc (ho:ZE X A o xd) (hi:ZE X A i xk) (hu:X.A.units+1<cLine:=by exact ywK hr) (hs:yDL i:=by exact fun _ _=>rfl):ZE X A (.Subscript o i pos) (yhV xd xk):=wE (yxA hu ho.of hi.of hs) (yuc sE sE)
theorem yAO (hi:ZE X A i xk) (ho:ZE X A o xd) (hu:X.A.units+1<cLine:=by exact ywK hr) (hm:behindInMarks .In o=false:=by first|exact yla _|with_unfolding_all rfl):ZT X A (.Compare i [.In] [o] pos) (yp (yzb false xk xd)):=wT (yzn (yAF hu hi.of ho.of) hm) (yhC (yxD sE sE))
theorem ynq (ho:ZE X A o xd) (hi:ZE X A i xk) (hv:ZE X A a xv) (hu:X.A.units+1<cLine:=by exact ywK hr) (hs:swapsWith a (some (.Subscript o i pos')) pos.line X.env=pure false:=by rfl):ZS X A (.Assign [.Subscript o i pos'] a pos) (ykl xd xk xv):=wS (yxB hu ho.of hi.of hv.of hs) (yud sE sE sE)
theorem yoH:ZO X A (.Dict [] [] pos) ypA:=wO yua yue
theorem yie (h:ZE X A a xv) (ho:ZE X A o xd) (hi:ZE X A i xk) (ha:∀ v,assign (.Subscript o i pos') X.env v=(do
   let ov <- holding [v] (eval o X.env)
   let iv <- holding [v,ov] (eval i X.env)
   standAt pos'
   holding [v,ov,iv] (setItem ov iv v)
   release [v,ov,iv] []):=by exact fun _=>rfl) (hs:swapsWithSole [.Subscript o i pos'] a pos.line X.env=pure false:=by rfl) (hw:swappedStores [.Subscript o i pos'] a X.env=pure none:=by rfl) (h1:(assignEach [.Subscript o i pos'] X.env).map (·.2)=[assign (.Subscript o i pos') X.env]:=by rfl) :
  ZS X A (.Assign [.Subscript o i pos'] a pos) (yhT xd xk xv):=wS (yzA h.of (yzz ho.of hi.of set_list ha) hs hw h1) (yub sE sE sE)
end
end PX
namespace PX
open PySem L2 PySem.Spec PyProof.Rows
theorem ynr:bootBuiltins "reversed" = some (.type "reversed"):=by rfl'
section
variable {X:Cx}{A:Nat->Addr}{a b c o:Expr}{es:List Expr}{xa xb xc:XE}{pos p apos cpos:Pos}{x:Str}{n k:Nat}
theorem yAP {i:Nat}(ha:ZE X A a xa) (ho:PE X o (ypW i):=by exact yjk rfl (by first|exact Or.inl rfl|exact Or.inr (Or.inl rfl)) (by rfl') (by rfl')) (hbase:attributeBase o "extend" X.env (eval o X.env)=eval o X.env:=by rfl) (hfew:((backTo cpos (starEach [a] X.env)).all (fun x=>!x.1) && (backToKw cpos (keywordEach [] X.env)).all (fun x=>x.1.isSome)
   && decide ([a].length+([]:List Keyword).length+(if ([]:List Keyword).isEmpty then 0 else 1)<30))=true:=by rfl) (hline:(apos.endLine == cpos.line)=true:=by rfl) (hs:starEach [a] X.env=(false,eval a X.env)::starEach [] X.env:=by rfl) (hplain:(backTo cpos (starEach [] X.env)).any (·.1)=false:=by rfl) (hsw:swapsWith (.Call (.Attribute o "extend" apos) [a] [] cpos) none pos.line X.env=pure false:=by rfl) :
  ZS X A (.Expr (.Call (.Attribute o "extend" apos) [a] [] cpos) pos) (yuh i xa) :=
 wS (yjN (ywJ plainAttrs_list PySem.F.slot_list_extend PySem.F.type_list_extend yqE ho (yfL ha.of yjo hs) hbase hfew hline hs hplain) hsw) (yui (K:=ckX X A) i sE)
theorem yAQ {i:Nat}(hm:X.mg x=none) (ho:PE X a (ypW i):=by exact yjk rfl (by first|exact Or.inl rfl|exact Or.inr (Or.inl rfl)) (by rfl') (by rfl')) (m:Nm x:=by exact ⟨by rfl',by rfl',by rfl'⟩) (hg:Gl X x:=by rfl) (hv:bootBuiltins x=some (.builtin "len"):=by rfl') (he:starEach [a] X.env=(false,eval a X.env)::starEach [] X.env:=by rfl) (hpl:(backTo pos (starEach [] X.env)).any (·.1)=false:=by rfl) :
  ZE X A (.Call (.Name x p) [a] [] pos) (yuj i) :=
 wE (yjR yG hg hm hv (yfL ho yjo he) m.n m.d he hpl) (yuk (K:=ckX X A) i)
end
section
variable {X:Cx}{A:Nat->Addr}{tg a b c:Expr}{p pos:Pos}{aa:XA}{n:Nat}
end
section
theorem ydq {xs:List V}{its:List Value}(r:Vals xs its) {j:Nat}(hj:j<its.toArray.size):∃ x,xs[j]?=some x/\RelV x its.toArray[j]:=by
 have hl:=r.length
 have j1:j<its.length:=by simpa using hj
 have x1:xs[j]?=some xs[j]:=List.getElem?_eq_getElem (by omega)
 obtain ⟨u1,q1,w1⟩:=r.get x1
 have g1:its.toArray[j]=u1:=by
  have:=List.getElem?_eq_getElem j1
  rw [q1] at this
  simpa using (Option.some.inj this).symm
 exact ⟨_,x1,by rw [g1];exact w1⟩
variable {X:Cx}
theorem yoI {pins:List (Addr×Obj)}{σ:L2.St}{H:Hp}{s:Shared}(I:Inv X pins σ H s) {n:Nat}{x y:V}{b:Bool}(r:EqR X.K H n x y b):∀ {A:Around}{u v:Value},RelV x u->RelV y v->A.units+n<cLine->SeqAt.EqAt A s u v b:=by
 induction r with
 | flat fx fy=>exact fun rx ry _=>eqAt_V rx ry fx fy
 | same =>
  intro A u v rx ry _
  cases rx
  cases ry
  exact SeqAt.EqAt.same _
 | odd h =>
  obtain ⟨a,o,ob,h1,h2⟩:=h
  have:=(I.bs a ob (I.ok.mod.kin a ob h2)).2
  rw [h1] at this
  cases this
 | nt hb =>
  intro A u v rx ry hu
  cases rx
  cases ry
  obtain ⟨i2,r2,p2,z2⟩:=I.tuple hb
  exact SeqAt.EqAt.none_tuple p2 (by omega)
 | tn hb =>
  intro A u v rx ry hu
  cases rx
  cases ry
  obtain ⟨i2,r2,p2,z2⟩:=I.tuple hb
  exact SeqAt.EqAt.tuple_none p2 (by omega)
 | @lst n a b xs ys e ha hb hl hne he ih =>
  intro A u v rx ry hu
  cases rx
  cases ry
  obtain ⟨i1,n1,r1,e1,z1⟩:=I.lst ha
  obtain ⟨i2,n2,r2,e2,z2⟩:=I.lst hb
  have l1:=r1.length
  have l2:=r2.length
  rw [show xs.length=i1.toArray.size by simp only [size_toArray];omega]
  refine SeqAt.EqAt.of_refs hne (SeqAt.RcAt.lists ⟨_,e1,rfl,n1,rfl⟩ ⟨_,e2,rfl,n2,rfl⟩ (by simp only [size_toArray];omega) (by omega) fun j j1 j2=>?_)
  obtain ⟨x1,q1,w1⟩:=ydq r1 j1
  obtain ⟨y1,q2,w2⟩:=ydq r2 j2
  exact ih j x1 y1 q1 q2 w1 w2 (by show A.units+1+n<cLine;omega)
 | @lstN n a b xs ys ha hb hl =>
  intro A u v rx ry hu
  cases rx
  cases ry
  obtain ⟨i1,n1,r1,e1,z1⟩:=I.lst ha
  obtain ⟨i2,n2,r2,e2,z2⟩:=I.lst hb
  have l1:=r1.length
  have l2:=r2.length
  have hne:a≠b:=fun z=>by subst z;rw [ha] at hb;cases hb;exact hl rfl
  exact SeqAt.EqAt.of_refs hne (SeqAt.RcAt.lists_lengths ⟨_,e1,rfl,n1,rfl⟩ ⟨_,e2,rfl,n2,rfl⟩ (by simp only [size_toArray,bne_iff_ne];omega) (by omega))
 | @tup n a b xs ys e ha hb hne he ih =>
  intro A u v rx ry hu
  cases rx
  cases ry
  obtain ⟨i1,r1,p1,z1⟩:=I.tuple ha
  obtain ⟨i2,r2,p2,z2⟩:=I.tuple hb
  have l1:=r1.length
  have l2:=r2.length
  rw [show xs.length=i1.toArray.size by simp only [size_toArray];omega,show ys.length=i2.toArray.size by simp only [size_toArray];omega]
  refine SeqAt.EqAt.of_refs hne (SeqAt.RcAt.tuples p1 p2 (by omega) fun j j1 j2=>?_)
  obtain ⟨x1,q1,w1⟩:=ydq r1 j1
  obtain ⟨y1,q2,w2⟩:=ydq r2 j2
  exact ih j x1 y1 q1 q2 w1 w2 (by show A.units+1+n<cLine;omega)
theorem yoJ (hu:X.A.units+60<cLine):OpR X (compareOp .Eq) (yFv X.K):=by
 intro pins s σ H x y v u Q I rx ry h
 obtain ⟨b,hb,q⟩:=h
 cases hb with
 | nt hb =>
  cases rx
  cases ry
  obtain ⟨i2,r2,p2,z2⟩:=I.tuple hb
  exact SeqAt.RcAt.none_tuple p2 (by omega) _ _ _ _ ⟨.bl _,H,I,rfl,q⟩
 | tn hb =>
  cases rx
  cases ry
  obtain ⟨i2,r2,p2,z2⟩:=I.tuple hb
  exact SeqAt.RcAt.tuple_none p2 (by omega) _ _ _ _ ⟨.bl _,H,I,rfl,q⟩
 | @lst a b xs ys e ha hb hl he =>
  cases rx
  cases ry
  obtain ⟨i1,n1,r1,e1,z1⟩:=I.lst ha
  obtain ⟨i2,n2,r2,e2,z2⟩:=I.lst hb
  have l1:=r1.length
  have l2:=r2.length
  rw [show xs.length=i1.toArray.size by simp only [size_toArray];omega] at q
  refine SeqAt.RcAt.lists ⟨_,e1,rfl,n1,rfl⟩ ⟨_,e2,rfl,n2,rfl⟩ (by simp only [size_toArray];omega) (by omega) (fun j j1 j2=>?_) _ _ _ _ ⟨.bl _,H,I,rfl,q⟩
  obtain ⟨x1,q1,w1⟩:=ydq r1 j1
  obtain ⟨y1,q2,w2⟩:=ydq r2 j2
  exact yoI I (he j x1 y1 q1 q2) w1 w2 (by show X.A.units+1+40<cLine;omega)
 | @lstN a b xs ys ha hb hl =>
  cases rx
  cases ry
  obtain ⟨i1,n1,r1,e1,z1⟩:=I.lst ha
  obtain ⟨i2,n2,r2,e2,z2⟩:=I.lst hb
  have l1:=r1.length
  have l2:=r2.length
  exact SeqAt.RcAt.lists_lengths ⟨_,e1,rfl,n1,rfl⟩ ⟨_,e2,rfl,n2,rfl⟩ (by simp only [size_toArray,bne_iff_ne];omega) (by omega) _ _ _ _ ⟨.bl _,H,I,rfl,q⟩
 | @tup a b xs ys e ha hb he =>
  cases rx
  cases ry
  obtain ⟨i1,r1,p1,z1⟩:=I.tuple ha
  obtain ⟨i2,r2,p2,z2⟩:=I.tuple hb
  have l1:=r1.length
  have l2:=r2.length
  rw [show xs.length=i1.toArray.size by simp only [size_toArray];omega,show ys.length=i2.toArray.size by simp only [size_toArray];omega] at q
  refine SeqAt.RcAt.tuples p1 p2 (by omega) (fun j j1 j2=>?_) _ _ _ _ ⟨.bl _,H,I,rfl,q⟩
  obtain ⟨x1,q1,w1⟩:=ydq r1 j1
  obtain ⟨y1,q2,w2⟩:=ydq r2 j2
  exact yoI I (he j x1 y1 q1 q2) w1 w2 (by show X.A.units+1+40<cLine;omega)
theorem yrG (hu:X.A.units+60<cLine):OpR X (compareOp .NotEq) (yFw X.K):=by
 intro pins s σ H x y v u Q I rx ry h
 obtain ⟨b,hb,q⟩:=h
 cases hb with
 | nt hb =>
  cases rx
  cases ry
  obtain ⟨i2,r2,p2,z2⟩:=I.tuple hb
  exact SeqAt.RcNeAt.none_tuple p2 (by omega) _ _ _ _ ⟨.bl _,H,I,rfl,q⟩
 | tn hb =>
  cases rx
  cases ry
  obtain ⟨i2,r2,p2,z2⟩:=I.tuple hb
  exact SeqAt.RcNeAt.tuple_none p2 (by omega) _ _ _ _ ⟨.bl _,H,I,rfl,q⟩
 | @lst a b xs ys e ha hb hl he =>
  cases rx
  cases ry
  obtain ⟨i1,n1,r1,e1,z1⟩:=I.lst ha
  obtain ⟨i2,n2,r2,e2,z2⟩:=I.lst hb
  have l1:=r1.length
  have l2:=r2.length
  rw [show xs.length=i1.toArray.size by simp only [size_toArray];omega] at q
  refine SeqAt.RcNeAt.lists ⟨_,e1,rfl,n1,rfl⟩ ⟨_,e2,rfl,n2,rfl⟩ (by simp only [size_toArray];omega) (by omega) (fun j j1 j2=>?_) _ _ _ _ ⟨.bl _,H,I,rfl,q⟩
  obtain ⟨x1,q1,w1⟩:=ydq r1 j1
  obtain ⟨y1,q2,w2⟩:=ydq r2 j2
  exact yoI I (he j x1 y1 q1 q2) w1 w2 (by show X.A.units+1+40<cLine;omega)
 | @lstN a b xs ys ha hb hl =>
  cases rx
  cases ry
  obtain ⟨i1,n1,r1,e1,z1⟩:=I.lst ha
  obtain ⟨i2,n2,r2,e2,z2⟩:=I.lst hb
  have l1:=r1.length
  have l2:=r2.length
  exact SeqAt.RcNeAt.lists_lengths ⟨_,e1,rfl,n1,rfl⟩ ⟨_,e2,rfl,n2,rfl⟩ (by simp only [size_toArray,bne_iff_ne];omega) (by omega) _ _ _ _ ⟨.bl _,H,I,rfl,q⟩
 | @tup a b xs ys e ha hb he =>
  cases rx
  cases ry
  obtain ⟨i1,r1,p1,z1⟩:=I.tuple ha
  obtain ⟨i2,r2,p2,z2⟩:=I.tuple hb
  have l1:=r1.length
  have l2:=r2.length
  rw [show xs.length=i1.toArray.size by simp only [size_toArray];omega,show ys.length=i2.toArray.size by simp only [size_toArray];omega] at q
  refine SeqAt.RcNeAt.tuples p1 p2 (by omega) (fun j j1 j2=>?_) _ _ _ _ ⟨.bl _,H,I,rfl,q⟩
  obtain ⟨x1,q1,w1⟩:=ydq r1 j1
  obtain ⟨y1,q2,w2⟩:=ydq r2 j2
  exact yoI I (he j x1 y1 q1 q2) w1 w2 (by show X.A.units+1+40<cLine;omega)
theorem yif {k:Nat}{A:Around}(r:Room k A):A.units+60<cLine:=by have:=r.un;omega
end
end PX
namespace PX
open PySem L2 PySem.Spec PyProof.Rows
section
variable {X:Cx}{A:Nat->Addr}{o e:Expr}{es:List Expr}{xa xb:XE}{aa:XA}{pos apos pos':Pos}{m f:Str}{n k kc:Nat}{pl:Sem Bool}{p:Fn}{fa:Addr}{fd:FuncData}{ps:List Str}
theorem yZ {st:Stmt}:ZS X A st ydp:=wS ytc (yun (K:=ckX X A))
theorem yn (ho:ZE X A o xa) (hm:Meth X.K (A kc) m fa) (F:FnOk X.prog X.w X.K X.mg X.base CX0 k fa fd ps (spE (ckX X A) (n+1) p)) (hb:Binds X.K fd ps []) (ha:ZA X A (e::es) n aa) (c:Cls X.K (A kc):=by exact T.cl _) (hr:Room k X.A:=by exact hr.mono (by omega)) (hst:starEach (e::es) X.env=(false,eval e X.env)::starEach es X.env:=by rfl) (hpl:(backTo pos (starEach es X.env)).any (·.1)=false:=by rfl) (ht:eval (.Call (.Attribute o m apos) (e::es) [] pos) X.env=(do
   let ov <- eval o X.env
   standAt apos.atName
   let (f,first) <- holding [ov] (getMethod ov m pl)
   callWith pos f first (backTo pos (starEach (e::es) X.env)) (backToKw pos (keywordEach [] X.env))):=by rfl) :
  ZE X A (.Call (.Attribute o m apos) (e::es) [] pos) (yh kc m p xa aa):=wE (ywG ho.of c hm F hr hb .nil ylk ha.of hst hpl ht) (ylO (K:=ckX X A) sE sA ha.len)
theorem yr (ho:ZE X A o xa) (hm:Meth X.K (A kc) m fa) (F:FnOk X.prog X.w X.K X.mg X.base CX0 k fa fd ps (spE (ckX X A) 1 p)) (hb:Binds X.K fd ps []) (c:Cls X.K (A kc):=by exact T.cl _) (hr:Room k X.A:=by exact hr.mono (by omega)) (ht:eval (.Call (.Attribute o m apos) [] [] pos) X.env=(do
   let ov <- eval o X.env
   standAt apos.atName
   let (f,first) <- holding [ov] (getMethod ov m pl)
   callWith pos f first (backTo pos (starEach [] X.env)) (backToKw pos (keywordEach [] X.env))):=by rfl) :
  ZE X A (.Call (.Attribute o m apos) [] [] pos) (yh kc m p xa yi):=wE (yto ho.of c hm F hr hb .nil ylk ht) (ylO (K:=ckX X A) (n:=0) sE ykc ymX)
theorem ybA {cs:List Nat}{value:Expr}(hc:∀ k∈cs,Cls X.K (A k)/\NoAttr X.K (A k) f) (ho:ZE X A o xa) (hv:ZE X A value xb) (hs:swapsWith value (some (.Attribute o f pos')) pos.line X.env=pure false:=by rfl) :
  ZS X A (.Assign [.Attribute o f pos'] value pos) (ycT cs f xa xb):=wS (yvz ho.of hv.of hs) (yuo (K:=ckX X A) hc sE sE)
end
end PX
namespace KasS
open PySem PySem.W PyProof.Rows
def run {α:Type}(lt:Nat->Nat->Bool):KasT α->α
 | .ret a=>a
 | .ask i j k=>run lt (k (lt i j))
noncomputable def yns {α:Type}(P:Nat->Prop) (lt:Nat->Nat->Bool):KasT α->Prop
 | .ret _=>True
 | .ask i j k=>P i/\P j/\yns P lt (k (lt i j))
theorem yAR {α:Type}{P:Nat->Prop}{lt:Nat->Nat->Bool}{cmp:Nat->Nat->(Bool->Shared->Prop)->Shared->Prop}{s:Shared}(hc:∀ i j C,P i->P j->C (lt i j) s->cmp i j C s) {Q:α->Shared->Prop} :
  ∀ (t:KasT α),yns P lt t->Q (run lt t) s->t.kasWp cmp Q s
 | .ret _,_,h=>h
 | .ask i j k,⟨a,b,c⟩,h=>hc i j _ a b (yAR hc (k (lt i j)) c h)
section
variable (key:Nat->Int)
def ltK (i j:Nat):Bool:=decide (key i<key j)
def Kp (p:Array Nat) (i:Nat):Int:=key (p[i]?.getD 0)
def Up (p:Array Nat) (k:Nat):Prop:=∀ i j,i<=j->j<k->Kp key p i<=Kp key p j
variable {key}
def k2:Bool->KasT (Array Nat):=match kas_sort 2 with|.ask _ _ k=>k|.ret _=>fun _=>.ret #[]
theorem yrH:(run (ltK key) (kas_sort 2)).Perm (toArray (List.range 2))/\Up key (run (ltK key) (kas_sort 2)) 2:=by
 have e0:run (ltK key) (kas_sort 2)=run (ltK key) (k2 (ltK key 1 0)):=by kernel_rfl!
 rw [e0]
 cases e:ltK key 1 0 with
 | false =>
  rw [show run (ltK key) (k2 false) = #[0,1] by kernel_rfl!]
  refine ⟨.refl _,fun i j h1 h2=>?_⟩
  have e:=of_decide_eq_false e
  rcases (show i=j\/(i=0/\j=1) by omega) with rfl|⟨rfl,rfl⟩
  .exact Int.le_refl _
  .show key 0<=key 1
   omega
 | true =>
  rw [show run (ltK key) (k2 true) = #[1,0] by kernel_rfl!]
  refine ⟨Array.Perm.of_toList_perm (List.Perm.swap 0 1 []),fun i j h1 h2=>?_⟩
  have e:=of_decide_eq_true e
  rcases (show i=j\/(i=0/\j=1) by omega) with rfl|⟨rfl,rfl⟩
  .exact Int.le_refl _
  .show key 1<=key 0
   omega
theorem yxS:yns (· < 2) (ltK key) (kas_sort 2):=by
 have e0:yns (· < 2) (ltK key) (kas_sort 2)=(1<2/\0<2/\yns (· < 2) (ltK key) (k2 (ltK key 1 0))):=by kernel_rfl!
 rw [e0]
 refine ⟨by omega,by omega,?_⟩
 cases ltK key 1 0 with
 | false=>rw [show yns (· < 2) (ltK key) (k2 false)=True by kernel_rfl!];trivial
 | true=>rw [show yns (· < 2) (ltK key) (k2 true)=True by kernel_rfl!];trivial
end
end KasS
namespace KasS
open PySem PySem.W PyProof.Rows PySem.Calls
noncomputable def Tps (h:Heap):List Value->List (Int×Tok×Value)->Prop
 | [],[]=>True
 | v::vs,p::ps=>(∃ b o m,v=.ref b/\h.get? b=some o/\o.cls=.type "tuple"/\o.data=.seq #[.int p.1 p.2.1,p.2.2] m)/\Tps h vs ps
 | _,_=>False
theorem Tps.len {h:Heap}:∀ {vs:List Value}{ps:List (Int×Tok×Value)},Tps h vs ps->ps.length=vs.length
 | [],[],_=>rfl
 | _::_,_::_,⟨_,t⟩=>by rw [length_cons,length_cons,Tps.len t]
 | [],_::_,t=>t.elim
 | _::_,[],t=>t.elim
theorem Tps.get {h:Heap}:∀ {vs:List Value}{ps:List (Int×Tok×Value)},Tps h vs ps->∀ i,i<vs.length->∃ p b o m,ps[i]?=some p/\vs.getD i .none=.ref b/\h.get? b=some o/\o.cls=.type "tuple"/\o.data=.seq #[.int p.1 p.2.1,p.2.2] m
 | _::_,p::_,⟨⟨b,o,m,e1,e2,e3,e4⟩,_⟩,0,_=>⟨p,b,o,m,rfl,by rw [e1];rfl,e2,e3,e4⟩
 | _::vs,_::ps,⟨_,t⟩,i+1,hi=>by
  obtain ⟨p,b,o,m,e1,e2,e3⟩:=Tps.get t i (by simpa using hi)
  exact ⟨p,b,o,m,by simpa using e1,by simpa using e2,e3⟩
 | [],[],_,_,hi=>by simp at hi
 | [],_::_,t,_,_=>t.elim
 | _::_,[],t,_,_=>t.elim
theorem Tps.mono {h h':Heap}:∀ {vs:List Value}{ps:List (Int×Tok×Value)},Tps h vs ps->(∀ b o,Value.ref b∈vs->h.get? b=some o->h'.get? b=some o)->Tps h' vs ps
 | [],[],_,_=>trivial
 | _::_,_::_,⟨⟨b,o,m,e1,e2,e3⟩,t⟩,k=>⟨⟨b,o,m,e1,k b o (by rw [e1];exact mem_cons_self) e2,e3⟩,Tps.mono t fun b o hb=>k b o (mem_cons_of_mem _ hb)⟩
 | [],_::_,t,_=>t.elim
 | _::_,[],t,_=>t.elim
theorem Tps.kat {h:Heap}:∀ {vs:List Value}{ps:List (Int×Tok×Value)},Tps h vs ps->KatTups h vs (ps.map fun p=>Value.int p.1 p.2.1)
 | [],[],_=>trivial
 | _::_,p::_,⟨⟨b,o,m,e1,e2,e3,e4⟩,t⟩=>⟨⟨b,o,_,m,e1,e2,e3,e4,rfl⟩,Tps.kat t⟩
 | [],_::_,t=>t.elim
 | _::_,[],t=>t.elim
def yfR (ps:List (Int×Tok×Value)) (i:Nat):Int:=((ps[i]?).map (·.1)).getD 0
theorem yrI {ps:List (Int×Tok×Value)}(hn:(ps.map (·.1)).Nodup) {i j:Nat}(hi:i<ps.length) (hj:j<ps.length) (e:yfR ps i=yfR ps j):i=j:=by
 unfold yfR at e
 rw [List.getElem?_eq_getElem hi,List.getElem?_eq_getElem hj] at e
 have e:ps[i].1=ps[j].1:=e
 have h1:i<(ps.map (·.1)).length:=by simpa using hi
 have h2:j<(ps.map (·.1)).length:=by simpa using hj
 exact (List.getElem_inj (h₀:=h1) (h₁:=h2) hn).mp (by simpa using e)
section
variable {prog:Program}{w:World}{A:Around}{E:Value->Shared->Prop}{s:Shared}
theorem yxT {vs:List Value}{ps:List (Int×Tok×Value)}(tp:Tps s.heap vs ps) (hn:(ps.map (·.1)).Nodup) (i j:Nat) (C:Bool->Shared->Prop) (hi:i<vs.length) (hj:j<vs.length) (hC:C (ltK (yfR ps) i j) s) :
  kas_ask prog w A (tuples' true) vs i j C s:=by
 obtain ⟨p,b,o,m,e1,e2,e3,e4,e5⟩:=tp.get i hi
 obtain ⟨p',b',o',m',f1,f2,f3,f4,f5⟩:=tp.get j hj
 have k1:yfR ps i=p.1:=by unfold yfR;rw [e1];rfl
 have k2:yfR ps j=p'.1:=by unfold yfR;rw [f1];rfl
 unfold ltK at hC
 rw [k1,k2] at hC
 unfold kas_ask
 rw [e2,f2]
 refine kat_lt e3 e5 f3 f5 ?_
 show KatLex prog w A true (decide (2<2)) C [(Value.int p.1 p.2.1,Value.int p'.1 p'.2.1),(p.2.2,p'.2.2)] 0 s
 refine kat_cons (L2.eqAt_V (y:=.int p.1) (x:=.int p'.1) ⟨_,rfl⟩ ⟨_,rfl⟩ rfl rfl prog w _ _ ?_)
 show KatGo prog w A true _ C _ _ _ 0 (p.1 == p'.1) s
 by_cases e:p.1=p'.1
 .rw [beq_iff_eq.mpr e]
  have hij:i=j:=yrI hn (by rw [tp.len];exact hi) (by rw [tp.len];exact hj) (by rw [k1,k2,e])
  subst hij
  rw [e1] at f1
  cases f1
  refine kat_yes (kat_cons (SeqAt.EqAt.same _ prog w _ _ (kat_yes (kat_nil ?_))))
  rw [decide_eq_false (by omega)] at hC
  exact hC
 .rw [beq_eq_false_iff_ne.mpr e]
  exact kat_no (oneLt_int hC)
theorem yuv {a:Addr}{vs:List Value}{ps:List (Int×Tok×Value)}{n:Nat}{P:PySem.Fin->Shared->Prop}(ho:s.heap.get? a=some (seqObj "list" vs.toArray n)) (tp:Tps s.heap vs ps) (na:Value.ref a∉vs) (hn:(ps.map (·.1)).Nodup) (h64:vs.length<3)
  (h:∀ q:Array Nat,q.Perm (toArray (List.range vs.length))->Up (yfR ps) q vs.length->P (.done (.ret .none)) { s with heap:=sortedHeap s.heap a vs (toArray (q.toList.map fun i=>vs.getD i Value.none)) }) :
  wpAny (model prog w) A (Builtin.«list.sort» ⟨[.ref a],[]⟩) P E s:=by
 have ha:a<s.heap.objs.size:=Heap.lt_size ho
 have z64:vs.length<=sizeLine:=by rw [sizeLine_eq];omega
 rw [list_sort_plain]
 obtain ⟨e1,ho1⟩:∃ e1,(s.heap.update a (Obj.mapSeq fun _=>(#[]:Array Value))).get? a=some (seqObj "list" #[] e1):=⟨_,get?_update_seq ho _⟩
 refine wpAny_bind (listItems_at ho rfl (wpAny_bind (listUpdate_at ho rfl (wpAny_bind (seqEpoch_at ho1 rfl (wpAny_bind (wpAny_newTuple (wpAny_bind (wpAny_newList (wpAny_holding ?_) (zero_le _))) (by simpa using z64))))) (by simpa using z64) (zero_le _))))
 generalize hH:((s.heap.update a (Obj.mapSeq fun _=>(#[]:Array Value))).push (seqObj "tuple" vs.toArray 0)).push (seqObj "list" #[] 0)=H6
 have keep:∀ b o,b≠a->s.heap.get? b=some o->H6.get? b=some o:=fun b o hb e=>by
  rw [<- hH]
  exact Heap.get?_push_of_some _ (Heap.get?_push_of_some _ ((Heap.get?_update_other _ _ (Ne.symm hb)).trans e))
 have ho6:H6.get? a=some (seqObj "list" #[] e1):=by rw [<- hH];exact Heap.get?_push_of_some _ (Heap.get?_push_of_some _ ho1)
 have tp6:Tps H6 vs ps:=tp.mono fun b o hb e=>keep b o (fun z=>na (z ▸ hb)) e
 show wpAny (model prog w) A _ P E { s with heap:=H6 }
 dsimp only
 have fin:∀ q:Array Nat,q.Perm (toArray (List.range vs.length))->Up (yfR ps) q vs.length->P (.done (.ret .none)) { s with heap:=H6.update a (Obj.mapSeq fun _=>toArray (q.toList.map fun i=>vs.getD i Value.none)) }:=fun q h1 h2=>by
  have:=h q h1 h2
  unfold sortedHeap at this
  rw [show ((s.heap.update a (Obj.mapSeq fun _=>(#[]:Array Value))).push (seqObj "tuple" vs.toArray 0)).push (seqObj "list" #[] 0)=H6 from hH] at this
  exact this
 by_cases h2:vs.toArray.size<2
 .rw [if_pos h2,if_pos h2]
  refine wpAny_bind (wpAny_pure ?_)
  rw [StateT.run_pure]
  have hz:((arrOf (SortSt.mk' general' (vs.toArray.zip vs.toArray) #[] 7 none)).map (·.2))=toArray ((toArray (List.range vs.length)).toList.map fun i=>vs.getD i Value.none):=by
   show (vs.toArray.zip vs.toArray).map (·.2)=_
   apply Array.toList_inj.mp
   simp only [Array.toList_map,Array.toList_zip,List.map_snd_zip (Nat.le_refl _)]
   apply List.ext_getElem
   .simp
   .intro i h3 h4
    simp
    rw [List.getElem?_eq_getElem (by simpa using h3)];rfl
  refine wpAny_bind (wpAny_pure (wpAny_bind (seqEpoch_at ho6 rfl (wpAny_bind (listUpdate_at ho6 rfl ?_ (zero_le _) ?_)))))
  .dsimp only
   rw [hz]
   simp only [bne_self_eq_false,Bool.false_eq_true,if_false]
   exact wpAny_pure (fin _ (Array.Perm.refl _) fun i j hij hj=>by rw [show i=j by (simp at h2);omega];exact Int.le_refl _)
  .rw [hz];simp;omega
 .rw [if_neg h2,if_neg h2]
  have hv2:2<=vs.length:=by simp at h2;omega
  refine wpAny_bind (kat_kind (s:={ s with heap:=H6 }) (T:=.type "int") tp6.kat (by rw [length_map,tp.len];omega) (fun v hv=>?_) rfl ?_)
  .obtain ⟨p,_,rfl⟩:=List.mem_map.mp hv
   exact .now
  have h2:vs.length=2:=by omega
  have run1:=kat_run (prog:=prog) (w:=w) (A:=A) (E:=E) (s:={ s with heap:=H6 }) (κ:=tuples' true) (ks:=vs) (vs:=vs)
   (Q:=fun st' s'=>s'={ s with heap:=H6 }/\∃ q:Array Nat,q.Perm (toArray (List.range vs.length))/\Up (yfR ps) q vs.length/\(arrOf st').map (·.2)=toArray (q.toList.map fun i=>vs.getD i Value.none)/\failedOf st'=none)
   (G:=fun q s'=>s'={ s with heap:=H6 }/\q.Perm (toArray (List.range vs.length))/\Up (yfR ps) q vs.length) rfl hv2 (by omega)
   (fun q st' s' z1 z2 z3 z4=>⟨z4.1,q,z4.2.1,z4.2.2,kat_snds rfl z2,z3⟩)
   (yAR (P:=(· < vs.length)) (lt:=ltK (yfR ps)) (fun i j C hi hj hC=>yxT tp6 hn i j C hi hj hC) _ (by rw [h2];exact yxS) ⟨rfl,by rw [h2];exact yrH.1,by rw [h2];exact yrH.2⟩)
  refine wpAny_bind (wpAny_mono run1 ?_ fun _ _ x=>x)
  rintro ⟨⟨⟩,st'⟩ s' ⟨rfl,q,z1,z2,z3,z4⟩
  refine wpAny_bind (seqEpoch_at ho6 rfl (wpAny_bind (listUpdate_at ho6 rfl ?_ (zero_le _) ?_)))
  .dsimp only
   rw [z3,z4]
   simp only [bne_self_eq_false,Bool.false_eq_true,if_false]
   exact wpAny_pure (fin q z1 z2)
  .dsimp only
   rw [z3]
   have:=z1.size_eq
   simp at this ⊢
   omega
end
end KasS
namespace PXS
open PySem L2 PySem.Spec PyProof.Rows KasS PX
theorem yuw {P:Program}{w:World}{H:Hp}{h:Heap}{a:Addr}{o:HO}(x:ObjOk P w H h a o):∃ u,h.get? a=some u:=by
 cases o with
 | lst xs=>obtain ⟨_,_,_,_,e⟩:=x;exact ⟨_,e⟩
 | tup xs=>obtain ⟨_,_,_,ob,e,_⟩:=x;exact ⟨_,e⟩
 | dK kvs=>obtain ⟨_,_,_,_,o,_,_,e,_⟩:=x;exact ⟨_,e⟩
 | dT kvs=>obtain ⟨_,_,_,_,o,_,_,e,_⟩:=x;exact ⟨_,e⟩
 | set S n=>obtain ⟨o,_,_,_,e,_⟩:=x;exact ⟨_,e⟩
 | ins C dx fs=>obtain ⟨_,_,_,e,_⟩:=x;exact ⟨_,e⟩
 | own y=>obtain ⟨_,e⟩:=x;exact ⟨_,e⟩
 | xd fs=>obtain ⟨_,⟨_,_,_,e,_⟩,_⟩:=x;exact ⟨_,e⟩
 | rng lo hi=>obtain ⟨_,_,_,e⟩:=x;exact ⟨_,e⟩
 | frz ob u=>obtain ⟨e,_⟩:=x;exact ⟨_,e⟩
 | tbl ps=>exact ⟨_,show h.get? a=some _ from x⟩
 | met f y=>exact ⟨_,show h.get? a=some _ from x⟩
 | ext φ=>obtain ⟨_,⟨_,e⟩,_⟩:=x;exact ⟨_,e⟩
section
variable {X:Cx}
theorem yux:MtM X "dict.items" yvW:=by
 intro pins s σ H x vs v us Q I rx rv h
 obtain ⟨d,kvs,rfl,rfl,hH,q⟩:=h
 cases rx
 have hus:=rv.zero
 subst hus
 obtain ⟨z,sy,ws,kv,hD⟩:=I.hok d _ hH
 refine call_meetsIn PySem.F.slot_dict_items hD.typeIs PySem.F.entry_dict_items (PySem.F.args_dict_items_1 _) (meets_dict_items _ d sy) ⟨⟨ws,hD⟩,?_⟩
 refine ⟨.ref _,_,I.laid (t':=s.toks) (o:=ynk s.heap.objs.size d) (fun _ _ q=>Heap.get?_push_of_some _ q) (Nat.le_refl _) ⟨Heap.get?_push_size _ rfl,⟨_,Heap.get?_push_size _ rfl⟩,fun h1 h2 e k=>k _ e⟩,rfl,q _ I.fresh⟩
theorem yxU {pins:List (Addr×Obj)}{σ:L2.St}{H H':Hp}{s:Shared}{h':Heap}{t':Nat}(I:Inv X pins σ H s) (k:∀ b u,s.heap.get? b=some u->h'.get? b=some u) (sub:∀ b o,H b=some o->H' b=some o)
  (nw:∀ b o,H b=none->H' b=some o->s.heap.get? b=none/\ObjOk X.prog X.w H' h' b o):Inv X pins σ H' { s with heap:=h',toks:=t' }:=by
 refine I.un ⟨fun b u q _ _ _=>k b u q,fun b u q _ _ _=>⟨u.slots,k b u q⟩,fun b u q n _=>?_,fun b u q _=>⟨u,k b u q⟩,fun b xs q=>sub _ _ q,fun b u xs q=>sub _ _ q,fun b ps q=>⟨#[],by rw [sub _ _ q];simp⟩⟩ fun b o e=>?_
 .cases e:H' b with
  | none=>rfl
  | some o=>rw [(nw b o n e).1] at q;cases q
 .cases e2:H b with
  | none=>exact (nw b o e2 e).2
  | some u =>
   have:=sub _ _ e2
   rw [e] at this
   cases this
   exact (I.hok b o e2).stay (fun c v _ q=>k c v q) (fun c q=>sub _ _ q) fun c xs q=>sub _ _ q
theorem ywd {h:Heap}:∀ (as:List Addr) (ws:List (Key×Value)) (ns:List Int),as.length=ws.length->ws.map (·.1)=ns.map Sum.inl ->
  (∀ (j:Nat) (a:Addr),as[j]?=some a->∃ key k x,ws[j]?=some (k,x)/\ymw k key=true/\h.get? a=some { cls:=.type "tuple",data:=.seq #[key,x] }) ->
  ∃ ps,Tps h (as.map Value.ref) ps/\ps.map (·.1)=ns/\ps.map (·.2.2)=ws.map (·.2)
 | [],[],ns,_,e,_=>⟨[],trivial,by cases ns with|nil=>rfl|cons=>simp at e,rfl⟩
 | [],_::_,_,hl,_,_=>by simp at hl
 | _::_,[],_,hl,_,_=>by simp at hl
 | a::as,(k,x)::ws,ns,hl,e,hp=>by
  cases ns with
  | nil=>simp at e
  | cons n ns =>
   simp only [map_cons,List.cons.injEq] at e
   obtain ⟨ps,t,e1,e2⟩:=ywd as ws ns (by simpa using hl) e.2 fun j b hb=>by
    obtain ⟨key,k',x',f1,f2,f3⟩:=hp (j+1) b (by simpa using hb)
    exact ⟨key,k',x',by simpa using f1,f2,f3⟩
   obtain ⟨key,k',x',f1,f2,f3⟩:=hp 0 a rfl
   simp at f1
   obtain ⟨rfl,rfl⟩:=f1
   obtain ⟨j,tk,g1,rfl⟩:∃ j tk,k=Sum.inl j/\key=Value.int j tk:=by
    rcases ybi f2 with ⟨j,tk,g1,g2⟩|⟨y,tk,g1,g2⟩
    .exact ⟨j,tk,g1,g2⟩
    .rw [g1] at e;cases e.1
   rw [g1] at e
   obtain rfl:j=n:=by injection e.1
   exact ⟨(j,tk,x)::ps,⟨⟨a,_,_,rfl,f3,rfl,rfl⟩,t⟩,by rw [map_cons,e1],by rw [map_cons,e2];rfl⟩
theorem yey {α:Type}:∀ {as:List Addr}{ts:List α}{b:Addr}{t:α},(as.zip ts).lookup b=some t->∃ j:Nat,as[j]?=some b/\ts[j]?=some t
 | [],_,_,_,h=>by simp at h
 | _::_,[],_,_,h=>by simp at h
 | a::as,u::ts,b,t,h=>by
  rw [zip_cons_cons,lookup_cons] at h
  split at h
  .rename_i hb
   cases h
   exact ⟨0,by rw [eq_of_beq hb];rfl,rfl⟩
  .obtain ⟨j,h1,h2⟩:=yey h
   exact ⟨j+1,by simpa using h1,by simpa using h2⟩
theorem yoK:∀ {kvs:List (Key×V)}{ws:List (Key×Value)},KV kvs ws->ws.map (·.1)=kvs.map (·.1)/\∀ i:Nat,i<kvs.length->RelV ((kvs.map (·.2)).getD i .non) ((ws.map (·.2)).getD i .none):=by
 intro kvs ws h
 induction h with
 | nil=>exact ⟨rfl,fun i hi=>by simp at hi⟩
 | @cons p q _ _ h1 _ ih =>
  refine ⟨by rw [map_cons,map_cons,ih.1,h1.1],fun i hi=>?_⟩
  cases i with
  | zero=>exact h1.2
  | succ i=>simpa using ih.2 i (by simpa using hi)
theorem yoL {α:Type}{f:α->V}{g:α->Value}:∀ {l:List α},(∀ i∈l,RelV (f i) (g i))->Vals (l.map f) (l.map g)
 | [],_=>.nil
 | i::l,h=>.cons (h i mem_cons_self) (yoL fun j hj=>h j (mem_cons_of_mem _ hj))
theorem yhs (hc:X.calm=true):yfK X (.builtin "sorted") rSI:=by
 intro pins s σ H xs us Q I rr hh
 obtain ⟨r,d,kvs,ns,rfl,hr,hd,hk,h64,q⟩:=hh
 obtain ⟨u,rfl,rx⟩:=vals1 rr
 cases rx
 obtain ⟨hview,_,_⟩:=I.hok r _ hr
 obtain ⟨z,sy,ws,kv,hD⟩:=I.hok d _ hd
 obtain ⟨ep,hat⟩:=hD.dictAt
 obtain ⟨kv1,kv2⟩:=yoK kv
 have lw:ws.length=kvs.length:=by have:=congrArg length kv1;simpa using this
 have ln:ns.length=kvs.length:=by have:=congrArg length hk;simpa using this.symm
 have nd:ns.Nodup:=by
  obtain ⟨_,_,_,_,_,_,_,_,n⟩:=hD
  rw [kv1,hk] at n
  exact (List.pairwise_map.mp n).imp fun h e=>h (by rw [e])
 refine Calls.call_function_entry kind_sorted plain_sorted entry_sorted (args_sorted1 _) ?_
 unfold Builtin.«sorted»
 refine wpAny_bind (m:=checkCount "sorted" 1 1 _) (wpAny_pure ?_)
 refine wpAny_bind (PySem.W.kdx_collect (A:=X.A.in1) (knd:=ycB X.prog X.w) (kvs:=ws) (ep:=ep) (I.ok.hd hc) ⟨_,hview,rfl,rfl⟩ hat (by rw [lw];exact z) fun h' tk as keep hl hG=>wpAny_bind (wpAny_newList ?_ (by rw [length_map,hl,lw];exact z)))
 obtain ⟨ps,tp,e1,e2⟩:=ywd (h:=h') as ws ns hl (by rw [kv1,hk]) fun j a ha=>hG.pairs j a ha
 have la:as.length=ns.length:=by omega
 have above:∀ a∈as,s.heap.objs.size<a:=hG.above
 have there:∀ a∈as,a<h'.objs.size:=fun a ha=>hG.there ha
 generalize hB:h'.objs.size=B at *
 have noB:s.heap.get? B=none:=by
  cases e:s.heap.get? B with
  | none=>rfl
  | some o=>exact absurd (Heap.lt_size (keep B o e)) (by rw [hB];exact lt_irrefl _)
 have noA:∀ a∈as,s.heap.get? a=none:=fun a ha=>Heap.get?_none_of_le (le_of_lt (above a ha))
 have free:∀ b,s.heap.get? b=none->H b=none:=fun b e=>by
  cases e2:H b with
  | none=>rfl
  | some o=>obtain ⟨u,hu⟩:=yuw (I.hok b o e2);rw [e] at hu;cases hu
 have hoL:(h'.push { cls:=.type "list",data:=.seq (as.map Value.ref).toArray }).get? B=some (seqObj "list" (as.map Value.ref).toArray 0):=by rw [<- hB];exact Heap.get?_push_size _ rfl
 refine wpAny_bind (wpAny_holding (wpAny_call_entry PySem.F.slot_list_sort ⟨_,hoL,rfl⟩ PySem.F.entry_list_sort ?body (PySem.F.args_list_sort_1 _)))
 case body =>
  refine yuv (s:={ s with heap:=h'.push { cls:=.type "list",data:=.seq (as.map Value.ref).toArray },toks:=tk }) (ps:=ps) hoL (tp.mono fun b o _ e=>Heap.get?_push_of_some _ e) (fun z=>?_) (by rw [e1];exact nd) (by rw [length_map];omega) fun qa z1 z2=>?_
  .obtain ⟨a,ha,e⟩:=List.mem_map.mp z
   cases e
   exact absurd (there B ha) (lt_irrefl _)
  refine ⟨_,rfl,wpAny_pure ⟨_,rfl,?_⟩⟩
  have lq:qa.toList.length=ns.length:=by have:=z1.size_eq;simpa [la] using this
  have pq:qa.toList.Perm (List.range ns.length):=by have:=Array.perm_iff_toList_perm.mp z1;simpa [la] using this
  have inq:∀ i∈qa.toList,i<ns.length:=fun i hi=>by have:=pq.mem_iff.mp hi;simpa using this
  have nda:as.Nodup:=hG.rise.imp fun h=>ne_of_lt h
  have ndq:qa.toList.Nodup:=pq.nodup_iff.mpr List.nodup_range
  generalize hS:sortedHeap (h'.push { cls:=.type "list",data:=.seq (as.map Value.ref).toArray }) B (as.map Value.ref) (toArray (qa.toList.map fun i=>(as.map Value.ref).getD i Value.none))=S
  have hFa:∀ b o,b≠B->h'.get? b=some o->S.get? b=some o:=fun b o hb e=>by
   rw [<- hS]
   unfold sortedHeap
   exact (Heap.get?_update_other _ _ (Ne.symm hb)).trans (Heap.get?_push_of_some _ (Heap.get?_push_of_some _ ((Heap.get?_update_other _ _ (Ne.symm hb)).trans (Heap.get?_push_of_some _ e))))
  have hFB:∃ c,S.get? B=some (seqObj "list" (toArray (qa.toList.map fun i=>(as.map Value.ref).getD i Value.none)) c):=by
   rw [<- hS]
   unfold sortedHeap
   exact ⟨_,get?_update_seq (Heap.get?_push_of_some _ (Heap.get?_push_of_some _ (get?_update_seq hoL _))) _⟩
  have hF:∀ b o,s.heap.get? b=some o->S.get? b=some o:=fun b o e=>hFa b o (fun z=>by rw [z,noB] at e;cases e) (keep b o e)
  have aget:∀ i,i<ns.length->∃ a,as[i]?=some a/\as.getD i 0=a/\a∈as:=fun i hi=>by
   have h1:i<as.length:=by omega
   exact ⟨as[i],List.getElem?_eq_getElem h1,by simp [getD,List.getElem?_eq_getElem h1],getElem_mem h1⟩
  have mem:∀ a∈(qa.toList.map fun i=>as.getD i 0),a∈as:=fun a ha=>by
   obtain ⟨i,hi,rfl⟩:=List.mem_map.mp ha
   obtain ⟨a,_,e,m⟩:=aget i (inq i hi)
   rw [e];exact m
  have neB:∀ a∈as,a≠B:=fun a ha=>ne_of_lt (there a ha)
  have kat:∀ i,yfR ps i=ns.getD i 0:=fun i=>by
   unfold yfR
   rw [<- e1]
   simp [getD]
  refine ⟨.ref B,yCr H B (qa.toList.map fun i=>as.getD i 0) (qa.toList.map fun i=>[V.int (ns.getD i 0),(kvs.map (·.2)).getD i .non]),?_,rfl,q B _ qa.toList pq ?_ nd (by simp) ?_ ?_⟩
  .show L2.Inv X pins σ _ { s with heap:=S,toks:=tk }
   refine yxU I hF (fun b o e=>?_) fun b o e e2=>?_
   .unfold yCr upd yoz
    rw [if_neg fun z=>by rw [z,free _ noB] at e;cases e]
    cases e3:List.lookup b ((qa.toList.map fun i=>as.getD i 0).zip (qa.toList.map fun i=>[V.int (ns.getD i 0),(kvs.map (·.2)).getD i .non])) with
    | none=>exact e
    | some t =>
     obtain ⟨j,g1,_⟩:=yey e3
     rw [free _ (noA b (mem b (mem_of_getElem? g1)))] at e
     cases e
   .unfold yCr upd yoz at e2
    split at e2
    .rename_i hb
     subst hb
     cases e2
     obtain ⟨c,hc⟩:=hFB
     refine ⟨noB,by simp [lq];rw [ln];exact z,_,c,?_,hc⟩
     rw [map_map]
     refine yoL fun i hi=>?_
     obtain ⟨a,f1,f2,_⟩:=aget i (inq i hi)
     show RelV (V.ref (as.getD i 0)) _
     rw [f2]
     simp [getD,f1]
     rfl
    .split at e2
     .rename_i t e3
      cases e2
      obtain ⟨j,g1,g2⟩:=yey e3
      rw [getElem?_map] at g1 g2
      cases e4:qa.toList[j]? with
      | none=>rw [e4] at g1;cases g1
      | some i =>
       rw [e4] at g1 g2
       have hi:=inq i (mem_of_getElem? e4)
       obtain ⟨a,f1,f2,f3⟩:=aget i hi
       simp only [map_some,Option.some.injEq] at g1 g2
       rw [f2] at g1
       subst g1
       subst g2
       obtain ⟨key,k,x,w1,w2,w3⟩:=hG.pairs i a f1
       have wk:k=Sum.inl (ns.getD i 0):=by
        have h1:(ws.map (·.1))[i]?=some k:=by rw [getElem?_map,w1];rfl
        rw [kv1,hk,getElem?_map] at h1
        rw [List.getElem?_eq_getElem hi] at h1
        simp [getD,List.getElem?_eq_getElem hi] at h1 ⊢
        exact h1.symm
       obtain ⟨tk2,rfl⟩:∃ tk,key=Value.int (ns.getD i 0) tk:=by
        rcases ybi w2 with ⟨j,tk,g1,g2⟩|⟨y,tk,g1,g2⟩
        .rw [wk] at g1;cases g1;exact ⟨tk,g2⟩
        .rw [wk] at g1;cases g1
       have wx:(ws.map (·.2)).getD i .none=x:=by simp [getD,w1]
       refine ⟨noA a f3,by simp [sizeLine_eq],[_,x],.cons ⟨_,rfl⟩ (.cons ?_ .nil),_,hFa a _ (neB a f3) w3,rfl,_,rfl⟩
       rw [<- wx]
       exact kv2 i (by omega)
     .rw [e] at e2;cases e2
  .refine List.pairwise_iff_getElem.mpr fun i j hi hj hij=>?_
   have:=z2 i j (le_of_lt hij) (by simpa [la,lq] using hj)
   unfold Kp at this
   rw [kat,kat] at this
   have hi':i<qa.size:=by simpa using hi
   have hj':j<qa.size:=by simpa using hj
   rw [Array.getElem?_eq_getElem hi',Array.getElem?_eq_getElem hj'] at this
   simpa using this
  .intro a ha
   rcases mem_cons.mp ha with rfl|ha
   .exact free _ noB
   .exact free _ (noA a (mem a ha))
  .refine List.nodup_cons.mpr ⟨fun h=>neB _ (mem _ h) rfl,?_⟩
   refine List.pairwise_map.mpr (ndq.imp_of_mem fun {i j} hi hj hij e=>hij ?_)
   obtain ⟨a,f1,f2,_⟩:=aget i (inq i hi)
   obtain ⟨b,g1,g2,_⟩:=aget j (inq j hj)
   rw [f2,g2] at e
   subst e
   exact (List.getElem?_inj (by have:=inq i hi;omega) nda).mp (f1.trans g1.symm)
variable {A:Nat->Addr}{o:Expr}{xa:XE}{pos p apos cpos:Pos}{x:Str}
theorem z_sortI (ho:ZE X A o xa) (hm:X.mg x=none) (hc:X.calm=true:=by rfl) (m:Nm x:=by exact ⟨by rfl',by rfl',by rfl'⟩) (hg:Gl X x:=by rfl) (hv:bootBuiltins x=some (.builtin "sorted"):=by rfl') (hbase:attributeBase o "items" X.env (eval o X.env)=eval o X.env:=by rfl) (hline:(apos.endLine == cpos.line)=true:=by rfl) (he:starEach [.Call (.Attribute o "items" apos) [] [] cpos] X.env=(false,eval (.Call (.Attribute o "items" apos) [] [] cpos) X.env)::starEach [] X.env:=by rfl) (hpl:(backTo pos (starEach [] X.env)).any (·.1)=false:=by rfl) :
  ZO X A (.Call (.Name x p) [.Call (.Attribute o "items" apos) [] [] cpos] [] pos) (yju xa) :=
 wO (yjR (yhs hc) hg hm hv (yfL (yvC PySem.F.plainAttrs_dict PySem.F.slot_dict_items PySem.F.type_dict_items yux ho.of hbase hline) yjo he) m.n m.d he hpl) (yrq (K:=ckX X A) sE)
end
end PXS
namespace PX
open PySem L2 PySem.Spec PyProof.Rows
section
theorem yuy {P:Program}{w:World}{K:PySem.W.Frag}{tg:Expr}(a it:Addr) (m:Nat):Turn P w K tg (ItR K a m) [it] it (fun i h=>i<=m/\h.IsRevIter it a ((m:Int)-1-(i:Nat))) where
 mem:=by simp
 obj:=fun i h st b hb=>by
  have e:b=it:=by simpa using hb
  subst e
  obtain ⟨_,o,e,c,d⟩:=st
  exact ⟨o,e,fun v z=>by rw [d] at z;cases z⟩
 keep:=fun i h h' st k=>⟨st.1,st.2.at fun o e=>k it (by simp) o e⟩
 item:=by
  intro X hP hw hK hc i pins s σ H E I hf st hg
  subst hP hw hK
  obtain ⟨hi,xs,x,hq,hx⟩:=hg
  obtain ⟨its,rv,p,hz⟩:=I.list hq
  obtain ⟨u,hu,ru⟩:=rv.get hx
  obtain ⟨f0,f1,f2,f3,f4,f5⟩:=hf it (by simp)
  have e0:(m:Int)-1-(i:Nat)=((m-1-i:Nat):Int):=by omega
  have st2:=st.2
  rw [e0] at st2
  refine wpAny_pyNext_rev_item st2 p.isList (x:=u) (by simpa using hu) fun h' st' sb=>?_
  have I1:Inv X pins σ H { s with heap:=h' }:=I.turned (t':=s.toks) (fun b o hb e=>(sb.2 b hb).trans e) f0 f1 f3 f4 f5
  obtain ⟨o,e,c,d⟩:=id st'
  have e2:((m-1-i:Nat):Int)-1=(m:Int)-1-((i+1:Nat):Int):=by omega
  rw [e2] at st'
  exact ⟨u,rfl,yqk (s:={ s with heap:=h' }) e c d (by decide) ⟨x,H,I1,ru,⟨rfl,fun ys hy=>by rw [I.list_inj hy hq];exact hx⟩,⟨hi,st'⟩,fun b hb=>(hf b hb).1⟩⟩
 done:=by
  intro X hP hw hK hc i pins s σ H E I hf st hg
  subst hP hw hK
  obtain rfl:i=m:=hg
  obtain ⟨f0,f1,f2,f3,f4,f5⟩:=hf it (by simp)
  have st2:=st.2
  rw [show (i:Int)-1-(i:Nat)=-1 by omega] at st2
  exact wpAny_pyNext_rev_end (I.ok.hd hc) st2 fun h' eb=>⟨rfl,I.turned (t':=s.toks) (fun b o hb e=>eb b o hb e) f0 f1 f3 f4 f5⟩
 self:=fun _ _ _ _ _ st h=>wpAny_pyIter_revIter st.2 h
variable {X:Cx}{A:Nat->Addr}{tg a:Expr}{p pos:Pos}{xa:XE}
theorem yAS {ta:TE}(hg:Gl X "reversed") (hm:X.mg "reversed" = none) (ha:PE X a ta) (he:starEach [a] X.env=(false,eval a X.env)::starEach [] X.env) (hs:starEach [a] X.env=[(false,eval a X.env)]):PI X tg (.Call (.Name "reversed" p) [a] [] pos) (yFy X.K ta):=by
 intro pins s σ H R I h
 refine Call_ (ykY I hg hm ynr (PyProof.Rows.callWith_type1 (thn (yfL ha yjo he pos pins s σ H (fun vs H1=>match vs with|[x]=>∃ b xs,x=.ref b/\SqL X.K H1 b xs/\R (ItR X.K b xs.length) H1|_=>False) I h) fun us s1 ⟨vs,H1,I1,r1,q1⟩=>?_) hs rfl))
 cases r1 with
 | nil=>exact q1.elim
 | cons r rr =>
  cases rr with
  | cons=>exact q1.elim
  | nil =>
  obtain ⟨b,xs,e,hq,q⟩:=q1
  subst e
  cases r
  obtain ⟨its,rv,pp,hz⟩:=I1.list hq
  have hl:=rv.length
  refine call_reversed_list pp.isList (wpAny_pyIter_revIter (s:={ s1 with heap:=s1.heap.push (revObj b ((its.toArray.size:Int)-1)) }) (l:=b) (i:=(its.toArray.size:Int)-1) ⟨_,Heap.get?_push_size _ rfl,rfl,rfl⟩ ?_)
  refine ⟨s1.heap.objs.size,[s1.heap.objs.size],_,_,H1,rfl,I1.kept (t':=s1.toks) fun b o e=>Heap.get?_push_of_some _ e,yuy b _ xs.length,⟨zero_le _,_,Heap.get?_push_size _ rfl,rfl,?_⟩,fun b hb=>?_,q⟩
  .show Data.fields #[.ref b,rawInt ((its.toArray.size:Int)-1)]=Data.fields #[.ref b,rawInt ((xs.length:Int)-1-((0:Nat):Int))]
   rw [hl]
   simp
  .have e:b=s1.heap.objs.size:=by simpa using hb
   subst e
   exact I1.fpOk (Nat.le_refl _) (I1.hok.fresh (Nat.le_refl _))
theorem yxV {rest:List Stmt}{s:XS}{y:XG}(hi:ZE X A a xa) (hg:ZG X A tg y) (hb:ZSs X A rest s) (hp:PassesOwn (model X.prog X.w) X.A X.env X.xe:=by exact PassesOwn.never) (hc:X.calm=true:=by rfl) (hs:∀ x,foldedSetIterable a X.env x=pure x:=by exact fun _=>rfl):ZS X A (.For tg a rest [] pos) (ykr false xa y s) :=
 wS (yqo hp hc (ymA hi.of) hg.of hb.of hs) (yuq (K:=ckX X A) sE sG sS)
theorem yxW {rest:List Stmt}{s:XS}{y:XG}{pos':Pos}(hm:X.mg "reversed" = none) (hi:ZE X A a xa) (hg:ZG X A tg y) (hb:ZSs X A rest s) (hp:PassesOwn (model X.prog X.w) X.A X.env X.xe:=by exact PassesOwn.never) (hc:X.calm=true:=by rfl) (hgl:Gl X "reversed":=by rfl) (he:starEach [a] X.env=(false,eval a X.env)::starEach [] X.env:=by rfl) (hs1:starEach [a] X.env=[(false,eval a X.env)]:=by rfl) (hs:∀ x,foldedSetIterable (.Call (.Name "reversed" p) [a] [] pos') X.env x=pure x:=by exact fun _=>rfl):ZS X A (.For tg (.Call (.Name "reversed" p) [a] [] pos') rest [] pos) (ykr true xa y s) :=
 wS (yqo hp hc (yAS hgl hm hi.of he hs1) hg.of hb.of hs) (yur (K:=ckX X A) sE sG sS)
end
end PX
namespace PX
open PySem L2 PySem.Spec PyProof.Rows
section
variable {X:Cx}{A:Nat->Addr}{a o:Expr}{xa xb:XE}{pos apos cpos:Pos}
theorem yAT:MtM X "dict.update" yFz:=by
 intro pins s σ H x vs v us Q I rx rv h
 obtain ⟨d,b,kvs,more,rfl,rfl,hne,hH,hB,hz,q⟩:=h
 cases rx
 obtain ⟨u,rfl,ru⟩:=rv.one
 cases ru
 obtain ⟨z,hd,vs,rel,dd⟩:=yxy I.hok hH
 obtain ⟨z2,hd2,vs2,rel2,dd2⟩:=yxy I.hok hB
 refine call_meetsIn PySem.F.slot_dict_update dd.typeIs PySem.F.entry_dict_update (PySem.F.args_dict_update_2 _ _) (meets_dict_update (ycB X.prog X.w) d b hne hd2) ⟨vs,vs2,dd,dd2,by rw [<- rel.length,<- rel2.length];exact hz,fun h' dd' _ hs=>?_⟩
 have he:∃ q,h'.get? d=some q:=let ⟨q,_,_,hq,_⟩:=dd';⟨q,hq⟩
 refine ⟨.non,_,ynf (t':=s.toks) I (by rw [hH];exact True.intro) hs he (yvS ?_ hd (rel2.merge rel) dd'),rfl,q⟩
 exact Nat.le_trans (ygm more kvs) hz
end
end PX
namespace PX
open PySem L2 PySem.Spec PyProof.Rows
variable {X:Cx}{A:Nat->Addr}{x:Str}
theorem yxX {elt iter cnd:Expr}{px:Pos}{scope:Scope}{cpos:Pos}{it:XA}{xe:XE}{xc:XT}{ix:List Nat}(fr:List Str) (hi:ZI X A (.Name x px) iter it) (he:∀ (cl:List (Str×Addr)) (C:Addr) (s₃:Shared) (H₃:Hp) (fp:List Addr) (pins:List (Addr×Obj)),ZE (cxC X scope cl C (x::fr) s₃ H₃ fp pins) A elt xe) (hq:∀ (cl:List (Str×Addr)) (C:Addr) (s₃:Shared) (H₃:Hp) (fp:List Addr) (pins:List (Addr×Obj)),ZT (cxC X scope cl C (x::fr) s₃ H₃ fp pins) A cnd xc) (hc:X.calm=true:=by rfl) (hfr:FrOk X scope ix fr:=by repeat' first|exact True.intro|exact rfl|refine And.intro ?_ ?_) (hnd:(x::fr).Nodup:=by rfl') (hkind:scope.kind=.function:=by rfl) (hcell:∀ y∈scope.names,y.2≠.cell:=by rfl') (hnames:∀ y∈scope.names,y.2=.local->scope.names.lookup y.1=some .local:=by rfl') (hfree0:∀ y∈scope.names,y.2=.free->y.1∈fr:=by rfl') (hx:scope.names.lookup x=some .local:=by rfl) (hs:∀ v,foldedSetIterable iter X.env v=pure v:=by exact fun _=>rfl):ZO X A (.ListComp elt [⟨.Name x px,iter,[cnd],0⟩] scope cpos) (yfF it ix xc xe) :=
 wO (yhD ix fr hc hi.of hfr (te:=cE (ckX X A) xe) (tc:=cT (ckX X A) xc) (fun cl C s₃ H₃ fp pins=>(he cl C s₃ H₃ fp pins).of) (fun cl C s₃ H₃ fp pins=>yrB (hq cl C s₃ H₃ fp pins).of) hnd hkind hcell hnames hfree0 hx hs) (ylR (K:=ckX X A) ix sI sT sE)
end PX
namespace PX
open PySem L2 PySem.Spec PyProof.Rows
variable {X:Cx}{A:Nat->Addr}{x y:Str}{py spos:Pos}{iy:Nat}
theorem yrJ {elt iter cnd:Expr}{px:Pos}{scope:Scope}{cpos:Pos}{it:XA}{xe:XE}{xc:XT}{ix:List Nat}(fr:List Str) (hi:ZI X A (.Name x px) iter it) (he:∀ (cl:List (Str×Addr)) (C:Addr) (s₃:Shared) (H₃:Hp) (fp:List Addr) (pins:List (Addr×Obj)),ZE (cxC X scope cl C (x::fr) s₃ H₃ fp pins) A elt xe) (hq:∀ (cl:List (Str×Addr)) (C:Addr) (s₃:Shared) (H₃:Hp) (fp:List Addr) (pins:List (Addr×Obj)),ZT (cxC X scope cl C (x::fr) s₃ H₃ fp pins) A cnd xc) (hc:X.calm=true:=by rfl) (hfr:FrOk X scope ix fr:=by repeat' first|exact True.intro|exact rfl|refine And.intro ?_ ?_) (hnd:(x::fr).Nodup:=by rfl') (hkind:scope.kind=.function:=by rfl) (hcell:∀ y∈scope.names,y.2≠.cell:=by rfl') (hnames:∀ y∈scope.names,y.2=.local->scope.names.lookup y.1=some .local:=by rfl') (hfree0:∀ y∈scope.names,y.2=.free->y.1∈fr:=by rfl') (hx:scope.names.lookup x=some .local:=by rfl) (hs:∀ v,foldedSetIterable iter X.env v=pure v:=by exact fun _=>rfl) (hN:X.N.Nodup:=by exact nd) (hyi:X.N[iy]?=some y:=by rfl) (hyx:Loc X.env.scope y:=by first|exact Or.inl rfl|exact Or.inr rfl) (hyf:X.fn y=true\/X.env.scope.names.lookup y=some .local:=by exact Or.inl rfl) (hsw:swapsWith (.ListComp elt [⟨.Name x px,iter,[cnd],0⟩] scope cpos) (some (.Name y py)) spos.line X.env=pure true:=by rfl):ZS X A (.Assign [.Name y py] (.ListComp elt [⟨.Name x px,iter,[cnd],0⟩] scope cpos) spos) (ybG (xFz (yfF it ix xc xe)) (yq iy)) :=
 wS (yoD ix fr hc hi.of hfr (te:=cE (ckX X A) xe) (tc:=cT (ckX X A) xc) (fun cl C s₃ H₃ fp pins=>(he cl C s₃ H₃ fp pins).of) (fun cl C s₃ H₃ fp pins=>yrB (hq cl C s₃ H₃ fp pins).of) hnd hkind hcell hnames hfree0 hx hs hN hyi hyx hyf hsw) (yna (yvG (ylR (K:=ckX X A) ix sI sT sE)) (ygi iy))
theorem yuz {elt iter:Expr}{px:Pos}{scope:Scope}{cpos:Pos}{it:XA}{xe:XE}{ix:List Nat}(fr:List Str) (hi:ZI X A (.Name x px) iter it) (he:∀ (cl:List (Str×Addr)) (C:Addr) (s₃:Shared) (H₃:Hp) (fp:List Addr) (pins:List (Addr×Obj)),ZE (cxC X scope cl C (x::fr) s₃ H₃ fp pins) A elt xe) (hc:X.calm=true:=by rfl) (hfr:FrOk X scope ix fr:=by repeat' first|exact True.intro|exact rfl|refine And.intro ?_ ?_) (hnd:(x::fr).Nodup:=by rfl') (hkind:scope.kind=.function:=by rfl) (hcell:∀ y∈scope.names,y.2≠.cell:=by rfl') (hnames:∀ y∈scope.names,y.2=.local->scope.names.lookup y.1=some .local:=by rfl') (hfree0:∀ y∈scope.names,y.2=.free->y.1∈fr:=by rfl') (hx:scope.names.lookup x=some .local:=by rfl) (hs:∀ v,foldedSetIterable iter X.env v=pure v:=by exact fun _=>rfl) (hN:X.N.Nodup:=by exact nd) (hyi:X.N[iy]?=some y:=by rfl) (hyx:Loc X.env.scope y:=by first|exact Or.inl rfl|exact Or.inr rfl) (hyf:X.fn y=true\/X.env.scope.names.lookup y=some .local:=by exact Or.inl rfl) (hsw:swapsWith (.ListComp elt [⟨.Name x px,iter,[],0⟩] scope cpos) (some (.Name y py)) spos.line X.env=pure true:=by rfl):ZS X A (.Assign [.Name y py] (.ListComp elt [⟨.Name x px,iter,[],0⟩] scope cpos) spos) (ybG (ygd (yiY it ix xe)) (yq iy)) :=
 wS (yDW (yoD ix fr hc hi.of hfr (te:=cE (ckX X A) xe) (fun cl C s₃ H₃ fp pins=>(he cl C s₃ H₃ fp pins).of) (fun _ _ _ _ _ _=>yku) hnd hkind hcell hnames hfree0 hx hs hN hyi hyx hyf hsw)) (yna (yqS (yof (K:=ckX X A) ix sI sE)) (ygi iy))
theorem yxY {k lv:Nat}{f:Addr}{fd:FuncData}{ps:List Str}{p pos:Pos}{fi} (M:Mk X.K (A k) f) (F:FnOk X.prog X.w X.K X.mg X.base CX0 lv f fd ps (spI (ckX X A) 0 k fi)) (hm:X.mg x=some (.ref (A k))) (hb:Binds X.K fd ps []) (hr:Room (lv+1) X.A:=by exact hr.mono (by omega)) (m:Nm x:=by exact ⟨by rfl',by rfl',by rfl'⟩) (hg:Gl X x:=by rfl):ZO X A (.Call (.Name x p) [] [] pos) (ygR fi yi) :=
 wO (ytp M F hr hg hm hb .nil ylk m.d) (yol (K:=ckX X A) (k:=k) ykc ymX)
end PX
namespace PX
open PySem L2 PySem.Spec PyProof.Rows KasS PXS
section
variable {X:Cx}{A:Nat->Addr}
theorem yhM {vs:List Value}{ns:List Int}(h:IntsAre vs ns):Vals (ns.map V.int) vs:=by
 induction h with
 | nil=>exact .nil
 | cons n t _ ih=>exact .cons ⟨t,rfl⟩ ih
variable {a:Expr}{xa:XE}{aa:XA}{pos p:Pos}{x:Str}{n:Nat}
end
end PX
namespace PX
open PySem L2 PySem.Spec PyProof.Rows KasS PXS
section
def NF (X:Cx) (a:Addr):Prop:=∀ o u,X.H₀ a≠some (.frz o u)
theorem yFB {X:Cx}{pins:List (Addr×Obj)}{σ:L2.St}{H:Hp}{s:Shared}{d:Addr}{u0 u1:HO}(I:L2.Inv X pins σ H s) (hd:H d=some u0) (nt:∀ xs,u0≠.tup xs) (no:∀ y,u0≠.own y) (nb:∀ ps,u0≠.tbl ps) (nf:NF X d)
  (ok:ObjOk X.prog X.w H s.heap d u0->ObjOk X.prog X.w H s.heap d u1):L2.Inv X pins σ (upd H d u1) s:=by
 have ne:∀ {b:Addr},H b=none->upd H d u1 b=none:=fun {b} e=>(yF fun z=>by subst z;rw [hd] at e;cases e).trans e
 refine ⟨I.ok,I.os,I.bare,⟨I.base.keep,I.base.slot,fun b o e n hx=>ne (I.base.free b o e n hx),I.base.there,fun b xs e=>?_,fun b o u e=>?_,fun b ps e=>?_⟩,I.loc,I.cell,ne I.free,fun x c e=>ne (I.freeC x c e),fun p hp=>?_,fun b u e=>?_,I.len⟩
 .have:=I.base.tups b xs e
  exact (yF fun z=>by subst z;rw [hd] at this;cases this;exact nt _ rfl).trans this
 .have:=I.base.frzs b o u e
  exact (yF fun z=>by subst z;exact nf o u e).trans this
 .obtain ⟨more,this⟩:=I.base.tbls b ps e
  exact ⟨more,(yF fun z=>by subst z;rw [hd] at this;cases this;exact nb _ rfl).trans this⟩
 .obtain ⟨h1,h2,h3⟩:=I.pin p hp
  exact ⟨h1,ne h2,h3⟩
 .have ho:∀ c y,H c=some (.own y)->upd H d u1 c=some (.own y):=fun c y q=>(yF fun z=>by subst z;rw [hd] at q;cases q;exact no _ rfl).trans q
  have ht:∀ c xs,H c=some (.tup xs)->upd H d u1 c=some (.tup xs):=fun c xs q=>(yF fun z=>by subst z;rw [hd] at q;cases q;exact nt _ rfl).trans q
  by_cases hb:b=d
  .subst hb
   rw [yx] at e
   cases e
   exact (ok (I.hok b u0 hd)).stay (fun _ _ _ q=>q) (fun c q=>ho c b q) ht
  .rw [yF hb] at e
   exact (I.hok b u e).stay (fun _ _ _ q=>q) (fun c q=>ho c b q) ht
theorem yrK {P:Program}{w:World}{K:PySem.W.Frag}{tg:Expr}(d it:Addr) (ob:Obj) (kvs:List (Key×V)) {es:Array DictEntry}{ep:Nat}(hdat:ob.data=.dict es ep):Turn P w K tg (ItD d ob kvs) [it] it (fun i h=>h.IsKeyIter it d i kvs.length ep) where
 mem:=by simp
 obj:=fun i h st b hb=>by
  have e:b=it:=by simpa using hb
  subst e
  obtain ⟨o,e,c,q⟩:=st
  exact ⟨o,e,fun v z=>by rw [q] at z;cases z⟩
 keep:=fun i h h' st k=>st.at fun o e=>k it (by simp) o e
 item:=by
  intro X hP hw hK hc i pins s σ H E I hf st hg
  subst hP hw hK
  obtain ⟨hi,hH⟩:=hg
  obtain ⟨hob,z,sy,ws,kv,hD⟩:=I.hok d _ hH
  obtain ⟨ep',hat⟩:=hD.dictAt
  obtain ⟨o',es',ho',hx1,hx2,hx3⟩:=id hat
  rw [hob] at ho';cases ho'
  rw [hdat] at hx2;cases hx2
  obtain ⟨kv1,kv2⟩:=yoK kv
  have lw:ws.length=kvs.length:=by have:=congrArg length kv1;simpa using this
  have hiw:i<ws.length:=by omega
  obtain ⟨f0,f1,f2,f3,f4,f5⟩:=hf it (by simp)
  rw [<- lw] at st
  refine wpAny_pyNext_dict_item st hat (k:=ws[i].1) (v:=ws[i].2) (List.getElem?_eq_getElem hiw) fun key h' hkey st' sb=>?_
  have I1:L2.Inv X pins σ H { s with heap:=h' }:=I.turned (t':=s.toks) (fun b o hb e=>(sb.2 b hb).trans e) f0 f1 f3 f4 f5
  obtain ⟨o,e,c,q⟩:=id st'
  rw [lw] at st'
  have hk:(kvs[i]'hi).1=ws[i].1:=by
   have h1:(ws.map (·.1))[i]?=(kvs.map (·.1))[i]?:=by rw [kv1]
   rw [getElem?_map,getElem?_map,List.getElem?_eq_getElem hiw,List.getElem?_eq_getElem hi] at h1
   exact (Option.some.inj h1).symm
  have rel:RelV (kV (kvs[i]'hi).1) key:=by
   rw [hk]
   rcases ybi hkey with ⟨i,tk,g1,g2⟩|⟨y,tk,g1,g2⟩
   .rw [g1,g2];exact ⟨tk,rfl⟩
   .rw [g1,g2];exact ⟨tk,rfl⟩
  exact ⟨key,rfl,yqk (s:={ s with heap:=h' }) e c q (by decide) ⟨kV (kvs[i]'hi).1,H,I1,rel,⟨rfl,_,List.getElem?_eq_getElem hi,rfl⟩,st',fun b hb=>(hf b hb).1⟩⟩
 done:=by
  intro X hP hw hK hc i pins s σ H E I hf st hg
  subst hP hw hK
  obtain ⟨hi,hH⟩:=hg
  subst hi
  obtain ⟨hob,z,sy,ws,kv,hD⟩:=I.hok d _ hH
  obtain ⟨ep',hat⟩:=hD.dictAt
  obtain ⟨o',es',ho',hx1,hx2,hx3⟩:=id hat
  rw [hob] at ho';cases ho'
  rw [hdat] at hx2;cases hx2
  obtain ⟨kv1,kv2⟩:=yoK kv
  have lw:ws.length=kvs.length:=by have:=congrArg length kv1;simpa using this
  obtain ⟨f0,f1,f2,f3,f4,f5⟩:=hf it (by simp)
  rw [<- lw] at st
  exact wpAny_pyNext_dict_end (I.ok.hd hc) st hat (by simp) fun h' eb=>⟨rfl,I.turned (t':=s.toks) (fun b o hb e=>eb b o hb e) f0 f1 f3 f4 f5⟩
 self:=fun _ _ _ _ _ st h=>wpAny_pyIter_keyiter st h
variable {X:Cx}{A:Nat->Addr}{tg a:Expr}{p pos:Pos}{xa:XE}
theorem yxZ {ta:TE}(ha:PE X a ta):PI X tg a (yAI (NF X) ta):=by
 intro pins s σ H R I h
 refine thn (ha pins s σ H _ I h) fun v s1 ⟨x,H1,I1,r1,q1⟩=>?_
 obtain ⟨d,kvs,e,hd,q⟩:=q1
 subst e
 cases r1
 have nf:NF X d:=fun o u z=>by have:=I1.base.frzs d o u z;rw [hd] at this;cases this
 obtain ⟨z,sy,ws,kv,hD⟩:=id (I1.hok d _ hd)
 obtain ⟨ep,hat⟩:=hD.dictAt
 obtain ⟨ob,es,ho,hx1,hx2,hx3⟩:=id hat
 obtain ⟨kv1,kv2⟩:=yoK kv
 have lw:ws.length=kvs.length:=by have:=congrArg length kv1;simpa using this
 have I2:=yFB (u1:=.frz ob (.dK kvs)) I1 hd (fun _ z=>by cases z) (fun _ z=>by cases z) (fun _ z=>by cases z) nf fun x=>⟨ho,x⟩
 refine wpAny_pyIter_dict sy hat ?_
 refine ⟨s1.heap.objs.size,[s1.heap.objs.size],_,_,_,rfl,I2.kept (t':=s1.toks) fun b o e=>Heap.get?_push_of_some _ e,yrK d _ ob kvs hx2,⟨_,Heap.get?_push_size _ rfl,rfl,by rw [lw];rfl⟩,fun b hb=>?_,q ob nf⟩
 have e:b=s1.heap.objs.size:=by simpa using hb
 subst e
 exact I2.fpOk (Nat.le_refl _) (I2.hok.fresh (Nat.le_refl _))
end
end PX
namespace PX
open PySem L2 PySem.Spec PyProof.Rows
section
variable {X:Cx}{A:Nat->Addr}
theorem yya:MtR X "str.find" yqI:=by
 intro pins s σ H x xs v us Q I rx rv h
 obtain ⟨z,c,rfl,rfl,hz,hm,q⟩:=h
 obtain ⟨t,rfl⟩:=rx
 obtain ⟨u,rfl,tu,rfl⟩:=vals1 rv
 rcases yqJ z c with ⟨_,h2⟩|⟨r,h1,_⟩
 .exact absurd hm h2
 .refine SC.find ?_
  have e:(Txt.find z ⟨#[c]⟩:Int)=((z.cps.toList.idxOf c:Nat):Int):=by
   unfold Txt.find
   rw [h1]
  rw [e]
  exact ⟨.int _,H,I.tok _,⟨_,rfl⟩,q⟩
variable {pos p apos:Pos}{x m:Str}{e:Expr}{es:List Expr}{aa:XA}{n:Nat}
structure yuA (K:PySem.W.Frag) (C:Addr) (m:Str) (f:Addr):Prop where
 rd:PySem.W.readsIn K C (.type "type")=true
 fc:PySem.W.findCls K (.ref C) (.type "type") m=some (.val (.ref f))
 sp:PySem.W.specialIn K (.ref C) "__getattribute__" = some (some (.builtin "type.__getattribute__"))
 kp:keepIn K (.ref f)=true
theorem yyb {C f:Addr}{k:Nat}{fd:FuncData}{ps:List Str}{sp:Sp}{E:XK}{t:TA}{pl:Sem Bool}{CX:CXT}(c:yuA X.K C m f) (hg:Gl X x) (hm:X.mg x=some (.ref C)) (F:FnOk X.prog X.w X.K X.mg X.base CX k f fd ps sp) (hr:Room k X.A) (hb:Binds X.K fd ps []) (hx:yge CX X E) (ha:PA X (e::es) t)
  (hd:(x == ("__debug__":Str))=false)
  (hst:starEach (e::es) X.env=(false,eval e X.env)::starEach es X.env) (hpl:(backTo pos (starEach es X.env)).any (·.1)=false)
  (ht:eval (.Call (.Attribute (.Name x p) m apos) (e::es) [] pos) X.env=(do
   let ov <- eval (.Name x p) X.env
   standAt apos.atName
   let (f,first) <- holding [ov] (getMethod ov m pl)
   callWith pos f first (backTo pos (starEach (e::es) X.env)) (backToKw pos (keywordEach [] X.env)))) :
  PE X (.Call (.Attribute (.Name x p) m apos) (e::es) [] pos) (ytm sp [] E t):=by
 intro pins s σ H Q I h
 refine PySem.W.methodCall_KW (pl:=pl) (thn (yqL (X:=X) hg hm hd pins s σ H (fun v H1=>v=.ref C/\H1=H) I ⟨rfl,rfl⟩) fun u s1 ⟨v,H1,I1,rx,ex,eh⟩=>?_) ht
 subst ex eh
 obtain rfl:u=Value.ref C:=rx
 refine PySem.W.method_cls I1.kIn c.sp (PySem.W.cls_value I1.kIn c.rd c.fc rfl ?_)
 have I1:=I1.tok (s1.toks+1)
 refine PySem.W.callWith_K (first:=[]) (h₀:=X.base) I.ok.mod.kin c.kp (thn (ha pos pins _ σ H1 _ I1 h) fun us s2 ⟨vs,H2,I2,r,q2⟩=>⟨I2.kIn,?_⟩) hst hpl
 exact ylb (us:=us) (vs:=vs) F hr hb .nil hx I2 r q2
theorem yyc {C f:Addr}{lv k:Nat}{fd:FuncData}{ps:List Str}{fi} {pl:Sem Bool}{o:Expr}{sp:Pos}(c:yuA X.K C m f) (hm:X.mg x=some (.ref C)) (F:FnOk X.prog X.w X.K X.mg X.base CX0 lv f fd ps (spJ (ckX X A) n k fi)) (hb:Binds X.K fd ps []) (ha:ZA X A es n aa) (nm:Nm x:=by exact ⟨by rfl',by rfl',by rfl'⟩) (hg:Gl X x:=by rfl) (hr:Room lv X.A:=by exact hr.mono (by omega)) (ho:PE X o (ypW 0):=by exact yjk rfl (by first|exact Or.inl rfl|exact Or.inr (Or.inl rfl)) (by rfl') (by rfl')) (hst:starEach (o::es) X.env=(false,eval o X.env)::starEach es X.env:=by rfl) (hpl:(backTo pos (starEach es X.env)).any (·.1)=false:=by rfl) (ht:eval (.Call (.Attribute (.Name x p) m apos) (o::es) [] pos) X.env=(do
   let ov <- eval (.Name x p) X.env
   standAt apos.atName
   let (f,first) <- holding [ov] (getMethod ov m pl)
   callWith pos f first (backTo pos (starEach (o::es) X.env)) (backToKw pos (keywordEach [] X.env))):=by rfl) (hq:swapsWith (.Call (.Attribute (.Name x p) m apos) (o::es) [] pos) none sp.line X.env=pure false:=by rfl):ZF X A (.Expr (.Call (.Attribute (.Name x p) m apos) (o::es) [] pos) sp) (xBI k fi aa) :=
 wF (yjN (yyb (E:=fun _ _ _=>False) c hg hm F hr hb ylk (yfL ho ha.of hst) nm.d hst hpl ht) hq) (yxM (K:=ckX X A) sA ha.len)
end
section
variable {P:Program}{w:World}{K:PySem.W.Frag}{mg:Str->Option Value}{base:Heap}{A:Nat->Addr}
theorem yFY {x qual:Str}{st:Stmt}{f:Addr}{fd:FuncData}{N ps:List Str}{k kc n:Nat}{s:XS}(F:Fun K x qual st f fd) (S:yev N ps (ybz st)) (hn:ps.length=n+1) (hN:n+1<=N.length)
  (h:∀ (cdv:Value) (Ar:Around) (outer:List Env) (sh:Shared) (H:Hp) (E:XK),Room k (Ar.deeper (envOfC qual (ybz st) sh.heap.objs.size f cdv))->ZFs (ytq CX0 P w K mg base N qual (ybz st) f cdv Ar outer sh H E).nox A (yfM st) s) :
  FnOk P w K mg base CX0 (k+1) f fd ps (spJ ⟨K,A⟩ n kc (yok N.length kc s)) :=
 F.ok S (fun _ _ _ _ h=>(yxL h).trans hn.symm) fun cdv Ar outer sh H vs Q E hr hq=>⟨_,(h cdv Ar outer sh H E hr).of,yrt (K:=⟨K,A⟩) hN sF hq⟩
end
end PX
namespace PX
open PySem L2 PySem.Spec PyProof.Rows
section
variable {X:Cx}{A:Nat->Addr}
end
end PX
namespace PX
open PySem L2 PySem.Spec PyProof.Rows
section
variable {prog:Program}{w:World}{A:Around}{E:Value->Shared->Prop}{s:Shared}
end
section
variable {X:Cx}{A:Nat->Addr}
end
end PX
namespace PX
open PySem L2 PySem.Spec PyProof.Rows
open Builtin Builtin.Str in
section
variable {prog:Program}{w:World}{A:Around}{E:Value->Shared->Prop}{s:Shared}
theorem ypF {x y:Str}{t u:Tok}{Q:Value->Shared->Prop}(hy:(y.length == 0)=false) (hz:x.length+2<=sizeLine)
  (h:∀ (l:List (Str×Tok)) (k:Nat),l.map (·.1)=Txt.split x y->Q (.ref s.heap.objs.size) { s with heap:=s.heap.push { cls:=.type "list",data:=.seq (strValues l).toArray },toks:=k }) :
  wpAny (model prog w) A (call (.builtin "str.split") [.str x t,.str y u]) Q E s:=by
 have h2:(partsBetween x (occurrences x y 0 x.length (x.length+1)) y.length).length<=sizeLine:=by
  have:=StrLaws.occ_length_le x y 0 x.length (x.length+1)
  rw [length_partsBetween]
  omega
 by_cases c1:(decide (x.length<y.length) || decide (strKind x<strKind y))=true
 .exact call_meets F.slot_str_split (typeIs_str _ _ _) F.entry_str_split (F.args_str_split_2 _ _) (meets_str_split_cannot_occur x y t u c1) (h [(x,t)] s.toks (if_pos c1).symm)
 .have c1':(decide (x.length<y.length) || decide (strKind x<strKind y))=false:=by simpa using c1
  by_cases c2:(occurrences x y 0 x.length (x.length+1)).isEmpty=true
  .exact call_meets F.slot_str_split (typeIs_str _ _ _) F.entry_str_split (F.args_str_split_2 _ _) (meets_str_split_not_found x y t u c1' hy c2) (h [(x,t)] s.toks ((if_neg c1).trans (if_pos c2)).symm)
  .refine call_meets F.slot_str_split (typeIs_str _ _ _) F.entry_str_split (F.args_str_split_2 _ _) (meets_str_split_sep x y t u c1' hy (by simpa using c2) (by omega) h2) ?_
   show wants Q E _ { s with toks:=_,heap:=s.heap.push { cls:=.type "list",data:=.seq (strsFrom s.toks (partsBetween x (occurrences x y 0 x.length (x.length+1)) y.length)).toArray } }
   rw [strsFrom_eq]
   exact h _ _ ((numbered_texts _ _).trans ((if_neg c1).trans (if_neg c2)).symm)
end
theorem yoM (z:Str):Txt.split z " " = yrv z:=by
 have e:(" ":Str)=⟨#[32]⟩:=by rfl'
 have h:=yia (Txt.split z " ") (fun q=>by have:=split_pos z " ";rw [q] at this;simp at this) (by rw [e];exact StrLaws.split_free z 32)
 rw [StrLaws.join_split] at h
 exact h.symm
theorem ylV:∀ (l:List (Str×Tok)),Vals ((l.map (·.1)).map V.str) (strValues l)
 | []=>.nil
 | (_,t)::l=>.cons ⟨t,rfl⟩ (ylV l)
section
variable {X:Cx}{A:Nat->Addr}
theorem yuB:MtR X "str.split" yvZ:=by
 intro pins s σ H x xs v us Q I rx rv h
 obtain ⟨z,rfl,rfl,hz,q⟩:=h
 obtain ⟨t,rfl⟩:=rx
 obtain ⟨u,rfl,ru⟩:=vals1 rv
 obtain ⟨t',rfl⟩:=ru
 have hs:z.length+2<=sizeLine:=by simp only [PySem.sizeLine_eq];omega
 refine ypF (by decide) hs fun l k e=>?_
 have e2:l.map (·.1)=yrv z:=e.trans (yoM z)
 have e3:=split_le z " "
 rw [yoM] at e3
 refine ⟨.ref s.heap.objs.size,_,I.laid (t':=k) (o:=.lst ((yrv z).map V.str)) (fun b o e=>Heap.get?_push_of_some _ e) (Nat.le_refl _) ?_,rfl,q _ (I.hok.fresh (Nat.le_refl _))⟩
 exact ⟨by rw [length_map];exact Nat.le_trans e3 hs,strValues l,0,e2 ▸ ylV l,Heap.get?_push_size _ rfl⟩
end
section
variable {X:Cx}{pins:List (Addr×Obj)}{σ:L2.St}{H:Hp}{s:Shared}{h':Heap}
end
section
variable {X:Cx}{A:Nat->Addr}{elts:List Expr}{x1:Nat}{tp p pos:Pos}{a b:Expr}{aa:XA}{n:Nat}
end
section
variable {X:Cx}{A:Nat->Addr}{pos:Pos}
end
end PX
namespace PX
open PySem L2 PySem.Spec PyProof.Rows
section
variable {X:Cx}{A:Nat->Addr}{a:Expr}{es:List Expr}{p pos:Pos}{x:Str}{aa:XA}{n lv:Nat}{f:Addr}{fd:FuncData}{ps:List Str}{fn:Fn}
end
end PX
namespace PX
open PySem L2 PySem.Spec PyProof.Rows
section
variable {X:Cx}{A:Nat->Addr}{tg a b c:Expr}{p pos:Pos}{aa:XA}{n:Nat}
end
end PX
namespace PX
open PySem L2 PySem.Spec PyProof.Rows
section
variable {X:Cx}{A:Nat->Addr}{tg a:Expr}{p pos:Pos}{xa:XE}{x:Str}{es:List Expr}{aa:XA}{n:Nat}
theorem yrL {f:Addr}{fd:FuncData}{ps:List Str}{lv k:Nat}{fn:Fn}(M:Mk X.K (A k) f) (F:FnOk X.prog X.w X.K X.mg X.base CX0 lv f fd ps (spE (ckX X A) (n+1+1) fn)) (hm:X.mg x=some (.ref (A k))) (hb:Binds X.K fd ps []) (ha:ZA X A (a::es) (n+1) aa) (hr:Room (lv+1) X.A:=by exact hr.mono (by omega)) (m:Nm x:=by exact ⟨by rfl',by rfl',by rfl'⟩) (hg:Gl X x:=by rfl) (he:starEach (a::es) X.env=(false,eval a X.env)::starEach es X.env:=by rfl) (hpl:(backTo pos (starEach es X.env)).any (·.1)=false:=by rfl):ZE X A (.Call (.Name x p) (a::es) [] pos) (yib k fn aa) :=
 wE (yqz M F hr hg hm hb .nil ylk ha.of m.d he hpl) (yry (K:=ckX X A) (k:=k) sA ha.len)
theorem yoN (hc:X.calm=true):yfK X (.builtin "any") yFA:=by
 intro pins s σ H xs us Q I r h
 obtain ⟨p,bs,rfl,hp,q⟩:=h
 obtain ⟨u,rfl,rx⟩:=vals1 r
 cases rx
 obtain ⟨its,n,rv,e,hz⟩:=I.lst hp
 have eb:=yjT rv
 subst eb
 have hl:s.heap.IsList p (bs.map Value.bool).toArray:=⟨_,e,rfl,n,rfl⟩
 have hlt:p<s.heap.objs.size:=Heap.lt_size e
 refine call_any_walk (wpAny_pyIter_list hl ?_)
 refine ⟨s.heap.objs.size,[s.heap.objs.size,p],[s.heap.objs.size],(bs.map Value.bool).toArray.size,_,_,fun i=>(bs[i]?).getD false,rfl,Walks.list (A:=X.A.in1) (I.ok.hd hc) _ p (ne_of_lt hlt) _,
  ⟨⟨_,Heap.get?_push_size _ rfl,rfl,rfl⟩,hl.push _⟩,fun i v s' Q' E' hP hQ=>?_,fun h' tk hk=>?_⟩
 .have hP:(bs.map Value.bool)[i]?=some v:=by simpa using hP
  rw [getElem?_map] at hP
  cases eb:bs[i]? with
  | none=>rw [eb] at hP;cases hP
  | some b =>
   rw [eb] at hP
   cases hP
   simp only [eb,Option.getD_some] at hQ
   exact wpAny_truthy_bool hQ
 .have ea:((List.range (bs.map Value.bool).toArray.size).any fun i=>(bs[i]?).getD false)=bs.any id:=by
   rw [size_toArray,length_map]
   exact LSm.range_any bs
  rw [ea]
  exact ⟨.bl _,H,I.kept (t':=tk) fun b o eo=>hk b o (fun hm=>by rw [List.mem_singleton.mp hm] at eo;exact absurd (Heap.lt_size eo) (lt_irrefl _)) (Heap.get?_push_of_some _ eo),rfl,q⟩
theorem ykx {elt iter:Expr}{px:Pos}{scope:Scope}{cpos:Pos}{xe:XE}{ix:List Nat}(fr:List Str) (hi:ZE X A iter xa) (he:∀ (cl:List (Str×Addr)) (C:Addr) (s₃:Shared) (H₃:Hp) (fp:List Addr) (pins:List (Addr×Obj)),ZE (cxC X scope cl C (x::fr) s₃ H₃ fp pins) A elt xe) (hc:X.calm=true:=by rfl) (hfr:FrOk X scope ix fr:=by repeat' first|exact True.intro|exact rfl|refine And.intro ?_ ?_) (hnd:(x::fr).Nodup:=by rfl') (hkind:scope.kind=.function:=by rfl) (hcell:∀ y∈scope.names,y.2≠.cell:=by rfl') (hnames:∀ y∈scope.names,y.2=.local->scope.names.lookup y.1=some .local:=by rfl') (hfree0:∀ y∈scope.names,y.2=.free->y.1∈fr:=by rfl') (hx:scope.names.lookup x=some .local:=by rfl) (hs:∀ v,foldedSetIterable iter X.env v=pure v:=by exact fun _=>rfl):ZO X A (.ListComp elt [⟨.Name x px,iter,[],0⟩] scope cpos) (yeV xa ix xe) :=
 wO (yxO (yhD ix fr hc (ymA hi.of) hfr (te:=cE (ckX X A) xe) (fun cl C s₃ H₃ fp pins=>(he cl C s₃ H₃ fp pins).of) (fun _ _ _ _ _ _=>yku) hnd hkind hcell hnames hfree0 hx hs)) (yrz (K:=ckX X A) ix sE sE)
end
end PX
namespace PX
open PySem L2 PySem.Spec PyProof.Rows KasS PXS
section
variable {X:Cx}{A:Nat->Addr}{xa:XE}{x:Str}
theorem yyd {elt iter:Expr}{px:Pos}{scope:Scope}{cpos:Pos}{xe:XE}{ix:List Nat}(fr:List Str) (hi:ZE X A iter xa) (he:∀ (cl:List (Str×Addr)) (C:Addr) (s₃:Shared) (H₃:Hp) (fp:List Addr) (pins:List (Addr×Obj)),ZE (cxC X scope cl C (x::fr) s₃ H₃ fp pins) A elt xe) (hc:X.calm=true:=by rfl) (hfr:FrOk X scope ix fr:=by repeat' first|exact True.intro|exact rfl|refine And.intro ?_ ?_) (hnd:(x::fr).Nodup:=by rfl') (hkind:scope.kind=.function:=by rfl) (hcell:∀ y∈scope.names,y.2≠.cell:=by rfl') (hnames:∀ y∈scope.names,y.2=.local->scope.names.lookup y.1=some .local:=by rfl') (hfree0:∀ y∈scope.names,y.2=.free->y.1∈fr:=by rfl') (hx:scope.names.lookup x=some .local:=by rfl) (hs:∀ v,foldedSetIterable iter X.env v=pure v:=by exact fun _=>rfl):ZO X A (.ListComp elt [⟨.Name x px,iter,[],0⟩] scope cpos) (yjw xa ix xe):=by
 have pe:PE X (.ListComp elt [⟨.Name x px,iter,[],0⟩] scope cpos) (ywa (NF X) (cE (ckX X A) xa) ix (cE (ckX X A) xe)):=by
  intro pins s σ H Q I h
  refine thn (yxO (yhD ix fr hc (yxZ hi.of) hfr (te:=cE (ckX X A) xe) (fun cl C s₃ H₃ fp pins=>(he cl C s₃ H₃ fp pins).of) (fun _ _ _ _ _ _=>yku) hnd hkind hcell hnames hfree0 hx hs) pins s σ H _ I h) fun v s1 ⟨y,H1,I1,r1,d,ob,kvs,nf,hd,q⟩=>?_
  exact ⟨y,_,yFB (u1:=.dK kvs) I1 hd (fun _ z=>by cases z) (fun _ z=>by cases z) (fun _ z=>by cases z) nf fun x=>x.2,r1,q⟩
 exact wO pe (yrA (K:=ckX X A) ix sE sE)
end
end PX
namespace My
open PySem L2 PX
theorem yFC:("":Str).length=0:=by rfl'
theorem yFD:(" ":Str).length=1:=by rfl'
theorem yAU:(" ; either ( ":Str).length=12:=by rfl'
theorem yAV:(" ; let b ":Str).length=9:=by rfl'
theorem yAW:(" ; put a a ; wait ) on low c ( )":Str).length=32:=by rfl'
theorem yAX:(" ; put a b":Str).length=10:=by rfl'
theorem yAY:(" ; put a b ; take c a ; wait":Str).length=28:=by rfl'
theorem yAZ:(" ; put a b ; throw low b":Str).length=24:=by rfl'
theorem yBa:(" ; put a b ; wait ) or ( )":Str).length=26:=by rfl'
theorem yBb:(" ; take b a":Str).length=11:=by rfl'
theorem yye:(" ; take c a":Str).length=11:=by rfl'
theorem yyf:(" ; wait":Str).length=7:=by rfl'
theorem yyg:(" ; wait )":Str).length=9:=by rfl'
theorem yyh:(" ; wait ) or ( ":Str).length=15:=by rfl'
theorem yyi:(" ; wait ) or ( wait )":Str).length=21:=by rfl'
theorem yEa:("(":Str).length=1:=by rfl'
theorem yEb:(")":Str).length=1:=by rfl'
theorem yyj:("abcdefgh":Str).length=8:=by rfl'
theorem yEc:("either":Str).length=6:=by rfl'
theorem yyk:("either ( ":Str).length=9:=by rfl'
theorem yEd:("let":Str).length=3:=by rfl'
theorem yyl:("let a ":Str).length=6:=by rfl'
theorem yEe:("on":Str).length=2:=by rfl'
theorem yEf:("or":Str).length=2:=by rfl'
theorem yEg:("put":Str).length=3:=by rfl'
theorem yEh:("take":Str).length=4:=by rfl'
theorem yEi:("throw":Str).length=5:=by rfl'
theorem yEj:("try":Str).length=3:=by rfl'
theorem yym:("try ( ":Str).length=6:=by rfl'
theorem yEk:("wait":Str).length=4:=by rfl'
theorem yyn {v0 v1:PV}{f:Nat->Fn}{h:AH}:yhR "long" f (.ins 1 ["slot","number"] [v0,v1]) h=f 1 [.ins 1 ["slot","number"] [v0,v1]] h:=ydx (by rfl')
theorem ywe {v0 v1:PV}{f:Nat->Fn}{h:AH}:yhR "long" f (.ins 3 ["slot","place"] [v0,v1]) h=f 3 [.ins 3 ["slot","place"] [v0,v1]] h:=ydx (by rfl')
theorem yyo {v0 v1:PV}{f:Nat->Fn}{h:AH}:yhR "long" f (.ins 4 ["place","slot"] [v0,v1]) h=f 4 [.ins 4 ["place","slot"] [v0,v1]] h:=ydx (by rfl')
theorem yig {v0 v1:PV}{h:AH}:yet [6,7] "parts" (.ins 6 ["parts","others"] [v0,v1]) h=some (v0,h):=ygS (by decide) (by rfl') (by rw [show idxOf ("parts":Str) ["parts","others"]=0 by rfl'];rfl)
theorem yht {v0 v1:PV}{h:AH}:yet [6,7] "others" (.ins 6 ["parts","others"] [v0,v1]) h=some (v1,h):=ygS (by decide) (by rfl') (by rw [show idxOf ("others":Str) ["parts","others"]=1 by rfl'];rfl)
theorem ysT {v0 v1:PV}{f:Nat->Fn}{h:AH}:yhR "long" f (.ins 6 ["parts","others"] [v0,v1]) h=f 6 [.ins 6 ["parts","others"] [v0,v1]] h:=ydx (by rfl')
theorem ylW {v0 v1 v2 v3:PV}{h:AH}:yet [6,7] "parts" (.ins 7 ["parts","name","slot","others"] [v0,v1,v2,v3]) h=some (v0,h):=ygS (by decide) (by rfl') (by rw [show idxOf ("parts":Str) ["parts","name","slot","others"]=0 by rfl'];rfl)
theorem yky {v0 v1 v2 v3:PV}{h:AH}:yet [6,7] "others" (.ins 7 ["parts","name","slot","others"] [v0,v1,v2,v3]) h=some (v3,h):=ygS (by decide) (by rfl') (by rw [show idxOf ("others":Str) ["parts","name","slot","others"]=3 by rfl'];rfl)
theorem yyp {v0 v1 v2 v3:PV}{f:Nat->Fn}{h:AH}:yhR "long" f (.ins 7 ["parts","name","slot","others"] [v0,v1,v2,v3]) h=f 7 [.ins 7 ["parts","name","slot","others"] [v0,v1,v2,v3]] h:=ydx (by rfl')
theorem yuC {v0 v1:PV}{f:Nat->Fn}{h:AH}:yhR "long" f (.ins 8 ["name","slot"] [v0,v1]) h=f 8 [.ins 8 ["name","slot"] [v0,v1]] h:=ydx (by rfl')
theorem ywf {f:Nat->Fn}{h:AH}:yhR "long" f (.ins 9 [] []) h=f 9 [.ins 9 [] []] h:=ydx (by rfl')
theorem yrM {v0 v1:PV}{h:AH}:yet [10] "words" (.ins 10 ["words","at"] [v0,v1]) h=some (v0,h):=ygS (by decide) (by rfl') (by rw [show idxOf ("words":Str) ["words","at"]=0 by rfl'];rfl)
theorem ywg {v0 v1:PV}{h:AH}:yet [10,12] "at" (.ins 10 ["words","at"] [v0,v1]) h=some (v1,h):=ygS (by decide) (by rfl') (by rw [show idxOf ("at":Str) ["words","at"]=1 by rfl'];rfl)
section
def sl_ (s:String):Array (Lean.TSyntax `Lean.Parser.Tactic.simpLemma):=(s.splitOn " ").toArray.map fun s=>⟨Lean.mkNode `Lean.Parser.Tactic.simpLemma #[Lean.mkNullNode,Lean.mkNullNode,Lean.mkIdent s.toName]⟩
local macro_rules | `(tactic| simp_all? only [$ls,*])=>`(tactic| simp only [$(sl_ "ybF yDb yAj yvN yAk x_c yDd yDe yFR yFs yxt yvO yAl yDf yFS yDg yFT yxu yAm yDh yDi yCq yDj yDk yDl x_call yFU yDm yAn yxv yAo yxw yvP yrf yAp yDn yon yrg yAq ytV yAr yAs yDo yDp yDq yDr yDs yDt yDu yDv x_i yFV ykg yvQ yoo yAu yDw yDx yDy yDz yDA yDB yAv yAw yDC yDD yDE yDF yDG yDH yDI yDJ yAx yAy yAz yAA yvR yxx yAB yDc bind_some Option.bind_none List.set_cons_zero List.set_cons_succ length_cons length_nil decide_eq_true_eq Bool.not_eq_true' decide_eq_false_iff_not if_true if_false ite_true ite_false and_self Int.reducePow Int.reduceToNat Int.reduceLT Int.reduceLE Int.reduceNeg Int.reduceAdd Int.reduceSub Nat.reduceLT Nat.reduceLeDiff Nat.reduceAdd true_and and_true reduceIte Nat.reduceEqDiff eq_self yDQ yFu yDM yDN yDO yDP Int.reduceEq Bool.not_true Bool.not_false yAU yAV yAW yAX yAY yAZ yBa yBb yye yyf yyg yyh yyi yyj yyk yyl yym yig yht ylW yky"),*,$ls,*])
local macro_rules | `(tactic| symm)=>`(tactic| simp_all? only [ybF])
def tbO (cs:List Nat):List (Nat×Nat×Bool):=cs.flatMap fun i=>cs.map fun j=>(i,j,i == j)
def yfS:List (Nat×Nat×Bool):=tbO [1,2,3,4,5,6,7,8,9]
def yfH:List PV->AH->Option (Nd×AH):=yok 1 11 (yl (ycW [11] 0 "stack" (ygd (ydY (yc (ygd (ypA)) (yi))))) (ycW [11] 0 "last_seen" (ygd (ypA))))
def yez:Fn:=ybt 4 (yl (ybG (xOp (ycs) (ybb [11] "stack" (yf 0)) (xUn yzY (xC (.int 1)))) (yq 3)) (ykl (yf 3) (yf 1) (yf 2)))
def yej:Fn:=ybt 3 (yl (ykr true (ybb [11] "stack" (yf 0)) (yq 2) (ybK (yp (yzb false (yf 1) (yf 2))) (yP (yhV (yf 2) (yf 1))) (yO))) (yP (xC .non)))
def yeA:Fn:=ybt 1 (ybj (xBM ygn (yhS) (ybb [11] "stack" (yf 0)) (yc (ygd (ypA)) (yi))))
def ydR:Fn:=ybt 3 (yl (ybG (xBM ygn (yhq) (ybb [11] "stack" (yf 0)) (yi)) (yq 1)) (yl (ybG (xOp (ycs) (ybb [11] "stack" (yf 0)) (xUn yzY (xC (.int 1)))) (yq 2)) (ybj (xBM ypD (yzd) (yf 2) (yc (yf 1) (yi))))))
def yfq:Fn:=ybt 1 (ybj (xBM ygn (yhq) (ybb [11] "stack" (yf 0)) (yi)))
def ygo:Fn:=ybt 3 (ykl (ybb [11] "last_seen" (yf 0)) (yf 1) (yf 2))
def yeX:Fn:=ybt 1 (yP (xFz (yju (ybb [11] "last_seen" (yf 0)))))
def yeB:Fn:=ybt 2 (yl (ybG (xOp (ycs) (ybb [11] "stack" (yf 0)) (xC (.int 0))) (yq 1)) (yP (xFz (yju (yf 1)))))
def yek:Fn:=ybt 1 (yP (yiX (xCB (ymr yfS) (yc (yf 0) (yc (xC (.ty "int")) (yi)))) (ywP (xCB (ymr yfS) (yc (yf 0) (yc (xC (.ty "bool")) (yi)))))))
def ycX:Fn:=ybt 1 (yP (yiX (ybg yek (yc (yf 0) (yi))) (yfC (oLe) (oLt) (xC (.int 0)) (yf 0) (xC (.int 18446744073709551616)))))
def ydh:Fn:=ybt 2 (yP (xCB (yvM) (yc (xFz (yiY (xIS (yf 0)) [1] (xOp (yAa) (yf 0) (yf 1)))) (yi))))
def yeC:Fn:=ybt 2 (yl (ybK (xOr (yjZ (yp (yfC (oLe) (oLe) (xC (.int 1)) (xCB (ynd) (yc (yf 0) (yi))) (xC (.int 20))))) (yjZ (yp (ybg ydh (yc (yf 0) (yc (xC (.str "0123456789")) (yi))))))) (yP (xC .non)) (yO)) (yl (ybK (yvF (yp (xOp (oEq) (xOp (yAc) (yf 0) (xC (.int 0))) (xC (.str "0")))) (yp (xOp (oNe) (yf 0) (xC (.str "0"))))) (yP (xC .non)) (yO)) (yl (ybG (xCB (yrd) (yc (yf 0) (yi))) (yq 1)) (yP (xIf (yp (xOp (oLt) (yf 1) (xC (.int 18446744073709551616)))) (yf 1) (xC .non))))))
def ygp:Fn:=ybt 1 (yP (yiX (xOp (oEq) (xCB (ynd) (yc (yf 0) (yi))) (xC (.int 1))) (xOp (yAa) (yf 0) (xC (.str "abcdefgh")))))
def ydS:Fn:=ybt 1 (yP (xBM isStr (yne) (xC (.str "abcdefgh")) (yc (yf 0) (yi))))
def ygq:Fn:=ybt 1 (yP (yiX (yfC (oLe) (oLe) (xC (.int 1)) (xCB (ynd) (yc (yf 0) (yi))) (xC (.int 8))) (ybg ydh (yc (yf 0) (yc (xC (.str "abcdefghijklmnopqrstuvwxyz")) (yi))))))
def yeY:List PV->AH->Option (Nd×AH):=yok 3 12 (yl (ycW [12] 0 "held" (ygd (yiU (yV) (yc (yf 1) (yi))))) (yl (ycW [12,14] 0 "width" (yf 2)) (ycW [12] 0 "log" (ygd (ygR yfH (yi))))))
def ybE:Fn:=ybt 2 (yP (xOp (ycs) (ybb [12] "held" (yf 0)) (ybg ydS (yc (yf 1) (yi)))))
def ycd:Fn:=ybt 3 (yhT (ybb [12] "held" (yf 0)) (ybg ydS (yc (yf 1) (yi))) (yf 2))
def ybB:Fn:=ybt 2 (yP (xOp oMod (yh 12 "held_in" ybE (yf 0) (yc (yf 1) (yi))) (ybb [12,14] "width" (yf 0))))
def ycL:Fn:=ybt 3 (ybj (yh 11 "write" yez (ybb [12] "log" (yf 0)) (yc (yh 12 "box_at" ybB (yf 0) (yc (yf 1) (yi))) (yc (yh 12 "held_in" ybE (yf 0) (yc (yf 2) (yi))) (yi)))))
def ydc:Fn:=ybt 2 (yP (xOp (yxo) (yh 11 "own" yej (ybb [12] "log" (yf 0)) (yc (yh 12 "box_at" ybB (yf 0) (yc (yf 1) (yi))) (yi))) (xC .non)))
def yce:Fn:=ybt 3 (ybj (yh 12 "hold" ycd (yf 0) (yc (yf 1) (yc (yh 11 "own" yej (ybb [12] "log" (yf 0)) (yc (yh 12 "box_at" ybB (yf 0) (yc (yf 2) (yi))) (yi))) (yi)))))
def ycz:Fn:=ybt 5 (yl (ybG (yh 12 "box_at" ybB (yf 0) (yc (yf 2) (yi))) (yq 4)) (yl (ybj (yh 11 "see" ygo (ybb [12] "log" (yf 0)) (yc (yf 4) (yc (xOp (ycs) (yf 3) (yf 4)) (yi))))) (ybj (yh 12 "hold" ycd (yf 0) (yc (yf 1) (yc (xOp (ycs) (yf 3) (yf 4)) (yi)))))))
def yih:Fn:=ybt 2 (yl (ybK (yp (xOp (oEq) (xOp (yba) (yf 1) (xC (.int 0))) (xC (.str "wait")))) (yP (xOp (oEq) (xOp (yba) (yf 0) (xC (.int 0))) (xC (.str "either")))) (yO)) (yP (yiX (xOp (oEq) (xOp (yba) (yf 0) (xC (.int 0))) (xC (.str "guard"))) (xOp (oEq) (xOp (yba) (yf 0) (xC (.int 1))) (xOp (yba) (yf 1) (xC (.int 1)))))))
def yea:List PV->AH->Option (Nd×AH):=yok 4 12 (yl (xBI 12 yeY (yc (yf 2) (yc (yf 3) (yi)))) (yl (ycW [12] 0 "rows" (yf 1)) (yl (ycW [10,12] 0 "at" (xC (.int 0))) (yl (ycW [12] 0 "seen_stamps" (ygd (ypA))) (ycW [12] 0 "sides" (ygd (ydY (yi))))))))
def ydG:Fn:=ybt 1 (yP (xOp (ycs) (ybb [12] "rows" (yf 0)) (ybb [10,12] "at" (yf 0))))
def ycv:Fn:=ybt 2 (yP (xCB (yut) (yc (xFz (yjw (ybb [12] "seen_stamps" (yf 0)) [1,0] (xOp (oNe) (xOp (ycs) (yf 1) (yf 0)) (yhV (ybb [12] "seen_stamps" (yf 2)) (yf 0))))) (yi))))
def ybf:Fn:=ybt 3 (yl (ybG (xCB (yca) (yc (ybb [12] "sides" (yf 0)) (yi))) (yq 2)) (yl (yfD 1000 (yvF (yp (xOp (oGt) (yf 2) (xC (.int 0)))) (yjZ (yp (ybg yih (yc (xOp (yba) (xOp (ycs) (ybb [12] "sides" (yf 0)) (xOp ytM (yf 2) (xC (.int 1)))) (xC (.int 0))) (yc (yf 1) (yi))))))) (ybG (xOp ytM (yf 2) (xC (.int 1))) (yq 2))) (yP (yf 2))))
def loB:XS:=(yl (ybK (yp (xOp (oEq) (xOp (yba) (yf 1) (xC (.int 0))) (xC (.str "take")))) (yP (yh 12 "sees_at" ydc (yf 0) (yc (xOp (yba) (yf 1) (xC (.int 2))) (yi)))) (yO)) (yl (ybK (xOr (yp (xOp (oEq) (xOp (yba) (yf 1) (xC (.int 0))) (xC (.str "wait")))) (yp (xOp (oEq) (xOp (yba) (yf 1) (xC (.int 0))) (xC (.str "throw"))))) (yP (xOp (oEq) (yh 12 "taker_layer" ybf (yf 0) (yc (yf 1) (yi))) (xC (.int 0)))) (yO)) (yP (xOp (oEq) (xOp (yba) (yf 1) (xC (.int 0))) (xC (.str "lay"))))))
def ybm:Fn:=ybt 2 (yl (ybG (yh 12 "row" ydG (yf 0) (yi)) (yq 1)) loB)
def ydd:Fn:=ybt 5 (yl (ybG (yh 12 "row" ydG (yf 0) (yi)) (yq 3)) (yl (ybG (yh 12 "box_at" ybB (yf 0) (yc (xOp (yba) (yf 3) (xC (.int 2))) (yi))) (yq 4)) (yl (ykl (ybb [12] "seen_stamps" (yf 0)) (yf 4) (xOp (ycs) (yf 2) (yf 4))) (yl (ybj (yh 12 "take_seen" ycz (yf 0) (yc (xOp (yba) (yf 3) (xC (.int 1))) (yc (xOp (yba) (yf 3) (xC (.int 2))) (yc (yf 1) (yi)))))) (yl (ycT [10,12] "at" (yf 0) (xOp yiV (ybb [10,12] "at" (yf 0)) (xC (.int 1)))) (yP (yf 4)))))))
def yH:Fn:=ybt 2 (ybK (yp (xOp (oEq) (xOp (yba) (yf 1) (xC (.int 0))) (xC (.str "let")))) (ybj (yh 12 "hold" ycd (yf 0) (yc (xOp (yba) (yf 1) (xC (.int 1))) (yc (xOp (yba) (yf 1) (xC (.int 2))) (yi))))) (ybK (yp (xOp (oEq) (xOp (yba) (yf 1) (xC (.int 0))) (xC (.str "take")))) (ybj (yh 12 "take_own" yce (yf 0) (yc (xOp (yba) (yf 1) (xC (.int 1))) (yc (xOp (yba) (yf 1) (xC (.int 2))) (yi))))) (ybK (yp (xOp (oEq) (xOp (yba) (yf 1) (xC (.int 0))) (xC (.str "put")))) (ybj (yh 12 "do_put" ycL (yf 0) (yc (xOp (yba) (yf 1) (xC (.int 1))) (yc (xOp (yba) (yf 1) (xC (.int 2))) (yi))))) (ydp))))
def ydB:Fn:=ybt 2 (ybK (yp (xOp (oEq) (xOp (yba) (yf 1) (xC (.int 0))) (xC (.str "jump")))) (ycT [10,12] "at" (yf 0) (xOp (yba) (yf 1) (xC (.int 1)))) (ydp))
abbrev lvC:XT:=(yp (xOp (oGe) (xCB (yca) (yc (ybb [12] "sides" (yf 0)) (yi))) (yf 2)))
abbrev lvB:XS:=(yl (ybj (xBM ygn (yhq) (ybb [12] "sides" (yf 0)) (yi))) (ybj (yh 11 "drop" yfq (ybb [12] "log" (yf 0)) (yi))))
def ycf:Fn:=ybt 5 (yl (ybG (yh 12 "taker_layer" ybf (yf 0) (yc (yf 1) (yi))) (yq 2)) (yl (ybG (xOp (ycs) (ybb [12] "sides" (yf 0)) (xOp ytM (yf 2) (xC (.int 1)))) (yq 3)) (yl (yfD 1000 lvC lvB) (yl (ybG (xOp (yba) (yf 3) (xC (.int 0))) (yq 4)) (yl (ycT [12] "held" (yf 0) (ygd (yiU (yV) (yc (xOp (yba) (yf 3) (xC (.int 1))) (yi))))) (yl (ycT [10,12] "at" (yf 0) (xOp (yba) (yf 4) (xUn yzY (xC (.int 1))))) (yP (yf 4))))))))
def ycD:Fn:=ybt 4 (yl (ybG (yh 12 "held_in" ybE (yf 0) (yc (xOp (yba) (yf 1) (xC (.int 2))) (yi))) (yq 2)) (yl (ybG (yh 12 "leave" ycf (yf 0) (yc (yf 1) (yi))) (yq 3)) (ybj (yh 12 "hold" ycd (yf 0) (yc (xOp (yba) (yf 3) (xC (.int 2))) (yc (yf 2) (yi)))))))
def goS:XS:=(yl (ybj (xBM ygn (yhq) (ybb [12] "sides" (yf 0)) (yi))) (ybj (yh 11 "settle" ydR (ybb [12] "log" (yf 0)) (yi))))
def goE:XS:=(yl (ybj (xBM ygn (yhS) (ybb [12] "sides" (yf 0)) (yc (yeg (yc (yf 1) (yc (xFz (yiU (yV) (yc (ybb [12] "held" (yf 0)) (yi)))) (yi)))) (yi)))) (ybj (yh 11 "begin" yeA (ybb [12] "log" (yf 0)) (yi))))
def goB:XS:=(ybK (yp (xOp (oEq) (xOp (yba) (yf 1) (xC (.int 0))) (xC (.str "wait")))) (ybj (yh 12 "leave" ycf (yf 0) (yc (yf 1) (yi)))) (ybK (yp (xOp (oEq) (xOp (yba) (yf 1) (xC (.int 0))) (xC (.str "throw")))) (ybj (yh 12 "throw" ycD (yf 0) (yc (yf 1) (yi)))) (ybK (xOr (yp (xOp (oEq) (xOp (yba) (yf 1) (xC (.int 0))) (xC (.str "jump")))) (yp (xOp (oEq) (xOp (yba) (yf 1) (xC (.int 0))) (xC (.str "unless"))))) (ybj (yh 12 "lead" ydB (yf 0) (yc (yf 1) (yi)))) (ybK (xOr (yp (xOp (oEq) (xOp (yba) (yf 1) (xC (.int 0))) (xC (.str "either")))) (yp (xOp (oEq) (xOp (yba) (yf 1) (xC (.int 0))) (xC (.str "guard"))))) goE (ybK (yp (xOp (oEq) (xOp (yba) (yf 1) (xC (.int 0))) (xC (.str "settle")))) goS (ybj (yh 12 "go_plain" yH (yf 0) (yc (yf 1) (yi)))))))))
def ycA:Fn:=ybt 2 (yl (ybG (yh 12 "row" ydG (yf 0) (yi)) (yq 1)) (yl (ycT [10,12] "at" (yf 0) (xOp yiV (ybb [10,12] "at" (yf 0)) (xC (.int 1)))) goB))
def ycg:Fn:=ybt 1 (yl (ybK (yp (xOp (oEq) (ybb [14] "nth" (yf 0)) (xCB (yca) (yc (ybb [14] "deeds" (yf 0)) (yi))))) (yP (xC (.str "ended"))) (yO)) (yP (xIf (yp (ybb [14] "sleeps" (yf 0))) (xC (.str "asleep")) (xC (.str "awake")))))
def ybT:Fn:=ybt 2 (yl (ybG (xIf (yp (xOp (oLt) (ybb [14] "nth" (yf 0)) (xCB (yca) (yc (ybb [14] "deeds" (yf 0)) (yi))))) (xOp (ycs) (ybb [14] "deeds" (yf 0)) (ybb [14] "nth" (yf 0))) (xFz (ydY (yi)))) (yq 1)) (yP (ygd (ygR yea (yc (yf 1) (yc (ybb [14] "before" (yf 0)) (yc (ybb [12,14] "width" (yf 0)) (yi))))))))
def ycr:Fn:=ybt 1 (yl (ycT [14] "sleeps" (yf 0) (xC (.bl false))) (ycT [14] "run" (yf 0) (yh 14 "new_run" ybT (yf 0) (yi))))
def ybX:Fn:=ybt 1 (ycT [14] "sleeps" (yf 0) (xC (.bl true)))
def ydT:Fn:=ybt 2 (yl (ycT [14] "nth" (yf 0) (xOp yiV (ybb [14] "nth" (yf 0)) (xC (.int 1)))) (yl (ycT [14] "before" (yf 0) (xFz (yiU (yV) (yc (yf 1) (yi))))) (ycT [14] "run" (yf 0) (yh 14 "new_run" ybT (yf 0) (yi)))))
def ybu:Fn:=ybt 3 (yl (ycT [14] "deeds" (yf 0) (xFz (yiU (yV) (yc (yf 1) (yi))))) (yl (ycT [12,14] "width" (yf 0) (yf 2)) (yl (ycT [14] "nth" (yf 0) (xC (.int 0))) (yl (ycT [14] "sleeps" (yf 0) (xC (.bl false))) (yl (ycT [14] "before" (yf 0) (xFz (yqM yxp (xFz (ydY (yc (xC (.int 0)) (yi)))) (xCB (ynd) (yc (xC (.str "abcdefgh")) (yi)))))) (ycT [14] "run" (yf 0) (yh 14 "new_run" ybT (yf 0) (yi))))))))
def yeb:List PV->AH->Option (Nd×AH):=yok 3 1 (yl (ycW [1,3,4,7,8] 0 "slot" (yf 1)) (ycW [1] 0 "number" (yf 2)))
def ydH:List PV->AH->Option (Nd×AH):=yok 3 3 (yl (ycW [1,3,4,7,8] 0 "slot" (yf 1)) (ycW [3,4] 0 "place" (yf 2)))
def yec:List PV->AH->Option (Nd×AH):=yok 3 4 (yl (ycW [3,4] 0 "place" (yf 1)) (ycW [1,3,4,7,8] 0 "slot" (yf 2)))
def ycY:List PV->AH->Option (Nd×AH):=yok 3 6 (yl (ycW [6,7] 0 "parts" (xFz (yiU (yV) (yc (yf 1) (yi))))) (ycW [6,7] 0 "others" (xFz (yiU (yV) (yc (yf 2) (yi))))))
def yed:List PV->AH->Option (Nd×AH):=yok 5 7 (yl (ycW [6,7] 0 "parts" (xFz (yiU (yV) (yc (yf 1) (yi))))) (yl (ycW [7,8] 0 "name" (yf 2)) (yl (ycW [1,3,4,7,8] 0 "slot" (yf 3)) (ycW [6,7] 0 "others" (xFz (yiU (yV) (yc (yf 4) (yi))))))))
def ydr:List PV->AH->Option (Nd×AH):=yok 3 8 (yl (ycW [7,8] 0 "name" (yf 1)) (ycW [1,3,4,7,8] 0 "slot" (yf 2)))
def yjx:Fn:=ybt 1 (yP (xC (.int 1)))
def yii:Fn:=ybt 1 (yP (xC (.int 1)))
def yjy:Fn:=ybt 1 (yP (xC (.int 1)))
def yhh:Fn:=ybt 1 (yP (xC (.int 1)))
def yij:Fn:=ybt 1 (yP (xC (.int 1)))
mutual
noncomputable def ygr:Nat->Nat->Fn
 | 0,_=>fun _ _=>none
 | n+1,k=>match k with|1=>yjx|3=>yii|4=>yjy|6=>ydy n|7=>yfr n|8=>yhh|9=>yij|_=>fun _ _=>none
noncomputable def ybO:Nat->Fn
 | 0=>fun _ _=>none
 | n+1=>ybt 1 (yP (xCB (yAg) (yc (xFz (yiY (xIL (yf 0)) [] (yiZ "long" (ygr n) (yf 0)))) (yi))))
noncomputable def ydy:Nat->Fn
 | 0=>fun _ _=>none
 | n+1=>ybt 1 (yP (xOp yiV (xOp yiV (xC (.int 3)) (ybg (ybO n) (yc (ybb [6,7] "parts" (yf 0)) (yi)))) (ybg (ybO n) (yc (ybb [6,7] "others" (yf 0)) (yi)))))
noncomputable def yfr:Nat->Fn
 | 0=>fun _ _=>none
 | n+1=>ybt 1 (yP (xOp yiV (xOp yiV (xC (.int 3)) (ybg (ybO n) (yc (ybb [6,7] "parts" (yf 0)) (yi)))) (ybg (ybO n) (yc (ybb [6,7] "others" (yf 0)) (yi)))))
end
def yhi:Fn:=ybt 1 (yl (ybK (yp (xCB (ymr yfS) (yc (yf 0) (yc (xC (.cls 1)) (yi))))) (yP (xFz (ydY (yc (yeg (yc (xC (.str "let")) (yc (ybb [1,3,4,7,8] "slot" (yf 0)) (yc (ybb [1] "number" (yf 0)) (yi))))) (yi))))) (yO)) (yl (ybK (yp (xCB (ymr yfS) (yc (yf 0) (yc (xC (.cls 2)) (yi))))) (ydp) (yO)) (yl (ybK (yp (xCB (ymr yfS) (yc (yf 0) (yc (xC (.cls 3)) (yi))))) (yP (xFz (ydY (yc (yeg (yc (xC (.str "take")) (yc (ybb [1,3,4,7,8] "slot" (yf 0)) (yc (ybb [3,4] "place" (yf 0)) (yi))))) (yi))))) (yO)) (yl (ybK (yp (xCB (ymr yfS) (yc (yf 0) (yc (xC (.cls 4)) (yi))))) (yP (xFz (ydY (yc (yeg (yc (xC (.str "put")) (yc (ybb [3,4] "place" (yf 0)) (yc (ybb [1,3,4,7,8] "slot" (yf 0)) (yi))))) (yi))))) (yO)) (yl (ybK (yp (xCB (ymr yfS) (yc (yf 0) (yc (xC (.cls 8)) (yi))))) (yP (xFz (ydY (yc (yeg (yc (xC (.str "throw")) (yc (ybb [7,8] "name" (yf 0)) (yc (ybb [1,3,4,7,8] "slot" (yf 0)) (yi))))) (yi))))) (yO)) (yl (ybK (yp (xCB (ymr yfS) (yc (yf 0) (yc (xC (.cls 9)) (yi))))) (yP (xFz (ydY (yc (yeg (yc (xC (.str "wait")) (yi))) (yi))))) (yO)) (yP (xFz (ydY (yi))))))))))
def yik:Fn:=ybt 2 (yl (ybK (yp (xCB (ymr yfS) (yc (yf 0) (yc (xC (.cls 5)) (yi))))) (ydp) (yO)) (yl (ybK (yp (xCB (ymr yfS) (yc (yf 0) (yc (xC (.cls 6)) (yi))))) (yP (yeg (yc (xC (.str "either")) (yc (yf 1) (yi))))) (yO)) (yP (yeg (yc (xC (.str "guard")) (yc (ybb [7,8] "name" (yf 0)) (yc (ybb [1,3,4,7,8] "slot" (yf 0)) (yc (yf 1) (yi)))))))))
def yfI:Fn:=ybt 2 (yl (ybK (yp (xCB (ymr yfS) (yc (yf 0) (yc (xC (.cls 5)) (yi))))) (ydp) (yO)) (yP (xFz (ydY (yc (yeg (yc (xC (.str "settle")) (yi))) (yc (yeg (yc (xC (.str "jump")) (yc (yf 1) (yi)))) (yi)))))))
mutual
noncomputable def yeD:Nat->Fn
 | 0=>fun _ _=>none
 | n+1=>ybt 4 (yl (ypx (ydY (yi)) 2) (yl (ymZ (xIL (yf 0)) (yq 3) (yuh 2 (ybg (yil n) (yc (yf 3) (yc (xOp yiV (yf 1) (yuj 2)) (yi)))))) (ypX 2 (yP (yf 2)))))
noncomputable def yil:Nat->Fn
 | 0=>fun _ _=>none
 | n+1=>ybt 2 (yl (ybK (xOr (yp (xCB (ymr yfS) (yc (yf 0) (yc (xC (.cls 5)) (yi))))) (xOr (yp (xCB (ymr yfS) (yc (yf 0) (yc (xC (.cls 6)) (yi))))) (yp (xCB (ymr yfS) (yc (yf 0) (yc (xC (.cls 7)) (yi))))))) (yP (ybg (yhj n) (yc (yf 0) (yc (yf 1) (yi))))) (yO)) (yP (ybg yhi (yc (yf 0) (yi)))))
noncomputable def yhj:Nat->Fn
 | 0=>fun _ _=>none
 | n+1=>ybt 6 (yl (ybG (xOp yiV (yf 1) (yiZ "long" (ygr 45) (yf 0))) (yq 2)) (yl (ybG (xOp ytM (yf 2) (ybg (ybO 45) (yc (ybb [6,7] "others" (yf 0)) (yi)))) (yq 3)) (yl (ybG (ybg (yeD n) (yc (ybb [6,7] "parts" (yf 0)) (yc (xOp yiV (yf 1) (xC (.int 1))) (yi)))) (yq 4)) (yl (ybG (ybg (yeD n) (yc (ybb [6,7] "others" (yf 0)) (yc (yf 3) (yi)))) (yq 5)) (yP (xFz (yqM yza (xFz (yqM yza (xFz (yqM yza (xFz (ydY (yc (ybg yik (yc (yf 0) (yc (yf 3) (yi)))) (yi)))) (yf 4))) (ybg yfI (yc (yf 0) (yc (yf 2) (yi)))))) (yf 5))))))))
end
def ygs:Fn:=ybt 1 (yP (xFz (yqM yza (ybg (yeD 45) (yc (yf 0) (yc (xC (.int 0)) (yi)))) (xFz (ydY (yc (yeg (yc (xC (.str "lay")) (yi))) (yi)))))))
def ycZ:List PV->AH->Option (Nd×AH):=yok 2 10 (yl (ycW [10] 0 "words" (xFz (yiU (yV) (yc (yf 1) (yi))))) (ycW [10,12] 0 "at" (xC (.int 0))))
def yfs:Fn:=ybt 1 (yl (ybK (yp (xOp (oEq) (yf 0) (xC (.str "")))) (yP (xFz (ydY (yi)))) (yO)) (yP (xBM isStr (ylT) (yf 0) (yc (xC (.str " ")) (yi)))))
def yW:Fn:=ybt 1 (yl (ybK (yp (xOp (oLt) (ybb [10,12] "at" (yf 0)) (xCB (yca) (yc (ybb [10] "words" (yf 0)) (yi))))) (yP (xOp (ycs) (ybb [10] "words" (yf 0)) (ybb [10,12] "at" (yf 0)))) (yO)) (yP (xC .non)))
def ybp:Fn:=ybt 2 (yl (ybG (yh 10 "ahead" yW (yf 0) (yi)) (yq 1)) (yl (ybK (yp (xOp (yxo) (yf 1) (xC .non))) (ydp) (yO)) (yl (ycT [10,12] "at" (yf 0) (xOp yiV (ybb [10,12] "at" (yf 0)) (xC (.int 1)))) (yP (yf 1)))))
def yN:Fn:=ybt 3 (yl (ybG (yh 10 "taken" ybp (yf 0) (yi)) (yq 2)) (ybK (yp (xOp (oNe) (yf 2) (yf 1))) (ydp) (yO)))
def yD:Fn:=ybt 2 (yl (ybG (yh 10 "taken" ybp (yf 0) (yi)) (yq 1)) (yl (ybK (yjZ (yp (ybg ygp (yc (yf 1) (yi))))) (ydp) (yO)) (yP (yf 1))))
def ybv:Fn:=ybt 2 (yl (ybG (yh 10 "taken" ybp (yf 0) (yi)) (yq 1)) (yl (ybK (yjZ (yp (ybg ygq (yc (yf 1) (yi))))) (ydp) (yO)) (yP (yf 1))))
def ybC:Fn:=ybt 3 (yl (ybG (yh 10 "taken" ybp (yf 0) (yi)) (yq 1)) (yl (ybG (ybg yeC (yc (yf 1) (yi))) (yq 2)) (yl (ybK (yp (xOp (yxo) (yf 2) (xC .non))) (ydp) (yO)) (yP (yf 2)))))
def ybI:Fn:=ybt 5 (yl (ybK (yp (xOp (oEq) (yf 1) (xC (.str "let")))) (yl (ybG (yh 10 "slot_taken" yD (yf 0) (yi)) (yq 2)) (yP (xFz (ygR yeb (yc (yf 2) (yc (yh 10 "number_taken" ybC (yf 0) (yi)) (yi))))))) (yO)) (yl (ybK (yp (xOp (oEq) (yf 1) (xC (.str "take")))) (yl (ybG (yh 10 "slot_taken" yD (yf 0) (yi)) (yq 2)) (yP (xFz (ygR ydH (yc (yf 2) (yc (yh 10 "slot_taken" yD (yf 0) (yi)) (yi))))))) (yO)) (yl (ybK (yp (xOp (oEq) (yf 1) (xC (.str "put")))) (yl (ybG (yh 10 "slot_taken" yD (yf 0) (yi)) (yq 3)) (yP (xFz (ygR yec (yc (yf 3) (yc (yh 10 "slot_taken" yD (yf 0) (yi)) (yi))))))) (yO)) (yl (ybK (yp (xOp (oEq) (yf 1) (xC (.str "throw")))) (yl (ybG (yh 10 "name_taken" ybv (yf 0) (yi)) (yq 4)) (yP (xFz (ygR ydr (yc (yf 4) (yc (yh 10 "slot_taken" yD (yf 0) (yi)) (yi))))))) (yO)) (yl (ybK (yp (xOp (oEq) (yf 1) (xC (.str "wait")))) (yP (xFz (yom 9))) (yO)) (yl (ydp) (ydp)))))))
def yja:XT:=yp (xOp (oEq) (yh 10 "ahead" yW (yf 0) (yi)) (xC (.str ";")))
mutual
noncomputable def ybw:Nat->Fn
 | 0=>fun _ _=>none
 | n+1=>ybt 3 (yl (ybK (xOr (yp (xOp (yxo) (yh 10 "ahead" yW (yf 0) (yi)) (xC .non))) (yp (xOp (oEq) (yh 10 "ahead" yW (yf 0) (yi)) (xC (.str ")"))))) (yP (xFz (ydY (yi)))) (yO)) (yl (ypx (ydY (yc (yh 10 "part_taken" (yJ n) (yf 0) (yc (yf 1) (yi))) (yi))) 2) (yl (yfD 100 (yja) (yl (ybj (yh 10 "pass_over" yN (yf 0) (yc (xC (.str ";")) (yi)))) (ykd 2 (yh 10 "part_taken" (yJ n) (yf 0) (yc (yf 1) (yi)))))) (ypX 2 (yP (yf 2))))))
noncomputable def yU:Nat->Fn
 | 0=>fun _ _=>none
 | n+1=>ybt 3 (yl (ybj (yh 10 "pass_over" yN (yf 0) (yc (xC (.str "(")) (yi)))) (yl (ybG (yh 10 "list_taken" (ybw n) (yf 0) (yc (yf 1) (yi))) (yq 2)) (yl (ybj (yh 10 "pass_over" yN (yf 0) (yc (xC (.str ")")) (yi)))) (yP (yf 2)))))
noncomputable def yJ:Nat->Fn
 | 0=>fun _ _=>none
 | n+1=>ybt 3 (yl (ybK (yp (xOp (oGt) (yf 1) (xC (.int 8)))) (ydp) (yO)) (yl (ybG (yh 10 "taken" ybp (yf 0) (yi)) (yq 2)) (yl (ybK (yp (xOp (oEq) (yf 2) (xC (.str "if")))) (ydp) (yO)) (yl (ybK (yp (xOp (oEq) (yf 2) (xC (.str "either")))) (yP (yh 10 "either_taken" (ybD n) (yf 0) (yc (xOp yiV (yf 1) (xC (.int 1))) (yi)))) (yO)) (yl (ybK (yp (xOp (oEq) (yf 2) (xC (.str "try")))) (yP (yh 10 "try_taken" (ybY n) (yf 0) (yc (xOp yiV (yf 1) (xC (.int 1))) (yi)))) (yO)) (yP (yh 10 "plain_taken" ybI (yf 0) (yc (yf 2) (yi)))))))))
noncomputable def ybD:Nat->Fn
 | 0=>fun _ _=>none
 | n+1=>ybt 4 (yl (ybG (yh 10 "side_taken" (yU n) (yf 0) (yc (yf 1) (yi))) (yq 2)) (yl (ybj (yh 10 "pass_over" yN (yf 0) (yc (xC (.str "or")) (yi)))) (yl (ybG (yh 10 "side_taken" (yU n) (yf 0) (yc (yf 1) (yi))) (yq 3)) (yP (xFz (ygR ycY (yc (yf 2) (yc (yf 3) (yi)))))))))
noncomputable def ybY:Nat->Fn
 | 0=>fun _ _=>none
 | n+1=>ybt 6 (yl (ybG (yh 10 "side_taken" (yU n) (yf 0) (yc (yf 1) (yi))) (yq 2)) (yl (ybj (yh 10 "pass_over" yN (yf 0) (yc (xC (.str "on")) (yi)))) (yl (ybG (yh 10 "name_taken" ybv (yf 0) (yi)) (yq 3)) (yl (ybG (yh 10 "slot_taken" yD (yf 0) (yi)) (yq 4)) (yl (ybG (yh 10 "side_taken" (yU n) (yf 0) (yc (yf 1) (yi))) (yq 5)) (yP (xFz (ygR yed (yc (yf 2) (yc (yf 3) (yc (yf 4) (yc (yf 5) (yi)))))))))))))
end
def ylX:Fn:=ybt 3 (yl (ybG (ygd (ygR ycZ (yc (ybg yfs (yc (yf 0) (yi))) (yi)))) (yq 1)) (yl (ybG (yh 10 "list_taken" (ybw 45) (yf 1) (yc (xC (.int 0)) (yi))) (yq 2)) (yl (ybK (yp (xOp (ync) (yh 10 "ahead" yW (yf 1) (yi)) (xC .non))) (ydp) (yO)) (yl (ybK (yp (xOp (oGt) (xOp yiV (ybg (ybO 45) (yc (yf 2) (yi))) (xC (.int 1))) (xC (.int 80)))) (ydp) (yO)) (yP (yf 2))))))
def ydz:Fn:=ybt 1 (yl (ybK (yjZ (yp (yfC (oLe) (oLe) (xC (.int 1)) (xCB (yca) (yc (yf 0) (yi))) (xC (.int 16))))) (ydp) (yO)) (ybK (yjZ (yp (xCB (yvM) (yc (xFz (yiY (xIL (yf 0)) [] (ybg ycX (yc (yf 0) (yi))))) (yi))))) (ydp) (yO)))
def ych:Fn:=ybt 1 (yP (xFz (yeV (yf 0) [] (ybg ygs (yc (ybg ylX (yc (yf 0) (yi))) (yi))))))
def yci:Fn:=ybt 1 (yl (ybK (yjZ (yp (yfC (oLe) (oLe) (xC (.int 1)) (xCB (yca) (yc (yf 0) (yi))) (xC (.int 8))))) (ydp) (yO)) (yl (ybK (yp (xCB (yut) (yc (xFz (yeV (yf 0) [] (xOp (oGt) (xCB (yca) (yc (yf 0) (yi))) (xC (.int 6))))) (yi)))) (ydp) (yO)) (yP (xFz (yeV (yf 0) [] (ybg ych (yc (yf 0) (yi))))))))
def ycM:Fn:=ybt 3 (yl (ybj (ybg ydz (yc (yf 1) (yi)))) (yl (ycT [15] "numbers" (yf 0) (ygd (yiU (yV) (yc (yf 1) (yi))))) (yl (ycT [15] "marks" (yf 0) (ygd (yqM yxp (xFz (ydY (yc (xC (.int 0)) (yi)))) (xCB (yca) (yc (yf 1) (yi)))))) (yl (ycT [15] "crew" (yf 0) (ygd (yiY (xIL (ybg yci (yc (yf 2) (yi)))) [1] (yib 14 ybu (yc (yf 0) (yc (xCB (yca) (yc (yf 1) (yi))) (yi))))))) (ycT [15] "entries" (yf 0) (ygd (ydY (yi))))))))
def ydU:Fn:=ybt 1 (yP (xFz (yiU (yV) (yc (ybb [15] "numbers" (yf 0)) (yi)))))
def ybh:Fn:=ybt 2 (yl (ybK (xOr (yjZ (yp (ybg yek (yc (yf 1) (yi))))) (yjZ (yp (yfC (oLe) (oLt) (xC (.int 0)) (yf 1) (xCB (yca) (yc (ybb [15] "crew" (yf 0)) (yi))))))) (ydp) (yO)) (yP (xOp (ycs) (ybb [15] "crew" (yf 0)) (yf 1))))
def ycj:Fn:=ybt 2 (yP (yh 14 "state" ycg (yh 15 "hand_at" ybh (yf 0) (yc (yf 1) (yi))) (yi)))
def ydi:Fn:=ybt 2 (yP (ybb [14] "nth" (yh 15 "hand_at" ybh (yf 0) (yc (yf 1) (yi)))))
def ydj:Fn:=ybt 2 (yP (xFz (yiU (yV) (yc (ybb [12] "held" (ybb [14] "run" (yh 15 "hand_at" ybh (yf 0) (yc (yf 1) (yi))))) (yi)))))
def yda:Fn:=ybt 2 (yP (yh 11 "saw" yeX (ybb [12] "log" (ybb [14] "run" (yh 15 "hand_at" ybh (yf 0) (yc (yf 1) (yi))))) (yi)))
def ybq:Fn:=ybt 1 (yP (xFz (yeV (ybb [15] "entries" (yf 0)) [] (yeg (yc (xOp (yba) (yf 0) (xC (.int 0))) (yc (xOp (yba) (yf 0) (xC (.int 1))) (yc (xOp (yba) (yf 0) (xC (.int 2))) (yc (xFz (yiU (yV) (yc (xOp (yba) (yf 0) (xC (.int 3))) (yi)))) (yc (xFz (yiU (yV) (yc (xOp (yba) (yf 0) (xC (.int 4))) (yi)))) (yc (xFz (yiU (yV) (yc (xOp (yba) (yf 0) (xC (.int 5))) (yi)))) (yi)))))))))))
def wkB:XS:=(ybK (yvF (yp (xOp (oEq) (yh 14 "state" ycg (yf 1) (yi)) (xC (.str "asleep")))) (yp (yh 12 "is_stale" ycv (ybb [14] "run" (yf 1)) (yc (ybb [15] "marks" (yf 0)) (yi))))) (ybj (yh 14 "begin_anew" ycr (yf 1) (yi))) (yO))
def ybs:Fn:=ybt 2 (ykr false (ybb [15] "crew" (yf 0)) (yq 1) wkB)
def yck:Fn:=ybt 6 (yl (ybG (xOp (ycs) (ybb [15] "crew" (yf 0)) (yf 1)) (yq 5)) (yl (ybj (xBM ygn (yhS) (ybb [15] "entries" (yf 0)) (yc (yeg (yc (yf 1) (yc (ybb [14] "nth" (yf 5)) (yc (yf 2) (yc (yh 11 "saw" yeX (ybb [12] "log" (ybb [14] "run" (yf 5))) (yi)) (yc (yf 3) (yc (xFz (yiU (yV) (yc (yf 4) (yi)))) (yi)))))))) (yi)))) (ybj (yh 14 "go_on" ydT (yf 5) (yc (yf 4) (yi))))))
def ldB:XS:=(yl (ybG (xOp (yba) (yf 4) (xC (.int 0))) (yq 5)) (yl (yhT (ybb [15] "numbers" (yf 0)) (yf 5) (xOp (yba) (yf 4) (xC (.int 1)))) (yhT (ybb [15] "marks" (yf 0)) (yf 5) (xOp yiV (xOp (ycs) (ybb [15] "marks" (yf 0)) (yf 5)) (xC (.int 1))))))
def ycN:Fn:=ybt 6 (yl (ybG (ybb [14] "run" (xOp (ycs) (ybb [15] "crew" (yf 0)) (yf 1))) (yq 2)) (yl (ybG (yh 11 "wrote" yeB (ybb [12] "log" (yf 2)) (yi)) (yq 3)) (yl (ymZ (xIL (yf 3)) (yq 4) ldB) (yl (ybj (yh 15 "end_deed" yck (yf 0) (yc (yf 1) (yc (yeg (yc (xC (.str "done")) (yi))) (yc (yf 3) (yc (ybb [12] "held" (yf 2)) (yi))))))) (ybj (yh 15 "wake_stale" ybs (yf 0) (yi)))))))
def yK:Fn:=ybt 6 (yl (ybG (xOp (ycs) (ybb [15] "crew" (yf 0)) (yf 1)) (yq 3)) (yl (ybG (yh 12 "row" ydG (ybb [14] "run" (yf 3)) (yi)) (yq 4)) (yl (ybK (yp (xOp (oEq) (xOp (yba) (yf 4) (xC (.int 0))) (xC (.str "take")))) (yl (ybG (yh 12 "see_next" ydd (ybb [14] "run" (yf 3)) (yc (ybb [15] "numbers" (yf 0)) (yc (ybb [15] "marks" (yf 0)) (yi)))) (yq 5)) (yP (yeg (yc (xC (.str "seen")) (yc (yf 2) (yc (yf 5) (yc (xOp (ycs) (ybb [15] "numbers" (yf 0)) (yf 5)) (yi)))))))) (yO)) (yl (ybK (yp (xOp (oEq) (xOp (yba) (yf 4) (xC (.int 0))) (xC (.str "wait")))) (yl (ybj (yh 14 "fall_asleep" ybX (yf 3) (yi))) (yP (yeg (yc (xC (.str "asleep")) (yc (yf 2) (yi)))))) (yO)) (yl (ybK (yp (xOp (oEq) (xOp (yba) (yf 4) (xC (.int 0))) (xC (.str "throw")))) (yl (ybj (yh 15 "end_deed" yck (yf 0) (yc (yf 1) (yc (yeg (yc (xC (.str "fell")) (yc (xOp (yba) (yf 4) (xC (.int 1))) (yc (yh 12 "held_in" ybE (ybb [14] "run" (yf 3)) (yc (xOp (yba) (yf 4) (xC (.int 2))) (yi))) (yi))))) (yc (xFz (ydY (yi))) (yc (ybb [14] "before" (yf 3)) (yi))))))) (yP (yeg (yc (xC (.str "fell")) (yc (yf 2) (yi)))))) (yO)) (yl (ybj (yh 15 "lay_down" ycN (yf 0) (yc (yf 1) (yi)))) (yP (yeg (yc (xC (.str "done")) (yc (yf 2) (yi)))))))))))
def yA:Fn:=ybt 4 (yl (ybG (yh 15 "hand_at" ybh (yf 0) (yc (yf 1) (yi))) (yq 2)) (yl (ybK (yp (xOp (oNe) (yh 14 "state" ycg (yf 2) (yi)) (xC (.str "awake")))) (yP (yeg (yc (xC (.str "idle")) (yi)))) (yO)) (yl (ybG (ybb [10,12] "at" (ybb [14] "run" (yf 2))) (yq 3)) (yl (ybK (yjZ (yp (yh 12 "is_looked_over" ybm (ybb [14] "run" (yf 2)) (yi)))) (yl (ybj (yh 12 "go" ycA (ybb [14] "run" (yf 2)) (yi))) (yP (yeg (yc (xC (.str "gone")) (yc (yf 3) (yi)))))) (yO)) (yl (ybK (yp (yh 12 "is_stale" ycv (ybb [14] "run" (yf 2)) (yc (ybb [15] "marks" (yf 0)) (yi)))) (yl (ydp) (ydp)) (yO)) (yP (yh 15 "looked_over_told" yK (yf 0) (yc (yf 1) (yc (yf 3) (yi))))))))))
def yM:Fn:=ybt 2 (yl (ybK (yp (xOp (oLt) (yf 1) (xCB (yca) (yc (yf 0) (yi))))) (yP (xOp (ycs) (yf 0) (yf 1))) (yO)) (yP (xC (.int 0))))
def ybS:Fn:=ybt 2 (yl (ybG (xOp oDiv (yf 0) (xC (.int 3))) (yq 1)) (yl (ybK (yp (xOp (oEq) (xOp oMod (yf 0) (xC (.int 3))) (xC (.int 1)))) (yP (xOp oMod (yf 1) (xC (.int 5)))) (yO)) (yl (ybK (yp (xOp (oEq) (xOp oMod (yf 0) (xC (.int 3))) (xC (.int 2)))) (yP (xOp ytM (xOp ytM (xOp yCX (xC (.int 2)) (xC (.int 64))) (xC (.int 1))) (xOp oMod (yf 1) (xC (.int 5))))) (yO)) (yP (xOp oMod (yf 1) (xOp yCX (xC (.int 2)) (xC (.int 64))))))))
def ycw:Fn:=ybt 5 (yl (ybG (xOp ycU (xOp ycU (xC (.str "let a ")) (xCB (ykf) (yc (yf 1) (yi)))) (xC (.str " ; take b a"))) (yq 3)) (yl (ybG (xOp ycU (xOp ycU (xC (.str "let a ")) (xCB (ykf) (yc (yf 2) (yi)))) (xC (.str " ; take c a"))) (yq 4)) (yl (ybK (yp (xOp (oEq) (yf 0) (xC (.int 0)))) (yP (yeg (yc (xOp ycU (yf 3) (xC (.str " ; wait"))) (yc (xFz (ydY (yc (yf 1) (yi)))) (yc (xC (.int 2)) (yi)))))) (yO)) (yl (ybK (yp (xOp (oEq) (yf 0) (xC (.int 1)))) (yP (yeg (yc (xOp ycU (xOp ycU (xOp ycU (xOp ycU (xC (.str "either ( ")) (yf 3)) (xC (.str " ; wait ) or ( "))) (yf 4)) (xC (.str " ; wait )"))) (yc (xFz (ydY (yc (yf 1) (yc (yf 2) (yi))))) (yc (xC (.int 8)) (yi)))))) (yO)) (yl (ybK (yp (xOp (oEq) (yf 0) (xC (.int 2)))) (yP (yeg (yc (xOp ycU (xOp ycU (xC (.str "let a ")) (xCB (ykf) (yc (yf 1) (yi)))) (xC (.str " ; put a b ; take c a ; wait"))) (yc (xFz (ydY (yi))) (yc (xC (.int 3)) (yi)))))) (yO)) (yl (ybK (yp (xOp (oEq) (yf 0) (xC (.int 3)))) (yP (yeg (yc (xOp ycU (xOp ycU (xC (.str "try ( ")) (yf 3)) (xC (.str " ; put a a ; wait ) on low c ( )"))) (yc (xFz (ydY (yc (yf 1) (yi)))) (yc (xC (.int 4)) (yi)))))) (yO)) (yP (yeg (yc (xOp ycU (xOp ycU (xOp ycU (yf 3) (xC (.str " ; either ( "))) (yf 4)) (xC (.str " ; wait ) or ( wait )"))) (yc (xFz (ydY (yc (yf 1) (yc (yf 2) (yi))))) (yc (xC (.int 8)) (yi))))))))))))
def ycO:Fn:=ybt 4 (yl (ybG (xFz (yfF (ylH (yc (xCB (yca) (yc (yf 2) (yi))) (yi))) [2,1] (yp (xOp (ymt false) (yf 0) (yf 2))) (yeg (yc (yf 0) (yc (xOp (ycs) (yf 1) (yf 0)) (yi)))))) (yq 3)) (yl (ybK (xOr (yp (xOp (oNe) (yh 15 "state" ycj (yf 0) (yc (xC (.int 0)) (yi))) (xC (.str "asleep")))) (yp (xOp (yxF) (yh 15 "saw" yda (yf 0) (yc (xC (.int 0)) (yi))) (yf 3)))) (yP (xC (.bl false))) (yO)) (yP (yiX (xOp (ypC) (yh 15 "turn" yA (yf 0) (yc (xC (.int 0)) (yi))) (yeg (yc (xC (.str "idle")) (yi)))) (xOp (ypC) (yh 15 "boxes" ydU (yf 0) (yi)) (yf 2))))))
def tsB:XS:=(ybK (yp (xOp (ymt true) (xOp (yba) (yf 4) (xC (.int 0))) (xFz (ydY (yc (xC (.str "asleep")) (yc (xC (.str "idle")) (yi))))))) (ybG (yh 15 "turn" yA (yf 0) (yc (xC (.int 0)) (yi))) (yq 4)) (yO))
def ycl:Fn:=ybt 6 (yl (ybG (yeg (yc (xC (.str "gone")) (yc (xC (.int 0)) (yi)))) (yq 4)) (yl (ybK (xOr (yp (xOp (oNe) (yh 15 "state" ycj (yf 0) (yc (xC (.int 0)) (yi))) (xC (.str "awake")))) (xOr (yp (xOp (yxF) (yh 15 "slots" ydj (yf 0) (yc (xC (.int 0)) (yi))) (xFz (yqM yxp (xFz (ydY (yc (xC (.int 0)) (yi)))) (xC (.int 8)))))) (xOr (yp (xOp (yxF) (yh 15 "saw" yda (yf 0) (yc (xC (.int 0)) (yi))) (xFz (ydY (yi))))) (yp (xOp (oNe) (yh 15 "which" ydi (yf 0) (yc (xC (.int 0)) (yi))) (xC (.int 0))))))) (yP (xC (.bl false))) (yO)) (yl (ymZ (ylH (yc (xC (.int 9)) (yi))) (yq 5) tsB) (yP (yiX (xOp (ypC) (yf 4) (yeg (yc (xC (.str "asleep")) (yc (yf 3) (yi))))) (ybg ycO (yc (yf 0) (yc (yf 1) (yc (yf 2) (yi))))))))))
def deT:XS:=(yl (ybG (xOp ycU (xOp ycU (xOp ycU (xC (.str "let a ")) (xCB (ykf) (yc (yf 3) (yi)))) (xC (.str " ; let b "))) (xCB (ykf) (yc (yf 4) (yi)))) (yq 5)) (yl (ybG (xOp oMod (yf 2) (xC (.int 6))) (yq 6)) (yl (ybK (yp (xOp (oEq) (yf 6) (xC (.int 0)))) (yP (yeg (yc (xOp ycU (yf 5) (xC (.str " ; take c a"))) (yc (xC (.int 4)) (yc (xC (.str "done")) (yc (xC .non) (yc (yf 4) (yi)))))))) (yO)) (yl (ybK (yp (xOp (oEq) (yf 6) (xC (.int 1)))) (yP (yeg (yc (xOp ycU (yf 5) (xC (.str " ; put a b ; throw low b"))) (yc (xC (.int 4)) (yc (xC (.str "fell")) (yc (xC .non) (yc (yf 4) (yi)))))))) (yO)) (yl (ybK (yp (xOp (oEq) (yf 6) (xC (.int 2)))) (yP (yeg (yc (xOp ycU (xOp ycU (xC (.str "either ( ")) (yf 5)) (xC (.str " ; put a b ; wait ) or ( )"))) (yc (xC (.int 6)) (yc (xC (.str "done")) (yc (xC .non) (yc (yf 4) (yi)))))))) (yO)) (yP (yeg (yc (xOp ycU (yf 5) (xC (.str " ; put a b"))) (yc (xC (.int 4)) (yc (xC (.str "done")) (yc (yf 3) (yc (yf 4) (yi)))))))))))))
def yeE:Fn:=ybt 7 (yl (ybG (xOp oMod (xOp yCo (yf 0) (xC (.int 48271))) (xC (.int 2147483647))) (yq 2)) (yl (ybG (xOp oMod (xOp oDiv (yf 2) (xC (.int 18))) (xCB (yca) (yc (yf 1) (yi)))) (yq 3)) (yl (ybG (ybg ybS (yc (yf 0) (yi))) (yq 4)) (yl (ybK (yp (xOp (oEq) (xOp oMod (xOp oDiv (yf 2) (xC (.int 6))) (xC (.int 3))) (xC (.int 0)))) (ybG (xOp (ycs) (yf 1) (yf 3)) (yq 4)) (yO)) deT))))
def rnB:XS:=(yl (ybK (yp (xOp (ymt true) (xOp (yba) (yf 3) (xC (.int 0))) (xFz (ydY (yc (xC (.str "gone")) (yc (xC (.str "seen")) (yi))))))) (yP (xC (.bl false))) (yO)) (ybG (yh 15 "turn" yA (yf 0) (yc (yf 1) (yi))) (yq 3)))
def ydC:Fn:=ybt 5 (yl (ybG (yeg (yc (xC (.str "gone")) (yc (xC (.int 0)) (yi)))) (yq 3)) (yl (ymZ (ylH (yc (xOp (yba) (yf 2) (xC (.int 1))) (yi))) (yq 4) rnB) (yP (xOp (oEq) (xOp (yba) (yf 3) (xC (.int 0))) (xOp (yba) (yf 2) (xC (.int 2)))))))
def bxE:XE:=(ybg ybS (yc (xOp yiV (ybg yM (yc (yf 1) (yc (xC (.int 1)) (yi)))) (xOp yCo (xOp yCo (xC (.int 31)) (yf 0)) (yf 0))) (yi)))
def haB:XS:=(ypX 6 (ybj (xBM ygn (yhS) (xOp (ycs) (yf 10) (xOp yiV (xC (.int 1)) (xOp oMod (yf 11) (xC (.int 2))))) (yc (xOp (yba) (xOp (ycs) (yf 6) (yf 11)) (xC (.int 0))) (yi)))))
def fiB:XS:=(yP (xOp (ypC) (xFz (yfF (xIL (yh 15 "journal" ybq (yf 12) (yi))) [] (yp (xOp (oEq) (xOp (yba) (yf 0) (xC (.int 0))) (xC (.int 0)))) (xOp (yba) (yf 0) (xC (.int 0))))) (xFz (ydY (yi)))))
def deB:XS:=(yl (ybG (ybg yeE (yc (yf 8) (yc (yf 7) (yi)))) (yq 9)) (yl (ybK (yp (xOp (ync) (xOp (yba) (yf 9) (xC (.int 3))) (xC .non))) (yhT (yf 7) (xOp (yba) (yf 9) (xC (.int 3))) (xOp (yba) (yf 9) (xC (.int 4)))) (yO)) (ykd 6 (yf 9))))
def mlB:XS:=(ypX 6 (yl (ybK (xOr (yjZ (yp (ybg ydC (yc (yf 12) (yc (xOp yiV (xC (.int 1)) (xOp oMod (yf 11) (xC (.int 2)))) (yc (xOp (ycs) (yf 6) (yf 11)) (yi))))))) (yp (xOp (oNe) (xCB (yca) (yc (yh 15 "journal" ybq (yf 12) (yi)) (yi))) (xOp yiV (yf 11) (xC (.int 1)))))) (yP (xC (.bl false))) (yO)) (ypX 6 (yl (ybG (xOp (yba) (xOp (ycs) (yf 6) (yf 11)) (xC (.int 3))) (yq 13)) (yl (ybK (yp (xOp (ync) (yf 13) (xC .non))) (ypX 6 (yhT (yf 2) (yf 13) (xOp (yba) (xOp (ycs) (yf 6) (yf 11)) (xC (.int 4))))) (yO)) (ybK (yvF (yp (xOp (ync) (yf 13) (xC .non))) (yp (xOp (ymt false) (yf 13) (xOp (yba) (yf 5) (xC (.int 1)))))) (ybK (yjZ (yp (ybg ycl (yc (yf 12) (yc (xOp (yba) (yf 5) (xC (.int 1))) (yc (yf 2) (yc (xOp (yba) (yf 5) (xC (.int 2))) (yi)))))))) (yP (xC (.bl false))) (yO)) (ybK (yjZ (yp (ybg ycO (yc (yf 12) (yc (xOp (yba) (yf 5) (xC (.int 1))) (yc (yf 2) (yi))))))) (yP (xC (.bl false))) (yO))))))))
def laU:XS:=(yl (ybG (yib 15 ycM (yc (xFz (yiU (yV) (yc (yf 2) (yi)))) (yc (yf 10) (yi)))) (yq 12)) (yl (ybK (yjZ (yp (ybg ycl (yc (yf 12) (yc (xOp (yba) (yf 5) (xC (.int 1))) (yc (yf 2) (yc (xOp (yba) (yf 5) (xC (.int 2))) (yi)))))))) (yP (xC (.bl false))) (yO)) (ypX 6 (yl (ymZ (ylH (yc (xCB (yca) (yc (yf 6) (yi))) (yi))) (yq 11) mlB) fiB))))
def yuD:Fn:=ybt 14 (yl (ybG (xOp yiV (xC (.int 3)) (xOp oMod (ybg yM (yc (yf 0) (yc (xC (.int 0)) (yi)))) (xC (.int 14)))) (yq 1)) (yl (ybG (ygd (yiY (ylH (yc (yf 1) (yi))) [0] bxE)) (yq 2)) (yl (ybG (xOp oMod (ybg yM (yc (yf 0) (yc (xC (.int 2)) (yi)))) (yf 1)) (yq 3)) (yl (ybG (xOp oMod (ybg yM (yc (yf 0) (yc (xC (.int 3)) (yi)))) (yf 1)) (yq 4)) (yl (ybG (ybg ycw (yc (xOp oMod (ybg yM (yc (yf 0) (yc (xC (.int 4)) (yi)))) (xC (.int 5))) (yc (yf 3) (yc (yf 4) (yi))))) (yq 5)) (yl (ypx (ydY (yi)) 6) (yl (ybG (ygd (yiU (yV) (yc (yf 2) (yi)))) (yq 7)) (yl (ymZ (xIL (xFz (yzP yAe (yf 0) (ymV (xC (.int 5))) (ymV (xC (.int 17)))))) (yq 8) deB) (yl (ybG (ygd (ydY (yc (ygd (ydY (yc (xOp (yba) (yf 5) (xC (.int 0))) (yi)))) (yc (ygd (ydY (yi))) (yc (ygd (ydY (yi))) (yi)))))) (yq 10)) (ypX 6 (yl (ymZ (ylH (yc (xCB (yca) (yc (yf 6) (yi))) (yi))) (yq 11) haB) laU)))))))))))
abbrev B64:Int:=18446744073709551616
inductive T where
 | let_ (r:Str) (n:Int)
 | take (r s:Str)
 | put (s t:Str)
 | either (a b:List T)
 | try_ (a:List T) (nm r:Str) (b:List T)
 | throw (nm r:Str)
 | wait
def kd:T->Nat
 | .let_ ..=>1|.take ..=>3|.put ..=>4|.either ..=>6|.try_ ..=>7|.throw ..=>8|.wait=>9
def yel (inner:Str):Str:=if inner = "" then "( )" else Str.join " " ["(",inner,")"]
mutual
noncomputable def ygt:T->Str
 | .let_ r n=>Str.join " " ["let",r,(toString n:String)]
 | .take r s=>Str.join " " ["take",r,s]
 | .put s t=>Str.join " " ["put",s,t]
 | .either a b=>Str.join " " ["either",yel (Str.join " ; " (ybx a)),"or",yel (Str.join " ; " (ybx b))]
 | .try_ a nm r b=>Str.join " " ["try",yel (Str.join " ; " (ybx a)),"on",nm,r,yel (Str.join " ; " (ybx b))]
 | .throw nm r=>Str.join " " ["throw",nm,r]
 | .wait=>"wait"
noncomputable def ybx:List T->List Str
 | []=>[]
 | t::r=>ygt t::ybx r
end
mutual
noncomputable def yim:T->Int
 | .either a b=>3+(ycE a).sum+(ycE b).sum
 | .try_ a _ _ b=>3+(ycE a).sum+(ycE b).sum
 | _=>1
noncomputable def ycE:List T->List Int
 | []=>[]
 | t::r=>yim t::ycE r
end
mutual
noncomputable def ypZ:T->Nat
 | .either a b=>1+max (yeS a) (yeS b)
 | .try_ a _ _ b=>1+max (yeS a) (yeS b)
 | _=>0
noncomputable def yeS:List T->Nat
 | []=>0
 | t::r=>max (ypZ t) (yeS r)
end
mutual
noncomputable def wT:T->Nat
 | .let_ r n=>10+r.length+(Str.ofString (toString n)).length
 | .take r s=>10+r.length+s.length
 | .put s t=>10+s.length+t.length
 | .either a b=>40+wL a+wL b
 | .try_ a nm r b=>40+nm.length+r.length+wL a+wL b
 | .throw nm r=>10+nm.length+r.length
 | .wait=>10
noncomputable def wL:List T->Nat
 | []=>0
 | t::r=>5+wT t+wL r
end
def yin (c:Int):Int:=c*48271%2147483647
theorem yeF (a b:Str):(a++b).length=a.length+b.length:=by
 show (a.cps++b.cps).size=_
 simp [Str.length]
theorem ydA (sep:Str):∀ l:List Str,(Str.join sep l).length<=(l.map (·.length)).sum+sep.length*l.length
 | []=>zero_le _
 | [x]=>by simp [Str.join]
 | x::y::r=>by
  have ih:=ydA sep (y::r)
  show (x++sep++Str.join sep (y::r)).length<=_
  rw [yeF,yeF]
  simp only [map_cons,List.sum_cons,length_cons] at *
  have e:sep.length*(r.length+1+1)=sep.length*(r.length+1)+sep.length:=by rw [Nat.mul_succ]
  omega
theorem yhF (x:Str):(yel x).length<=x.length+10:=by
 unfold yel
 split
 .exact Nat.le_trans (show ("( )":Str).length<=10 by rfl') (Nat.le_add_left _ _)
 .have:=ydA " " ["(",x,")"]
  have e1:(" ":Str).length=1:=by rfl'
  have e2:("(":Str).length=1:=by rfl'
  have e3:(")":Str).length=1:=by rfl'
  simp only [map_cons,map_nil,List.sum_cons,List.sum_nil,length_cons,length_nil,e1,e2,e3] at this
  omega
theorem l1:(" ":Str).length=1:=by rfl'
theorem l3:(" ; ":Str).length=3:=by rfl'
theorem lk (s:Str) (h:s.length<=6):s.length<=6:=h
theorem yEl:("let":Str).length=3:=by rfl'
theorem yBc:("take":Str).length=4:=by rfl'
theorem yEm:("put":Str).length=3:=by rfl'
theorem yuE:("either":Str).length=6:=by rfl'
theorem yEn:("or":Str).length=2:=by rfl'
theorem yEo:("try":Str).length=3:=by rfl'
theorem yEp:("on":Str).length=2:=by rfl'
theorem yyq:("throw":Str).length=5:=by rfl'
theorem yBd:("wait":Str).length=4:=by rfl'
theorem yBe:("":Str).length=0:=by rfl'
mutual
theorem yrN:∀ t:T,(ygt t).length<=wT t
 | .let_ r n=>by
  have:=ydA " " ["let",r,(toString n:String)]
  simp only [map_cons,map_nil,List.sum_cons,List.sum_nil,length_cons,length_nil,l1,yEl] at this
  show (Str.join " " ["let",r,(toString n:String)]).length<=10+r.length+(Str.ofString (toString n)).length
  omega
 | .take r s=>by
  have:=ydA " " ["take",r,s]
  simp only [map_cons,map_nil,List.sum_cons,List.sum_nil,length_cons,length_nil,l1,yBc] at this
  show (Str.join " " ["take",r,s]).length<=10+r.length+s.length
  omega
 | .put s t=>by
  have:=ydA " " ["put",s,t]
  simp only [map_cons,map_nil,List.sum_cons,List.sum_nil,length_cons,length_nil,l1,yEm] at this
  show (Str.join " " ["put",s,t]).length<=10+s.length+t.length
  omega
 | .either a b=>by
  have ha:=yem a
  have hb:=yem b
  have h1:=yhF (Str.join " ; " (ybx a))
  have h2:=yhF (Str.join " ; " (ybx b))
  have:=ydA " " ["either",yel (Str.join " ; " (ybx a)),"or",yel (Str.join " ; " (ybx b))]
  simp only [map_cons,map_nil,List.sum_cons,List.sum_nil,length_cons,length_nil,l1,yuE,yEn] at this
  show (Str.join " " ["either",yel (Str.join " ; " (ybx a)),"or",yel (Str.join " ; " (ybx b))]).length<=40+wL a+wL b
  omega
 | .try_ a nm r b=>by
  have ha:=yem a
  have hb:=yem b
  have h1:=yhF (Str.join " ; " (ybx a))
  have h2:=yhF (Str.join " ; " (ybx b))
  have:=ydA " " ["try",yel (Str.join " ; " (ybx a)),"on",nm,r,yel (Str.join " ; " (ybx b))]
  simp only [map_cons,map_nil,List.sum_cons,List.sum_nil,length_cons,length_nil,l1,yEo,yEp] at this
  show (Str.join " " ["try",yel (Str.join " ; " (ybx a)),"on",nm,r,yel (Str.join " ; " (ybx b))]).length<=40+nm.length+r.length+wL a+wL b
  omega
 | .throw nm r=>by
  have:=ydA " " ["throw",nm,r]
  simp only [map_cons,map_nil,List.sum_cons,List.sum_nil,length_cons,length_nil,l1,yyq] at this
  show (Str.join " " ["throw",nm,r]).length<=10+nm.length+r.length
  omega
 | .wait=>by show ("wait":Str).length<=10;rw [yBd];omega
theorem yjz:∀ ts:List T,((ybx ts).map (·.length)).sum+5*ts.length<=wL ts/\(ybx ts).length=ts.length
 | []=>⟨Nat.le_refl _,rfl⟩
 | t::r=>by
  have h1:=yrN t
  have h2:=yjz r
  refine ⟨?_,?_⟩
  .show ((ygt t).length::(ybx r).map (·.length)).sum+5*(t::r).length<=5+wT t+wL r
   simp only [List.sum_cons,length_cons]
   omega
  .show (ygt t::ybx r).length=_
   simp only [length_cons]
   omega
theorem yem:∀ ts:List T,(Str.join " ; " (ybx ts)).length<=wL ts:=fun ts=>by
 have h:=yjz ts
 have j:=ydA " ; " (ybx ts)
 rw [l3,h.2] at j
 omega
end
theorem yrO:∀ {ts:List T}{t:T},t∈ts->ypZ t<=yeS ts
 | u::r,t,h=>by
  show ypZ t<=max (ypZ u) (yeS r)
  rcases mem_cons.mp h with rfl|h
  .omega
  .have:=yrO h
   omega
theorem yBf:∀ {ts:List T}{t:T},t∈ts->wT t<=wL ts
 | u::r,t,h=>by
  show wT t<=5+wT u+wL r
  rcases mem_cons.mp h with rfl|h
  .omega
  .have:=yBf h
   omega
theorem w_count:∀ ts:List T,5*ts.length<=wL ts
 | []=>Nat.le_refl _
 | t::r=>by
  have:=w_count r
  show 5*(r.length+1)<=5+wT t+wL r
  omega
theorem ygu (a b c:Str):a++b++c=a++(b++c):=by
 show (⟨(a.cps++b.cps)++c.cps⟩:Str)=⟨a.cps++(b.cps++c.cps)⟩
 rw [Array.append_assoc]
theorem yrP:B64<10 ^ 20:=by decide
def plain:T->Prop
 | .either ..=>False
 | .try_ ..=>False
 | _=>True
theorem yuF (sep x:Str) (r:List Str) (h:1<=x.length):1<=(Str.join sep (x::r)).length:=by
 cases r with
 | nil=>exact h
 | cons y r =>
  show 1<=(x++sep++Str.join sep (y::r)).length
  rw [yeF,yeF];omega
mutual
noncomputable def ycF:T->PV
 | .let_ r n=>.ins 1 ["slot","number"] [.str r,.int n]
 | .take r s=>.ins 3 ["slot","place"] [.str r,.str s]
 | .put s t=>.ins 4 ["place","slot"] [.str s,.str t]
 | .either a b=>.ins 6 ["parts","others"] [.lst (ycx a),.lst (ycx b)]
 | .try_ a nm r b=>.ins 7 ["parts","name","slot","others"] [.lst (ycx a),.str nm,.str r,.lst (ycx b)]
 | .throw nm r=>.ins 8 ["name","slot"] [.str nm,.str r]
 | .wait=>.ins 9 [] []
noncomputable def ycx:List T->List PV
 | []=>[]
 | t::r=>ycF t::ycx r
end
theorem yjA:∀ ts:List T,ycx ts=ts.map ycF
 | []=>rfl
 | t::r=>by show ycF t::ycx r=_;rw [yjA r];rfl
section
variable {h:AH}
theorem j1:(" ":Str).length<=16:=by rfl'
theorem yBg {i:Nat}{ρ:PSt}{xs:List PV}(e:yf i ρ h=some (.lst xs,h)):xIL (yf i) ρ h=some (xs,h):=yFW e
theorem ypG (t:T):∃ ns xs,ycF t=.ins (kd t) ns xs/\("shown":Str)∉ns/\("long":Str)∉ns:=by
 cases t
 all_goals exact ⟨_,_,rfl,by rfl',by rfl'⟩
theorem yrQ {m:Str}{f:Nat->Fn}(t:T) (hm:m = "shown"\/m = "long"):yhR m f (ycF t) h=f (kd t) [ycF t] h:=by
 obtain ⟨ns,xs,e,h1,h2⟩:=ypG t
 rw [e]
 rcases hm with rfl|rfl
 .exact ydx h1
 .exact ydx h2
def yoO (n:Nat):Prop:=∀ (h:AH) (t:T),3*ypZ t+1<=n->wT t<=100000->ygr n (kd t) [ycF t] h=some (.int (yim t),h)
theorem ydk {n:Nat}(G:yoO n) {ts:List T}(hd:3*yeS ts+1<=n) (hw:wL ts<=100000):ybO (n+1) [.lst (ycx ts)] h=some (.int (ycE ts).sum,h):=by
 unfold ybO
 rw [yo]
 show ob (yP _ [.val (.lst (ycx ts))] h) fnK=_
 have wc:=w_count ts
 symm
 rw [yBg rfl,ybF,yjA]
 rw [if_pos (by rw [length_map];omega)]
 have e:yke (yiZ "long" (ygr n) (yf 0)) (yfw [] [PVar.val (PV.lst (ts.map ycF))]) (ts.map ycF) h=some ((ycE ts).map PV.int,h):=by
  have:∀ us:List T,(∀ t∈us,t∈ts)->yke (yiZ "long" (ygr n) (yf 0)) (yfw [] [PVar.val (PV.lst (ts.map ycF))]) (us.map ycF) h=some ((ycE us).map PV.int,h):=by
   intro us
   induction us with
   | nil=>intro _;rfl
   | cons t r ih =>
    intro hm
    have ht:=hm t mem_cons_self
    have e1:yiZ "long" (ygr n) (yf 0) (yfw [] [PVar.val (PV.lst (ts.map ycF))] (ycF t)) h=some (.int (yim t),h):=by
     show yiZ "long" (ygr n) (yf 0) [.val (ycF t)] h=_
     rw [yvQ,yvN,ybF,yrQ t (.inr rfl)]
     have:=yrO ht
     have:=yBf ht
     exact G h t (by omega) (by omega)
    show ob (yiZ "long" (ygr n) (yf 0) (yfw [] [PVar.val (PV.lst (ts.map ycF))] (ycF t)) h) _=_
    rw [e1,ybF,ih fun u hu=>hm u (mem_cons_of_mem _ hu)]
    rfl
  exact this ts fun _ h=>h
 rw [e]
 symm
 show ob (yAg [.lst ((ycE ts).map PV.int)] h) _=_
 unfold yAg ybL
 simp only [yjq]
 rfl
theorem ynt {n:Nat}(G:yoO n) {x y:List T}(hd:3*ypZ (.either x y)+1<=n+3) (hw:wT (.either x y)<=100000):ydy (n+2) [ycF (.either x y)] h=some (.int (yim (.either x y)),h):=by
 have hd:3*(1+max (yeS x) (yeS y))+1<=n+3:=hd
 have hw:40+wL x+wL y<=100000:=hw
 unfold ydy
 rw [yo]
 show ob (yP _ [.val (.ins 6 ["parts","others"] [.lst (ycx x),.lst (ycx y)])] h) fnK=_
 symm
 rw [ydk G (ts:=x) (by omega) (by omega)]
 symm
 rw [ydk G (ts:=y) (by omega) (by omega)]
 symm
 rfl
theorem yuG {n:Nat}(G:yoO n) {nm r:Str}{x y:List T}(hd:3*ypZ (.try_ x nm r y)+1<=n+3) (hw:wT (.try_ x nm r y)<=100000):yfr (n+2) [ycF (.try_ x nm r y)] h=some (.int (yim (.try_ x nm r y)),h):=by
 have hd:3*(1+max (yeS x) (yeS y))+1<=n+3:=hd
 have hw:40+nm.length+r.length+wL x+wL y<=100000:=hw
 unfold yfr
 rw [yo]
 show ob (yP _ [.val (.ins 7 ["parts","name","slot","others"] [.lst (ycx x),.str nm,.str r,.lst (ycx y)])] h) fnK=_
 symm
 rw [ydk G (ts:=x) (by omega) (by omega)]
 symm
 rw [ydk G (ts:=y) (by omega) (by omega)]
 symm
 rfl
theorem ynu:∀ n:Nat,yoO n
 | 0=>fun h t hd=>by omega
 | n+1=>fun h t hd hw=>by
  cases t with
  | let_ r m=>rfl
  | take r s=>rfl
  | put r s=>rfl
  | throw nm r=>rfl
  | wait=>rfl
  | either x y =>
   have h1:3*(1+max (yeS x) (yeS y))+1<=n+1:=hd
   obtain ⟨m,rfl⟩:∃ m,n=m+2:=⟨n-2,by omega⟩
   exact ynt (ynu m) hd hw
  | try_ x nm r y =>
   have h1:3*(1+max (yeS x) (yeS y))+1<=n+1:=hd
   obtain ⟨m,rfl⟩:∃ m,n=m+2:=⟨n-2,by omega⟩
   exact yuG (ynu m) hd hw
end
def yqa (m:Nat):List Nat:=(Nat.toDigits 10 m).map Char.toNat
theorem yBh:∀ d:Nat,d<10->(Nat.digitChar d).toNat=48+d:=by
 intro d h
 have:d=0\/d=1\/d=2\/d=3\/d=4\/d=5\/d=6\/d=7\/d=8\/d=9:=by omega
 rcases this with rfl|rfl|rfl|rfl|rfl|rfl|rfl|rfl|rfl|rfl
 all_goals decide
theorem yuH (cs:List Nat) (c:Nat):ywL (cs++[c])=ywL cs*10+((c:Int)-48):=by
 unfold ywL
 rw [List.foldl_append];rfl
theorem yrR:∀ m:Nat,yqa m≠[]/\(∀ c∈yqa m,48<=c/\c<=57)/\ywL (yqa m)=m/\(m≠0->(yqa m)[0]?≠some 48)/\(m=0->yqa m=[48]):=by
 intro m
 induction m using Nat.strongRecOn with
 | ind m ih =>
  unfold yqa at *
  by_cases h:m<10
  .rw [Nat.toDigits_of_lt_base h,List.map_singleton,yBh m h]
   refine ⟨by simp,fun c hc=>?_,?_,fun hm e=>?_,fun e=>by subst e;rfl⟩
   .rw [List.mem_singleton.mp hc];omega
   .show (0:Int)*10+(((48+m:Nat):Int)-48)=m
    omega
   .have:48+m=48:=by simpa using e
    omega
  .rw [Nat.toDigits_of_base_le (by decide) (by omega),map_append,List.map_singleton,yBh (m%10) (by omega)]
   obtain ⟨h1,h2,h3,h4,h5⟩:=ih (m/10) (by omega)
   refine ⟨by simp,fun c hc=>?_,?_,fun _ e=>?_,fun e=>by omega⟩
   .rcases List.mem_append.mp hc with hc|hc
    .exact h2 c hc
    .rw [List.mem_singleton.mp hc];omega
   .rw [yuH,h3];omega
   .refine h4 (by omega) ?_
    generalize (Nat.toDigits 10 (m/10)).map Char.toNat=l at *
    cases l with
    | nil=>exact absurd rfl h1
    | cons a l=>simpa using e
theorem yrS {n:Int}(h:0<=n):(Str.ofString (toString n)).cps.toList=yqa n.toNat:=by
 obtain ⟨m,rfl⟩:∃ m:Nat,n=m:=⟨n.toNat,by omega⟩
 rw [Str.ofString_eq_toList]
 show (toString m).toList.map Char.toNat=_
 rw [Int.toNat_natCast,show (toString m)=m.repr from rfl,Nat.toList_repr];rfl
def yen (r:Str):Prop:=∃ c:Nat,97<=c/\c<=104/\r=⟨#[c]⟩
def yjB (z:Str):Prop:=1<=z.length/\z.length<=8/\∀ c∈z.cps.toList,97<=c/\c<=122
mutual
noncomputable def gdT:T->Prop
 | .let_ r n=>yen r/\0<=n/\n<B64
 | .take r s=>yen r/\yen s
 | .put r s=>yen r/\yen s
 | .either a b=>gdL a/\gdL b
 | .try_ a nm r b=>yjB nm/\yen r/\gdL a/\gdL b
 | .throw nm r=>yjB nm/\yen r
 | .wait=>True
noncomputable def gdL:List T->Prop
 | []=>True
 | t::r=>gdT t/\gdL r
end
def wsd (l:List Str):List Str:=("(":Str)::(l++[(")":Str)])
mutual
noncomputable def wdT:T->List Str
 | .let_ r n=>["let",r,(toString n:String)]
 | .take r s=>["take",r,s]
 | .put s t=>["put",s,t]
 | .either a b=>("either":Str)::(wsd (wdL a)++("or":Str)::wsd (wdL b))
 | .try_ a nm r b=>("try":Str)::(wsd (wdL a)++("on":Str)::nm::r::wsd (wdL b))
 | .throw nm r=>["throw",nm,r]
 | .wait=>["wait"]
noncomputable def wdL:List T->List Str
 | []=>[]
 | t::r=>wdT t++wdR r
noncomputable def wdR:List T->List Str
 | []=>[]
 | t::r=>";"::(wdT t++wdR r)
end
theorem yyr:∀ {t:T},gdT t->wdT t≠[]
 | .let_ ..,_=>fun z=>by cases z
 | .take ..,_=>fun z=>by cases z
 | .put ..,_=>fun z=>by cases z
 | .either ..,_=>fun z=>by cases z
 | .try_ ..,_=>fun z=>by cases z
 | .throw ..,_=>fun z=>by cases z
 | .wait,_=>fun z=>by cases z
theorem yde {sep:Str}:∀ {a b:List Str},a≠[]->b≠[]->Str.join sep (a++b)=Str.join sep a++sep++Str.join sep b
 | [],_,h,_=>absurd rfl h
 | [x],[],_,h=>absurd rfl h
 | [x],y::b,_,_=>rfl
 | x::y::a,b,_,hb=>by
  have ih:=yde (sep:=sep) (a:=y::a) (b:=b) (fun z=>by cases z) hb
  show x++sep++Str.join sep ((y::a)++b)=x++sep++Str.join sep (y::a)++sep++Str.join sep b
  rw [ih];simp only [ygu]
theorem ylY {sep x:Str}{b:List Str}(h:b≠[]):Str.join sep (x::b)=x++sep++Str.join sep b:=yde (a:=[x]) (fun z=>by cases z) h
theorem yBi:(" ; ":Str) = " "++";"++" ":=by rfl'
theorem yBj:("( )":Str) = "("++" "++")":=by rfl'
def fr (w:Str):Prop:=32∉w.cps.toList/\w.length≠0/\w.length<=20
theorem ycP {r:Str}(h:yen r):fr r:=by
 obtain ⟨c,h1,h2,rfl⟩:=h
 refine ⟨fun z=>?_,(fun z:1=0=>by cases z),(show 1<=20 by decide)⟩
 have:32=c:=by simpa using z
 omega
theorem ykz {r:Str}(h:yjB r):fr r:=⟨fun z=>by have:=h.2.2 _ z;omega,by have:=h.1;omega,by have:=h.2.1;omega⟩
theorem yrT {n:Int}(h:0<=n) (h2:n<B64):fr (toString n:String):=by
 have e:=yrS h
 obtain ⟨h3,h4,_⟩:=yrR n.toNat
 refine ⟨fun z=>?_,fun z=>h3 ?_,str_len h (by decide) (Int.lt_trans h2 yrP)⟩
 .rw [e] at z
  have:=h4 _ z
  omega
 .rw [<- e]
  have:(Str.ofString (toString n)).cps.size=0:=z
  exact List.eq_nil_of_length_eq_zero (by simpa using this)
theorem yqb (s:Str) (h:decide (32∉s.cps.toList/\s.length≠0/\s.length<=20)=true):fr s:=(show 32∉s.cps.toList/\s.length≠0/\s.length<=20 from of_decide_eq_true h)
def frs (l:List Str):Prop:=∀ w∈l,fr w
theorem yeZ:frs []:=fun _ h=>by cases h
theorem ybc {w:Str}{l:List Str}(h:fr w) (k:frs l):frs (w::l):=fun x hx=>(mem_cons.mp hx).elim (fun e=>e ▸ h) (k x)
theorem yio {a b:List Str}(h:frs a) (k:frs b):frs (a++b):=fun x hx=>(List.mem_append.mp hx).elim (h x) (k x)
theorem yEq:fr "let":=yqb _ (by rfl')
theorem yBk:fr "take":=yqb _ (by rfl')
theorem yEr:fr "put":=yqb _ (by rfl')
theorem yuI:fr "either":=yqb _ (by rfl')
theorem yFZ:fr "or":=yqb _ (by rfl')
theorem yEs:fr "try":=yqb _ (by rfl')
theorem yGa:fr "on":=yqb _ (by rfl')
theorem yys:fr "throw":=yqb _ (by rfl')
theorem yBl:fr "wait":=yqb _ (by rfl')
theorem yGb:fr "(":=yqb _ (by rfl')
theorem yGc:fr ")":=yqb _ (by rfl')
theorem yGd:fr ";":=yqb _ (by rfl')
theorem yoP {l:List Str}(h:frs l):frs (wsd l):=ybc yGb (yio h (ybc yGc yeZ))
mutual
theorem yBm:∀ {t:T},gdT t->frs (wdT t)
 | .let_ r n,g=>ybc yEq (ybc (ycP g.1) (ybc (yrT g.2.1 g.2.2) yeZ))
 | .take r s,g=>ybc yBk (ybc (ycP g.1) (ybc (ycP g.2) yeZ))
 | .put r s,g=>ybc yEr (ybc (ycP g.1) (ybc (ycP g.2) yeZ))
 | .either a b,g=>ybc yuI (yio (yoP (yjb g.1)) (ybc yFZ (yoP (yjb g.2))))
 | .try_ a nm r b,g=>ybc yEs (yio (yoP (yjb g.2.2.1)) (ybc yGa (ybc (ykz g.1) (ybc (ycP g.2.1) (yoP (yjb g.2.2.2))))))
 | .throw nm r,g=>ybc yys (ybc (ykz g.1) (ybc (ycP g.2) yeZ))
 | .wait,_=>ybc yBl yeZ
theorem yjb:∀ {ts:List T},gdL ts->frs (wdL ts)
 | [],_=>yeZ
 | _::_,g=>yio (yBm g.1) (yBn g.2)
theorem yBn:∀ {ts:List T},gdL ts->frs (wdR ts)
 | [],_=>yeZ
 | _::_,g=>ybc yGd (yio (yBm g.1) (yBn g.2))
end
theorem yrU {sep:Str}{l:List Str}(h:frs l) (hl:l≠[]):Str.join sep l≠"":=by
 cases l with
 | nil=>exact absurd rfl hl
 | cons x r =>
  intro e
  have h1:=(h x mem_cons_self).2.1
  have:=yuF sep x r (by omega)
  rw [e,yBe] at this
  omega
theorem yuJ (l:List Str):wsd l≠[]:=fun z=>by cases z
theorem ygv {l:List Str}(h:frs l):yel (Str.join " " l)=Str.join " " (wsd l):=by
 unfold yel
 by_cases e:l=[]
 .subst e
  rw [if_pos (by rfl')]
  exact yBj
 .rw [if_neg (yrU h e)]
  show "("++" "++(Str.join " " l++" "++")")=Str.join " " (("(":Str)::(l++[(")":Str)]))
  rw [ylY (by simp),yde e (fun z=>by cases z)]
  rfl
theorem yoQ:∀ (t:T) (r:List T),(∀ u∈t::r,ygt u=Str.join " " (wdT u))->gdL (t::r)->Str.join " ; " (ybx (t::r))=Str.join " " (wdT t++wdR r)
 | t,[],h,_=>by
  show ygt t=Str.join " " (wdT t++[])
  rw [append_nil];exact h t mem_cons_self
 | t,u::r,h,g=>by
  have ih:=yoQ u r (fun v hv=>h v (mem_cons_of_mem _ hv)) g.2
  show ygt t++" ; "++Str.join " ; " (ybx (u::r))=Str.join " " (wdT t++(";":Str)::(wdT u++wdR r))
  have ne:wdT u++wdR r≠[]:=fun z=>yyr g.2.1 (List.append_eq_nil_iff.mp z).1
  rw [ih,h t mem_cons_self,yde (yyr g.1) (fun z=>by cases z),ylY ne,yBi]
  simp only [ygu]
mutual
theorem yuK:∀ (t:T),gdT t->ygt t=Str.join " " (wdT t)
 | .let_ ..,_=>rfl
 | .take ..,_=>rfl
 | .put ..,_=>rfl
 | .throw ..,_=>rfl
 | .wait,_=>rfl
 | .either a b,g=>by
  show Str.join " " ["either",yel (Str.join " ; " (ybx a)),"or",yel (Str.join " ; " (ybx b))]=Str.join " " ((["either"]:List Str)++(wsd (wdL a)++((["or"]:List Str)++wsd (wdL b))))
  rw [yeo a g.1,yeo b g.2,ygv (yjb g.1),ygv (yjb g.2),yde (a:=["either"]) (fun z=>by cases z) (fun z=>by cases z),yde (yuJ _) (fun z=>by cases z),yde (a:=["or"]) (fun z=>by cases z) (yuJ _)]
  simp only [Str.join,ygu]
 | .try_ a nm r b,g=>by
  show Str.join " " ["try",yel (Str.join " ; " (ybx a)),"on",nm,r,yel (Str.join " ; " (ybx b))]=Str.join " " ((["try"]:List Str)++(wsd (wdL a)++((["on",nm,r]:List Str)++wsd (wdL b))))
  rw [yeo a g.2.2.1,yeo b g.2.2.2,ygv (yjb g.2.2.1),ygv (yjb g.2.2.2),yde (a:=["try"]) (fun z=>by cases z) (fun z=>by cases z),yde (yuJ _) (fun z=>by cases z),yde (a:=["on",nm,r]) (fun z=>by cases z) (yuJ _)]
  simp only [Str.join,ygu]
theorem yeo:∀ (ts:List T),gdL ts->Str.join " ; " (ybx ts)=Str.join " " (wdL ts)
 | [],_=>rfl
 | t::r,g=>yoQ t r (ylZ (t::r) g) g
theorem ylZ:∀ (ts:List T),gdL ts->∀ u∈ts,ygt u=Str.join " " (wdT u)
 | [],_,u,h=>by cases h
 | t::r,g,u,h=>by
  rcases mem_cons.mp h with e|h
  .rw [e];exact yuK t g.1
  .exact ylZ r g.2 u h
end
section
variable {h:AH}
theorem yEt {z:Str}{i:Nat}{ρ:PSt}(e:yf i ρ h=some (.str z,h)) (hl:z.length<=100000):xIS (yf i) ρ h=some (z.cps.toList.map sgn,h):=by
 unfold xIS
 rw [e,ybF]
 exact if_pos hl
theorem yjC {x y:Str}(hl:x.length<=1000):ydh [.str x,.str y] h=some (.bl (x.cps.toList.all fun c=>decide (c∈y.cps.toList)),h):=by
 unfold ydh
 rw [yo]
 show ob (yP _ [.val (.str x),.val (.str y)] h) fnK=_
 have hz:x.cps.toList.length=x.length:=by simp [Str.length]
 symm
 rw [yEt rfl (by omega),ybF]
 rw [if_pos (by rw [length_map];omega)]
 rw [ykn (f:=sgn) (g:=fun c=>.bl (decide (c∈y.cps.toList))) fun c _=>rfl]
 symm
 show ob (yvM [.lst (x.cps.toList.map fun c=>PV.bl (decide (c∈y.cps.toList)))] h) _=_
 unfold yvM ybL
 rw [show (x.cps.toList.map fun c=>PV.bl (decide (c∈y.cps.toList)))=(x.cps.toList.map fun c=>decide (c∈y.cps.toList)).map PV.bl by rw [map_map];rfl]
 simp only [ylJ,List.all_map]
 rfl
theorem yrV {c:Nat}(h1:97<=c) (h2:c<=104):c∈("abcdefgh":Str).cps.toList:=by
 rw [show ("abcdefgh":Str).cps.toList=[97,98,99,100,101,102,103,104] by rfl']
 have:c=97\/c=98\/c=99\/c=100\/c=101\/c=102\/c=103\/c=104:=by omega
 rcases this with rfl|rfl|rfl|rfl|rfl|rfl|rfl|rfl
 all_goals decide
theorem ynv {c:Nat}(h1:97<=c) (h2:c<=122):c∈("abcdefghijklmnopqrstuvwxyz":Str).cps.toList:=by
 rw [show ("abcdefghijklmnopqrstuvwxyz":Str).cps.toList=(List.range 26).map (· + 97) by rfl']
 exact List.mem_map.mpr ⟨c-97,List.mem_range.mpr (by omega),by omega⟩
theorem yuL {c:Nat}(h1:48<=c) (h2:c<=57):c∈("0123456789":Str).cps.toList:=by
 rw [show ("0123456789":Str).cps.toList=(List.range 10).map (· + 48) by rfl']
 exact List.mem_map.mpr ⟨c-48,List.mem_range.mpr (by omega),by omega⟩
theorem ypH {r:Str}(g:yen r):ygp [.str r] h=some (.bl true,h):=by
 obtain ⟨c,h1,h2,rfl⟩:=g
 unfold ygp
 rw [yo]
 show ob (yP _ [.val (.str ⟨#[c]⟩)] h) fnK=_
 symm
 rw [show (⟨#[c]⟩:Str).length=1 from rfl]
 symm
 simp only [yrV h1 h2]
 rfl
theorem ypI {r:Str}(g:yjB r):ygq [.str r] h=some (.bl true,h):=by
 obtain ⟨h1,h2,h3⟩:=g
 unfold ygq
 rw [yo]
 show ob (yP _ [.val (.str r)] h) fnK=_
 symm
 rw [yjC (by omega)]
 rw [List.all_eq_true.mpr fun c hc=>decide_eq_true (ynv (h3 c hc).1 (h3 c hc).2)]
 simp only [show (1:Int)<=r.length by omega,show (r.length:Int)<=8 by omega]
 symm
 rw [if_pos (by omega)]
theorem yma {n:Int}(h0:0<=n) (h1:n<B64):yeC [.str (toString n:String)] h=some (.int n,h):=by
 obtain ⟨d1,d2,d3,d4,d5⟩:=yrR n.toNat
 have hl:=str_len h0 (k:=20) (by decide) (Int.lt_trans h1 yrP)
 have hn:(Str.ofString (toString n)).length≠0:=(yrT h0 h1).2.1
 have e:=yrS h0
 have hz:n=0->Str.ofString (toString n) = "0":=fun z=>by subst z;rfl'
 have hat:atI (Str.ofString (toString n)).cps.toList 0=some ((yqa n.toNat).headD 0):=by
  rw [e]
  cases q:yqa n.toNat with
  | nil=>exact absurd q d1
  | cons a l=>exact yDQ
 have hh:(yqa n.toNat).headD 0=48->n=0:=fun q=>Classical.byContradiction fun z=>d4 (by omega) (by
  cases q2:yqa n.toNat with
  | nil=>exact absurd q2 d1
  | cons a l=>rw [q2] at q;simpa using q)
 generalize hs:Str.ofString (toString n)=z at *
 unfold yeC
 rw [yo]
 show ob (yl _ _ [.val (.str z),.no] h) fnK=_
 have ml:z.cps.toList.all (fun c=>decide (c∈("0123456789":Str).cps.toList))=true:=List.all_eq_true.mpr fun c hc=>decide_eq_true (yuL (d2 c (e ▸ hc)).1 (d2 c (e ▸ hc)).2)
 symm
 rw [if_pos (by omega:z.length<=100000)]
 simp only [show (1:Int)<=z.length by omega,show (z.length:Int)<=20 by omega]
 symm
 rw [yjC (by omega),ml]
 symm
 rw [hat]
 symm
 have hb:∀ h:AH,yrd [.str z] h=some (.int n,h):=fun h=>by
  unfold yrd
  show (if _ then _ else _)=_
  rw [if_pos ⟨by rw [e];exact d1,by rw [e];exact d2,by omega⟩,e,d3,Int.toNat_of_nonneg h0]
 rw [if_neg (not_not_intro trivial),if_pos (by omega)]
 simp only [sgn,hb]
 symm
 rw [if_pos h1]
 split
 .rename_i q
  have q:(yqa n.toNat).headD 0=48:=by
   have q2:=congrArg (fun s:Str=>s.cps.toList) q
   rw [show ("0":Str).cps.toList=[48] by rfl'] at q2
   simpa using q2
  rw [if_neg (not_not_intro (hz (hh q)))]
 .rfl
end
theorem ykA:(("let":Str) = "if")=False:=eq_false (by rfl')
theorem yfa:(("let":Str) = "either")=False:=eq_false (by rfl')
theorem yip:(("let":Str) = "try")=False:=eq_false (by rfl')
theorem yjD:(("take":Str) = "let")=False:=eq_false (by rfl')
theorem yiq:(("take":Str) = "if")=False:=eq_false (by rfl')
theorem yeG:(("take":Str) = "either")=False:=eq_false (by rfl')
theorem ygW:(("take":Str) = "try")=False:=eq_false (by rfl')
theorem ymb:(("put":Str) = "let")=False:=eq_false (by rfl')
theorem yjE:(("put":Str) = "take")=False:=eq_false (by rfl')
theorem ykB:(("put":Str) = "if")=False:=eq_false (by rfl')
theorem yfb:(("put":Str) = "either")=False:=eq_false (by rfl')
theorem yir:(("put":Str) = "try")=False:=eq_false (by rfl')
theorem yis:(("throw":Str) = "let")=False:=eq_false (by rfl')
theorem yfc:(("throw":Str) = "take")=False:=eq_false (by rfl')
theorem yit:(("throw":Str) = "put")=False:=eq_false (by rfl')
theorem ydV:(("throw":Str) = "wait")=False:=eq_false (by rfl')
theorem ygX:(("throw":Str) = "if")=False:=eq_false (by rfl')
theorem yee:(("throw":Str) = "either")=False:=eq_false (by rfl')
theorem yfT:(("throw":Str) = "try")=False:=eq_false (by rfl')
theorem yjF:(("wait":Str) = "let")=False:=eq_false (by rfl')
theorem yfU:(("wait":Str) = "take")=False:=eq_false (by rfl')
theorem yjG:(("wait":Str) = "put")=False:=eq_false (by rfl')
theorem yhk:(("wait":Str) = "throw")=False:=eq_false (by rfl')
theorem yiu:(("wait":Str) = "if")=False:=eq_false (by rfl')
theorem yeH:(("wait":Str) = "either")=False:=eq_false (by rfl')
theorem ygY:(("wait":Str) = "try")=False:=eq_false (by rfl')
theorem yfV:(("either":Str) = "if")=False:=eq_false (by rfl')
theorem ykC:(("try":Str) = "if")=False:=eq_false (by rfl')
theorem yfd:(("try":Str) = "either")=False:=eq_false (by rfl')
local macro_rules | `(tactic| walk_at "qq")=>`(tactic| simp_all? only [$(sl_ "ykA yfa yip yjD yiq yeG ygW ymb yjE ykB yfb yir yis yfc yit ydV ygX yee yfT yjF yfU yjG yhk yiu yeH ygY yfV ykC yfd"),*,↓reduceIte])
local macro_rules | `(tactic| walk_at "qt")=>`(tactic| simp_all? only [$(sl_ "yDQ yFu ykA yfa yip yjD yiq yeG ygW ymb yjE ykB yfb yir yis yfc yit ydV ygX yee yfT yjF yfU yjG yhk yiu yeH ygY yfV ykC yfd"),*,↓reduceIte])
section
def rdr (ws:List Str) (k:Nat):Nd:=.ins 10 ["words","at"] [.lst (ws.map .str),.int k]
def hR (h:AH) (o:Nat) (ws:List Str) (k:Nat):AH:=h.set o (rdr ws k)
variable {h:AH}{o:Nat}{ws:List Str}{k:Nat}
theorem yuM (ho:o<h.length):(hR h o ws k)[o]?=some (.ins 10 ["words","at"] [.lst (ws.map .str),.int k]):=getElem?_set_self ho
theorem yBo {j:Nat}:(hR h o ws k).set o (.ins 10 ["words","at"] [.lst (ws.map .str),.int j])=hR h o ws j:=by unfold hR rdr;rw [List.set_set]
theorem yoR (ho:o<h.length):yet [10] "words" (.loc o) (hR h o ws k)=some (.lst (ws.map .str),hR h o ws k):=by
 unfold yet yeQ
 simp only [yuM ho]
 rw [if_pos (by rfl'),show idxOf ("words":Str) ["words","at"]=0 by rfl']
 rfl
theorem yyt (ho:o<h.length):yet [10,12] "at" (.loc o) (hR h o ws k)=some (.int k,hR h o ws k):=by
 unfold yet yeQ
 simp only [yuM ho]
 rw [if_pos (by rfl'),show idxOf ("at":Str) ["words","at"]=1 by rfl']
 rfl
theorem mR {m:Str}{f:Fn}{ys:List PV}{a:XE}{aa:XA}{ρ:PSt}{h0 h2:AH}(ho:o<h.length) (hm:m∉(["words","at"]:List Str)) (ea:a ρ h0=some (.loc o,hR h o ws k)) (eb:aa ρ (hR h o ws k)=some (ys,h2)):yh 10 m f a aa ρ h0=f (.loc o::ys) h2:=by
 unfold yh yeQ
 rw [ea,ybF]
 simp only [yuM ho]
 rw [if_pos ⟨trivial,hm⟩,eb];rfl
theorem pR (ho:o<h.length) {j:Nat}{eo ev:XE}{ρ:PSt}(e1:ev ρ (hR h o ws k)=some (.int (j:Int),hR h o ws k)) (e2:eo ρ (hR h o ws k)=some (.loc o,hR h o ws k)):ycT [10,12] "at" eo ev ρ (hR h o ws k)=some (.nx ρ,hR h o ws j):=by
 unfold ycT
 rw [e1,ybF,e2,ybF]
 simp only [yuM ho]
 rw [if_pos ⟨by decide,by decide⟩]
 show some (Out.nx ρ,(hR h o ws k).set o (.ins 10 (putN "at" (.int j) ["words","at"] [.lst (ws.map .str),.int k]).1 (putN "at" (.int j) ["words","at"] [.lst (ws.map .str),.int k]).2))=_
 rw [show putN "at" (.int j) ["words","at"] [.lst (ws.map .str),.int k]=(([("words":Str),"at"]:List Str),[PV.lst (ws.map .str),.int j]) from rfl,yBo]
theorem yoS {w:Str}{r:List Str}(e:ws.drop k=w::r):ws[k]?=some w/\k<ws.length/\ws.drop (k+1)=r:=by
 have hk:k<ws.length:=Classical.byContradiction fun z=>by rw [List.drop_of_length_le (by omega)] at e;cases e
 rw [List.drop_eq_getElem_cons hk] at e
 cases e
 exact ⟨List.getElem?_eq_getElem hk,hk,rfl⟩
theorem yEu (e:ws.drop k=[]):ws.length<=k:=List.drop_eq_nil_iff.mp e
theorem yeI {w:Str}{r:List Str}(ho:o<h.length) (hl:ws.length<=100000) (e:ws.drop k=w::r):yW [.loc o] (hR h o ws k)=some (.str w,hR h o ws k):=by
 obtain ⟨e1,e2,_⟩:=yoS e
 unfold yW
 rw [yo]
 show ob (yl _ _ [.val (.loc o)] (hR h o ws k)) fnK=_
 have e3:atI (ws.map PV.str) (k:Int)=some (.str w):=ydn (by rw [getElem?_map,e1];rfl)
 simp_all? only [yoR ho,yyt ho,length_map,Int.ofNat_lt,e2,e3,↓reduceIte]
theorem ykD (ho:o<h.length) (hl:ws.length<=100000) (e:ws.drop k=[]):yW [.loc o] (hR h o ws k)=some (.non,hR h o ws k):=by
 have e2:=yEu e
 unfold yW
 rw [yo]
 show ob (yl _ _ [.val (.loc o)] (hR h o ws k)) fnK=_
 simp_all? only [yoR ho,yyt ho,length_map,Int.ofNat_lt,show ¬ k<ws.length by omega,↓reduceIte]
theorem yeJ {w:Str}{r:List Str}(ho:o<h.length) (hl:ws.length<=100000) (e:ws.drop k=w::r):ybp [.loc o] (hR h o ws k)=some (.str w,hR h o ws (k+1)):=by
 unfold ybp
 rw [yo]
 show ob (yl _ _ [.val (.loc o),.no] (hR h o ws k)) fnK=_
 symm
 rw [mR ho (by rfl') rfl rfl,yeI ho hl e]
 symm
 rw [if_neg (by intro z;cases z),pR (j:=k+1) ho (by symm;simp only [yyt ho];symm;rfl) rfl]
 symm
theorem yiv {w:Str}{r:List Str}(ho:o<h.length) (hl:ws.length<=100000) (e:ws.drop k=w::r):yN [.loc o,.str w] (hR h o ws k)=some (.non,hR h o ws (k+1)):=by
 unfold yN
 rw [yo]
 show ob (yl _ _ [.val (.loc o),.val (.str w),.no] (hR h o ws k)) fnK=_
 symm
 rw [mR ho (by rfl') rfl rfl,yeJ ho hl e]
 symm
theorem ybP {w:Str}{r:List Str}(g:yen w) (ho:o<h.length) (hl:ws.length<=100000) (e:ws.drop k=w::r):yD [.loc o] (hR h o ws k)=some (.str w,hR h o ws (k+1)):=by
 unfold yD
 rw [yo]
 show ob (yl _ _ [.val (.loc o),.no] (hR h o ws k)) fnK=_
 symm
 rw [mR ho (by rfl') rfl rfl,yeJ ho hl e]
 simp_all? only [ypH g]
theorem ygw {w:Str}{r:List Str}(g:yjB w) (ho:o<h.length) (hl:ws.length<=100000) (e:ws.drop k=w::r):ybv [.loc o] (hR h o ws k)=some (.str w,hR h o ws (k+1)):=by
 unfold ybv
 rw [yo]
 show ob (yl _ _ [.val (.loc o),.no] (hR h o ws k)) fnK=_
 symm
 rw [mR ho (by rfl') rfl rfl,yeJ ho hl e]
 simp_all? only [ypI g]
theorem yiw {n:Int}{r:List Str}(h0:0<=n) (h1:n<B64) (ho:o<h.length) (hl:ws.length<=100000) (e:ws.drop k=Str.ofString (toString n)::r):ybC [.loc o] (hR h o ws k)=some (.int n,hR h o ws (k+1)):=by
 unfold ybC
 rw [yo]
 show ob (yl _ _ [.val (.loc o),.no,.no] (hR h o ws k)) fnK=_
 symm
 rw [mR ho (by rfl') rfl rfl,yeJ ho hl e]
 simp_all? only [yma h0 h1]
 rw [if_neg (by intro z;cases z)]
theorem yEv {r:Str}{n:Int}{h:AH}:yeb [.str r,.int n] h=some (.ins 1 ["slot","number"] [.str r,.int n],h):=rfl
theorem yBp {r s:Str}{h:AH}:ydH [.str r,.str s] h=some (.ins 3 ["slot","place"] [.str r,.str s],h):=rfl
theorem yEw {r s:Str}{h:AH}:yec [.str r,.str s] h=some (.ins 4 ["place","slot"] [.str r,.str s],h):=rfl
theorem yyu {r s:Str}{h:AH}:ydr [.str r,.str s] h=some (.ins 8 ["name","slot"] [.str r,.str s],h):=rfl
theorem yuN {a b:List PV}{h:AH}:ycY [.lst a,.lst b] h=some (.ins 6 ["parts","others"] [.lst a,.lst b],h):=rfl
theorem yEx {r s:Str}{a b:List PV}{h:AH}:yed [.lst a,.str r,.str s,.lst b] h=some (.ins 7 ["parts","name","slot","others"] [.lst a,.str r,.str s,.lst b],h):=rfl
theorem yjc {t:T}{w:Str}{tl rest:List Str}(g:gdT t) (hp:plain t) (ew:wdT t=w::tl) (ho:o<h.length) (hl:ws.length<=100000) (e:ws.drop k=tl++rest):ybI [.loc o,.str w] (hR h o ws k)=some (ycF t,hR h o ws (k+tl.length)):=by
 unfold ybI
 rw [yo]
 show ob (yl _ _ [.val (.loc o),.val (.str w),.no,.no,.no] (hR h o ws k)) fnK=_
 cases t with
 | either a b=>exact hp.elim
 | try_ a nm r b=>exact hp.elim
 | let_ r n =>
  cases ew
  have e1:=(yoS e).2.2
  walk_at "qq"
  rw [mR ho (by rfl') rfl rfl,ybP g.1 ho hl e]
  symm
  rw [mR ho (by rfl') rfl rfl,yiw g.2.1 g.2.2 ho hl e1]
  simp_all? only [yEv]
  rfl
 | take r s =>
  cases ew
  have e1:=(yoS e).2.2
  walk_at "qq"
  rw [mR ho (by rfl') rfl rfl,ybP g.1 ho hl e]
  symm
  rw [mR ho (by rfl') rfl rfl,ybP g.2 ho hl e1]
  simp_all? only [yBp]
  rfl
 | put r s =>
  cases ew
  have e1:=(yoS e).2.2
  walk_at "qq"
  rw [mR ho (by rfl') rfl rfl,ybP g.1 ho hl e]
  symm
  rw [mR ho (by rfl') rfl rfl,ybP g.2 ho hl e1]
  simp_all? only [yEw]
  rfl
 | throw nm r =>
  cases ew
  have e1:=(yoS e).2.2
  walk_at "qq"
  rw [mR ho (by rfl') rfl rfl,ygw g.1 ho hl e]
  symm
  rw [mR ho (by rfl') rfl rfl,ybP g.2 ho hl e1]
  simp_all? only [yyu]
  rfl
 | wait =>
  cases ew
  walk_at "qq"
  rfl
end
mutual
noncomputable def rdT:T->Int
 | .either a b=>max 0 (max (1+rdL a) (1+rdL b))
 | .try_ a _ _ b=>max 0 (max (1+rdL a) (1+rdL b))
 | _=>0
noncomputable def rdL:List T->Int
 | []=>-1
 | t::r=>max (rdT t) (rdL r)
end
mutual
noncomputable def yBq:T->Prop
 | .either a b=>yuO a/\yuO b/\a.length<=90/\b.length<=90
 | .try_ a _ _ b=>yuO a/\yuO b/\a.length<=90/\b.length<=90
 | _=>True
noncomputable def yuO:List T->Prop
 | []=>True
 | t::r=>yBq t/\yuO r
end
theorem yEy:∀ t:T,0<=rdT t
 | .let_ ..=>by show (0:Int)<=0;omega
 | .take ..=>by show (0:Int)<=0;omega
 | .put ..=>by show (0:Int)<=0;omega
 | .throw ..=>by show (0:Int)<=0;omega
 | .wait=>by show (0:Int)<=0;omega
 | .either a b=>by show 0<=max 0 (max (1+rdL a) (1+rdL b));omega
 | .try_ a _ _ b=>by show 0<=max 0 (max (1+rdL a) (1+rdL b));omega
theorem fw:∀ {t:T},gdT t->∃ w tl,wdT t=w::tl/\w≠")"
 | .let_ ..,_=>⟨_,_,rfl,by rfl'⟩
 | .take ..,_=>⟨_,_,rfl,by rfl'⟩
 | .put ..,_=>⟨_,_,rfl,by rfl'⟩
 | .either ..,_=>⟨_,_,rfl,by rfl'⟩
 | .try_ ..,_=>⟨_,_,rfl,by rfl'⟩
 | .throw ..,_=>⟨_,_,rfl,by rfl'⟩
 | .wait,_=>⟨_,_,rfl,by rfl'⟩
theorem yyv:((")":Str) = ";")=False:=eq_false (by rfl')
theorem ygx {ws a b:List Str}{k:Nat}(e:ws.drop k=a++b):ws.drop (k+a.length)=b:=by
 rw [<- List.drop_drop,e,List.drop_left]
def ends (rest:List Str):Prop:=rest=[]\/∃ r,rest=(")":Str)::r
section
variable {h:AH}{o:Nat}{ws:List Str}{k:Nat}
def yjH (h:AH) (o:Nat) (ws:List Str) (n:Nat):Prop:=∀ (t:T) (k:Nat) (rest:List Str) (ar:Int),gdT t->yBq t->rdT t+ar<=8->4*ypZ t+1<=n->ws.drop k=wdT t++rest->yJ n [.loc o,.int ar] (hR h o ws k)=some (ycF t,hR h o ws (k+(wdT t).length))
def ynw (n:Nat):XS:=yl (ybj (yh 10 "pass_over" yN (yf 0) (yc (xC (.str ";")) (yi)))) (ykd 2 (yh 10 "part_taken" (yJ n) (yf 0) (yc (yf 1) (yi))))
theorem yrW {n:Nat}(G:yjH h o ws n) (ho:o<h.length) (hl:ws.length<=100000) {rest:List Str}(hr:ends rest) {ar:Int}:∀ (r:List T) (acc:List PV) (k fu:Nat),gdL r->yuO r->rdL r+ar<=8->4*yeS r+1<=n->r.length<fu->acc.length+r.length<=1000->ws.drop k=wdR r++rest ->
  whl yja (ynw n) fu [.val (.loc o),.val (.int ar),.own (.lst acc)] (hR h o ws k)=some (.nx [.val (.loc o),.val (.int ar),.own (.lst (acc++ycx r))],hR h o ws (k+(wdR r).length))
 | [],acc,k,fu+1,_,_,_,_,_,_,e=>by
  rw [yow]
  have e:ws.drop k=rest:=e
  have c:yja [.val (.loc o),.val (.int ar),.own (.lst acc)] (hR h o ws k)=some (false,hR h o ws k):=by
   unfold yja
   symm
   rw [mR ho (by rfl') rfl rfl]
   rcases hr with rfl|⟨r,rfl⟩
   .rw [ykD ho hl e]
    symm
    rfl
   .rw [yeI ho hl e]
    simp_all? only [yyv]
  rw [c,ybF,if_neg (by intro z;cases z)]
  show _=some (Out.nx [.val (.loc o),.val (.int ar),.own (.lst (acc++[]))],hR h o ws (k+0))
  rw [append_nil];rfl
 | t::r,acc,k,fu+1,g,f,hd,hf,hu,ha,e=>by
  rw [yow]
  have e:ws.drop k=(";":Str)::(wdT t++wdR r++rest):=e
  have hd:max (rdT t) (rdL r)+ar<=8:=hd
  have hf:4*max (ypZ t) (yeS r)+1<=n:=hf
  have e1:=(yoS e).2.2
  rw [append_assoc] at e1
  have hu:r.length+1<fu+1:=hu
  have ha:acc.length+(r.length+1)<=1000:=ha
  have c:yja [.val (.loc o),.val (.int ar),.own (.lst acc)] (hR h o ws k)=some (true,hR h o ws k):=by
   unfold yja
   symm
   rw [mR ho (by rfl') rfl rfl,yeI ho hl e]
   symm
  have b:ynw n [.val (.loc o),.val (.int ar),.own (.lst acc)] (hR h o ws k)=some (.nx [.val (.loc o),.val (.int ar),.own (.lst (acc++[ycF t]))],hR h o ws (k+1+(wdT t).length)):=by
   unfold ynw
   symm
   rw [mR ho (by rfl') rfl rfl,yiv ho hl e]
   symm
   rw [yvU rfl,mR ho (by rfl') rfl rfl,G t (k+1) _ ar g.1 f.1 (by omega) (by omega) e1]
   symm
   rw [if_pos (by omega)]
  rw [c,ybF,if_pos rfl,b,ybF]
  show whl yja (ynw n) fu _ _=_
  rw [yrW G ho hl hr r (acc++[ycF t]) (k+1+(wdT t).length) fu g.2 f.2 (by omega) (by omega) (by omega) (by rw [length_append,List.length_singleton];omega) (ygx e1)]
  show _=some (Out.nx [.val (.loc o),.val (.int ar),.own (.lst (acc++(ycF t::ycx r)))],hR h o ws (k+((wdT t++wdR r).length+1)))
  rw [append_assoc,length_append,List.singleton_append,show k+1+(wdT t).length+(wdR r).length=k+((wdT t).length+(wdR r).length+1) by omega]
theorem list_eq {n:Nat}(G:yjH h o ws n) (ho:o<h.length) (hl:ws.length<=100000) {rest:List Str}(hr:ends rest) {ar:Int}{ts:List T}{k:Nat}(g:gdL ts) (f:yuO ts) (hc:ts.length<=90) (hd:rdL ts+ar<=8) (hf:4*yeS ts+1<=n) (e:ws.drop k=wdL ts++rest) :
  ybw (n+1) [.loc o,.int ar] (hR h o ws k)=some (.lst (ycx ts),hR h o ws (k+(wdL ts).length)):=by
 unfold ybw
 rw [yo]
 show ob (yl _ (yl _ (yl (yfD 100 yja (ynw n)) _)) [.val (.loc o),.val (.int ar),.no] (hR h o ws k)) fnK=_
 cases ts with
 | nil =>
  have e:ws.drop k=rest:=e
  symm
  rw [mR ho (by rfl') rfl rfl]
  rcases hr with rfl|⟨r,rfl⟩
  .rw [ykD ho hl e]
   symm
   rw [if_pos (show isN PV.non=true from rfl)];rfl
  .rw [yeI ho hl e]
   symm
   rw [if_neg (by intro z;cases z),mR ho (by rfl') rfl rfl,yeI ho hl e]
   symm
   rfl
 | cons t r =>
  have e:ws.drop k=wdT t++wdR r++rest:=e
  have hd:max (rdT t) (rdL r)+ar<=8:=hd
  have hf:4*max (ypZ t) (yeS r)+1<=n:=hf
  have hc:r.length+1<=90:=hc
  obtain ⟨w,tl,ew,nw⟩:=fw g.1
  have e0:ws.drop k=w::(tl++wdR r++rest):=by rw [e,ew];rfl
  rw [append_assoc] at e
  symm
  rw [mR ho (by rfl') rfl rfl,yeI ho hl e0]
  symm
  rw [if_neg (by intro z;cases z),mR ho (by rfl') rfl rfl,yeI ho hl e0]
  simp_all? only [nw,↓reduceIte]
  rw [mR ho (by rfl') rfl rfl,G t k _ ar g.1 f.1 (by omega) (by omega) e]
  symm
  rw [show yfD 100 yja (ynw n) [PVar.val (PV.loc o),PVar.val (PV.int ar),PVar.own (Nd.lst [ycF t])] (hR h o ws (k+(wdT t).length))=whl yja (ynw n) 100 [PVar.val (PV.loc o),PVar.val (PV.int ar),PVar.own (Nd.lst [ycF t])] (hR h o ws (k+(wdT t).length)) from rfl,
   yrW G ho hl hr r [ycF t] (k+(wdT t).length) 100 g.2 f.2 (by omega) (by omega) (by omega) (by rw [List.length_singleton];omega) (ygx e)]
  symm
  show some (PV.lst ([ycF t]++ycx r),_)=some (PV.lst (ycF t::ycx r),hR h o ws (k+(wdT t++wdR r).length))
  rw [length_append,<- Nat.add_assoc];rfl
theorem ykE {n:Nat}(G:yjH h o ws n) (ho:o<h.length) (hl:ws.length<=100000) {rest:List Str}{ar:Int}{ts:List T}{k:Nat}(g:gdL ts) (f:yuO ts) (hc:ts.length<=90) (hd:rdL ts+ar<=8) (hf:4*yeS ts+1<=n) (e:ws.drop k=wsd (wdL ts)++rest) :
  yU (n+2) [.loc o,.int ar] (hR h o ws k)=some (.lst (ycx ts),hR h o ws (k+(wsd (wdL ts)).length)):=by
 have e:ws.drop k=("(":Str)::(wdL ts++(")":Str)::rest):=by
  rw [e];unfold wsd;simp
 have e1:=(yoS e).2.2
 have e2:=ygx e1
 unfold yU
 rw [yo]
 show ob (yl _ _ [.val (.loc o),.val (.int ar),.no] (hR h o ws k)) fnK=_
 symm
 rw [mR ho (by rfl') rfl rfl,yiv ho hl e]
 symm
 rw [mR ho (by rfl') rfl rfl,list_eq G ho hl (.inr ⟨_,rfl⟩) g f hc hd hf e1]
 symm
 rw [mR ho (by rfl') rfl rfl,yiv ho hl e2]
 symm
 rw [show (wsd (wdL ts)).length=(wdL ts).length+2 by unfold wsd;simp,show k+1+(wdL ts).length+1=k+((wdL ts).length+2) by omega]
theorem yrX {n:Nat}(G:yjH h o ws n) (ho:o<h.length) (hl:ws.length<=100000) {rest:List Str}{ar:Int}{a b:List T}{k:Nat}(g:gdT (.either a b)) (f:yBq (.either a b)) (hd:max (rdL a) (rdL b)+ar<=8) (hf:4*max (yeS a) (yeS b)+1<=n) (e1:ws.drop k=wsd (wdL a)++("or":Str)::(wsd (wdL b)++rest)) :
  ybD (n+3) [.loc o,.int ar] (hR h o ws k)=some (ycF (.either a b),hR h o ws (k+(wsd (wdL a)).length+1+(wsd (wdL b)).length)):=by
 have e2:=ygx e1
 have e3:=(yoS e2).2.2
 unfold ybD
 rw [yo]
 show ob (yl _ _ [.val (.loc o),.val (.int ar),.no,.no] (hR h o ws k)) fnK=_
 symm
 rw [mR ho (by rfl') rfl rfl,ykE G ho hl g.1 f.1 f.2.2.1 (by omega) (by omega) e1]
 symm
 rw [mR ho (by rfl') rfl rfl,yiv ho hl e2]
 symm
 rw [mR ho (by rfl') rfl rfl,ykE G ho hl g.2 f.2.1 f.2.2.2 (by omega) (by omega) e3]
 simp_all? only [yuN]
 rfl
theorem yBr {n:Nat}(G:yjH h o ws n) (ho:o<h.length) (hl:ws.length<=100000) {rest:List Str}{ar:Int}{nm r:Str}{a b:List T}{k:Nat}(g:gdT (.try_ a nm r b)) (f:yBq (.try_ a nm r b)) (hd:max (rdL a) (rdL b)+ar<=8) (hf:4*max (yeS a) (yeS b)+1<=n) (e1:ws.drop k=wsd (wdL a)++("on":Str)::nm::r::(wsd (wdL b)++rest)) :
  ybY (n+3) [.loc o,.int ar] (hR h o ws k)=some (ycF (.try_ a nm r b),hR h o ws (k+(wsd (wdL a)).length+1+1+1+(wsd (wdL b)).length)):=by
 have e2:=ygx e1
 have e3:=(yoS e2).2.2
 have e4:=(yoS e3).2.2
 have e5:=(yoS e4).2.2
 unfold ybY
 rw [yo]
 show ob (yl _ _ [.val (.loc o),.val (.int ar),.no,.no,.no,.no] (hR h o ws k)) fnK=_
 symm
 rw [mR ho (by rfl') rfl rfl,ykE G ho hl g.2.2.1 f.1 f.2.2.1 (by omega) (by omega) e1]
 symm
 rw [mR ho (by rfl') rfl rfl,yiv ho hl e2]
 symm
 rw [mR ho (by rfl') rfl rfl,ygw g.1 ho hl e3]
 symm
 rw [mR ho (by rfl') rfl rfl,ybP g.2.1 ho hl e4]
 symm
 rw [mR ho (by rfl') rfl rfl,ykE G ho hl g.2.2.2 f.2.1 f.2.2.2 (by omega) (by omega) e5]
 simp_all? only [yEx]
 rfl
theorem yep {n:Nat}(ho:o<h.length) (hl:ws.length<=100000) {t:T}{rest:List Str}{ar:Int}(g:gdT t) (hp:plain t) (hd:ar<=8) (e:ws.drop k=wdT t++rest):yJ (n+1) [.loc o,.int ar] (hR h o ws k)=some (ycF t,hR h o ws (k+(wdT t).length)):=by
 obtain ⟨w,tl,ew,_⟩:=fw g
 have e0:ws.drop k=w::(tl++rest):=by rw [e,ew];rfl
 have nw:(w = "if")=False/\(w = "either")=False/\(w = "try")=False:=by
  cases t with
  | either a b=>exact hp.elim
  | try_ a nm r b=>exact hp.elim
  | let_ r n=>cases ew;exact ⟨ykA,yfa,yip⟩
  | take r s=>cases ew;exact ⟨yiq,yeG,ygW⟩
  | put r s=>cases ew;exact ⟨ykB,yfb,yir⟩
  | throw r s=>cases ew;exact ⟨ygX,yee,yfT⟩
  | wait=>cases ew;exact ⟨yiu,yeH,ygY⟩
 unfold yJ
 rw [yo]
 show ob (yl _ _ [.val (.loc o),.val (.int ar),.no] (hR h o ws k)) fnK=_
 simp_all? only [show (ar>8)=False from eq_false (by omega),↓reduceIte]
 rw [mR ho (by rfl') rfl rfl,yeJ ho hl e0]
 simp_all? only [nw.1,nw.2.1,nw.2.2,↓reduceIte]
 rw [mR ho (by rfl') rfl rfl,yjc g hp ew ho hl (yoS e0).2.2]
 symm
 rw [ew,length_cons,show k+(tl.length+1)=k+1+tl.length by omega]
theorem ynx (ho:o<h.length) (hl:ws.length<=100000):∀ n:Nat,yjH h o ws n
 | 0=>fun t k rest ar g f hd hf=>by omega
 | n+1=>fun t k rest ar g f hd hf e=>by
  have nn:=yEy t
  cases t with
  | either a b =>
   have h1:4*(1+max (yeS a) (yeS b))+1<=n+1:=hf
   have h2:max 0 (max (1+rdL a) (1+rdL b))+ar<=8:=hd
   obtain ⟨m,rfl⟩:∃ m,n=m+3:=⟨n-3,by omega⟩
   have e:ws.drop k=("either":Str)::(wsd (wdL a)++("or":Str)::(wsd (wdL b)++rest)):=by rw [e];simp [wdT]
   unfold yJ
   rw [yo]
   show ob (yl _ _ [.val (.loc o),.val (.int ar),.no] (hR h o ws k)) fnK=_
   simp_all? only [show (ar>8)=False from eq_false (by omega),↓reduceIte]
   rw [mR ho (by rfl') rfl rfl,yeJ ho hl e]
   simp_all? only [yfV,↓reduceIte]
   rw [mR ho (by rfl') rfl rfl,yrX (ynx ho hl m) ho hl g f (by omega) (by omega) (yoS e).2.2]
   symm
   rw [show (wdT (.either a b)).length=(wsd (wdL a)).length+(wsd (wdL b)).length+2 by simp [wdT];omega]
   rw [show k+1+(wsd (wdL a)).length+1+(wsd (wdL b)).length=k+((wsd (wdL a)).length+(wsd (wdL b)).length+2) by omega]
  | try_ a nm r b =>
   have h1:4*(1+max (yeS a) (yeS b))+1<=n+1:=hf
   have h2:max 0 (max (1+rdL a) (1+rdL b))+ar<=8:=hd
   obtain ⟨m,rfl⟩:∃ m,n=m+3:=⟨n-3,by omega⟩
   have e:ws.drop k=("try":Str)::(wsd (wdL a)++("on":Str)::nm::r::(wsd (wdL b)++rest)):=by rw [e];simp [wdT]
   unfold yJ
   rw [yo]
   show ob (yl _ _ [.val (.loc o),.val (.int ar),.no] (hR h o ws k)) fnK=_
   simp_all? only [show (ar>8)=False from eq_false (by omega),↓reduceIte]
   rw [mR ho (by rfl') rfl rfl,yeJ ho hl e]
   simp_all? only [ykC,yfd,↓reduceIte]
   rw [mR ho (by rfl') rfl rfl,yBr (ynx ho hl m) ho hl g f (by omega) (by omega) (yoS e).2.2]
   symm
   rw [show (wdT (.try_ a nm r b)).length=(wsd (wdL a)).length+(wsd (wdL b)).length+4 by simp [wdT];omega]
   rw [show k+1+(wsd (wdL a)).length+1+1+1+(wsd (wdL b)).length=k+((wsd (wdL a)).length+(wsd (wdL b)).length+4) by omega]
  | let_ r n=>exact yep ho hl g trivial (by omega) e
  | take r s=>exact yep ho hl g trivial (by omega) e
  | put r s=>exact yep ho hl g trivial (by omega) e
  | throw r s=>exact yep ho hl g trivial (by omega) e
  | wait=>exact yep ho hl g trivial (by omega) e
end
mutual
theorem yoT:∀ {t:T},gdT t->1<=yim t
 | .let_ ..,_=>by show (1:Int)<=1;omega
 | .take ..,_=>by show (1:Int)<=1;omega
 | .put ..,_=>by show (1:Int)<=1;omega
 | .throw ..,_=>by show (1:Int)<=1;omega
 | .wait,_=>by show (1:Int)<=1;omega
 | .either a b,g=>by
  have h1:=ycm g.1
  have h2:=ycm g.2
  show 1<=3+(ycE a).sum+(ycE b).sum
  omega
 | .try_ a nm r b,g=>by
  have h1:=ycm g.2.2.1
  have h2:=ycm g.2.2.2
  show 1<=3+(ycE a).sum+(ycE b).sum
  omega
theorem ycm:∀ {ts:List T},gdL ts->(ts.length:Int)<=(ycE ts).sum
 | [],_=>Int.le_refl _
 | t::r,g=>by
  have h1:=yoT g.1
  have h2:=ycm g.2
  show ((r.length+1:Nat):Int)<=(yim t::ycE r).sum
  rw [List.sum_cons]
  omega
end
mutual
theorem yBs:∀ {t:T},gdT t->(wT t:Int)+5<=100*yim t
 | .let_ r n,g=>by
  have h1:=(ycP g.1).2.2
  have h2:=(yrT g.2.1 g.2.2).2.2
  show ((10+r.length+(Str.ofString (toString n)).length:Nat):Int)+5<=100*1
  omega
 | .take r s,g=>by
  have h1:=(ycP g.1).2.2
  have h2:=(ycP g.2).2.2
  show ((10+r.length+s.length:Nat):Int)+5<=100*1
  omega
 | .put r s,g=>by
  have h1:=(ycP g.1).2.2
  have h2:=(ycP g.2).2.2
  show ((10+r.length+s.length:Nat):Int)+5<=100*1
  omega
 | .throw r s,g=>by
  have h1:=(ykz g.1).2.2
  have h2:=(ycP g.2).2.2
  show ((10+r.length+s.length:Nat):Int)+5<=100*1
  omega
 | .wait,_=>by show ((10:Nat):Int)+5<=100*1;omega
 | .either a b,g=>by
  have h1:=ygZ g.1
  have h2:=ygZ g.2
  show ((40+wL a+wL b:Nat):Int)+5<=100*(3+(ycE a).sum+(ycE b).sum)
  omega
 | .try_ a nm r b,g=>by
  have h0:=(ycP g.2.1).2.2
  have h3:=(ykz g.1).2.2
  have h1:=ygZ g.2.2.1
  have h2:=ygZ g.2.2.2
  show ((40+nm.length+r.length+wL a+wL b:Nat):Int)+5<=100*(3+(ycE a).sum+(ycE b).sum)
  omega
theorem ygZ:∀ {ts:List T},gdL ts->(wL ts:Int)<=100*(ycE ts).sum
 | [],_=>Int.le_refl _
 | t::r,g=>by
  have h1:=yBs g.1
  have h2:=ygZ g.2
  show ((5+wT t+wL r:Nat):Int)<=100*(yim t::ycE r).sum
  rw [List.sum_cons]
  omega
end
mutual
theorem yBt:∀ {t:T},gdT t->yim t<=90->yBq t
 | .let_ ..,_,_=>trivial
 | .take ..,_,_=>trivial
 | .put ..,_,_=>trivial
 | .throw ..,_,_=>trivial
 | .wait,_,_=>trivial
 | .either a b,g,l=>by
  have h1:=ycm g.1
  have h2:=ycm g.2
  have l:3+(ycE a).sum+(ycE b).sum<=90:=l
  exact ⟨yha g.1 (by omega),yha g.2 (by omega),by omega,by omega⟩
 | .try_ a nm r b,g,l=>by
  have h1:=ycm g.2.2.1
  have h2:=ycm g.2.2.2
  have l:3+(ycE a).sum+(ycE b).sum<=90:=l
  exact ⟨yha g.2.2.1 (by omega),yha g.2.2.2 (by omega),by omega,by omega⟩
theorem yha:∀ {ts:List T},gdL ts->(ycE ts).sum<=90->yuO ts
 | [],_,_=>trivial
 | t::r,g,l=>by
  have h1:=yoT g.1
  have h2:=ycm g.2
  have l:(yim t::ycE r).sum<=90:=l
  rw [List.sum_cons] at l
  exact ⟨yBt g.1 (by omega),yha g.2 (by omega)⟩
end
mutual
theorem yBu:∀ t:T,(ypZ t:Int)<=rdT t+1
 | .let_ ..=>by show (0:Int)<=0+1;omega
 | .take ..=>by show (0:Int)<=0+1;omega
 | .put ..=>by show (0:Int)<=0+1;omega
 | .throw ..=>by show (0:Int)<=0+1;omega
 | .wait=>by show (0:Int)<=0+1;omega
 | .either a b=>by
  have h1:=yhb a
  have h2:=yhb b
  show ((1+max (yeS a) (yeS b):Nat):Int)<=max 0 (max (1+rdL a) (1+rdL b))+1
  omega
 | .try_ a nm r b=>by
  have h1:=yhb a
  have h2:=yhb b
  show ((1+max (yeS a) (yeS b):Nat):Int)<=max 0 (max (1+rdL a) (1+rdL b))+1
  omega
theorem yhb:∀ ts:List T,(yeS ts:Int)<=rdL ts+1
 | []=>by show (0:Int) <= -1+1;omega
 | t::r=>by
  have h1:=yBu t
  have h2:=yhb r
  show ((max (ypZ t) (yeS r):Nat):Int)<=max (rdT t) (rdL r)+1
  omega
end
theorem ywh (l:List Str):(wsd l).length=l.length+2:=by unfold wsd;simp
mutual
theorem ywi:∀ t:T,(wdT t).length<=wT t
 | .let_ r n=>by show 3<=10+r.length+(Str.ofString (toString n)).length;omega
 | .take r s=>by show 3<=10+r.length+s.length;omega
 | .put r s=>by show 3<=10+r.length+s.length;omega
 | .throw r s=>by show 3<=10+r.length+s.length;omega
 | .wait=>by show 1<=10;omega
 | .either a b=>by
  have h1:=yix a
  have h2:=yix b
  show (("either":Str)::(wsd (wdL a)++("or":Str)::wsd (wdL b))).length<=40+wL a+wL b
  simp only [length_cons,length_append,ywh]
  omega
 | .try_ a nm r b=>by
  have h1:=yix a
  have h2:=yix b
  show (("try":Str)::(wsd (wdL a)++("on":Str)::nm::r::wsd (wdL b))).length<=40+nm.length+r.length+wL a+wL b
  simp only [length_cons,length_append,ywh]
  omega
theorem yix:∀ ts:List T,(wdL ts).length<=wL ts
 | []=>Nat.le_refl _
 | t::r=>by
  have h1:=ywi t
  have h2:=yrY r
  show (wdT t++wdR r).length<=5+wT t+wL r
  rw [length_append]
  omega
theorem yrY:∀ ts:List T,(wdR ts).length<=wL ts
 | []=>Nat.le_refl _
 | t::r=>by
  have h1:=ywi t
  have h2:=yrY r
  show (wdT t++wdR r).length+1<=5+wT t+wL r
  rw [length_append]
  omega
end
structure OkL (ts:List T):Prop where
 gd:gdL ts
 rd:rdL ts<=8
 lg:(ycE ts).sum<=79
theorem OkL.len {ts:List T}(g:OkL ts):ts.length<=79:=by have:=ycm g.gd;have:=g.lg;omega
theorem OkL.w {ts:List T}(g:OkL ts):wL ts<=7900:=by have:=ygZ g.gd;have:=g.lg;omega
theorem OkL.dep {ts:List T}(g:OkL ts):yeS ts<=9:=by have:=yhb ts;have:=g.rd;omega
def ywj (ts:List T):Str:=Str.join " ; " (ybx ts)
section
variable {h:AH}
theorem yny {ts:List T}(g:OkL ts):yfs [.str (ywj ts)] h=some (.lst ((wdL ts).map .str),h):=by
 have hl:=yem ts
 have hw:=g.w
 have et:ywj ts=Str.join " " (wdL ts):=yeo ts g.gd
 unfold yfs
 rw [yo]
 show ob (yl _ _ [.val (.str (ywj ts))] h) fnK=_
 symm
 cases ts with
 | nil =>
  rw [if_pos (show ywj [] = "" by rfl')]
  rfl
 | cons t r =>
  have ne:wdL (t::r)≠[]:=fun z=>yyr g.gd.1 (List.append_eq_nil_iff.mp z).1
  rw [if_neg (by rw [et];exact yrU (yjb g.gd) ne),yxN (by unfold ywj;omega)]
  symm
  rw [et,yia _ ne fun w hw=>(yjb g.gd w hw).1]
theorem yyw {ts:List T}(g:OkL ts):ylX [.str (ywj ts)] h=some (.lst (ycx ts),hR (h++[rdr (wdL ts) 0]) h.length (wdL ts) (0+(wdL ts).length)):=by
 have hw:=g.w
 have hwl:=yix ts
 have hd:=g.dep
 have hl:=g.lg
 unfold ylX
 rw [yo]
 show ob (yl _ _ [.val (.str (ywj ts)),.no,.no] h) fnK=_
 symm
 rw [yny g]
 symm
 rw [show ycZ [PV.lst (List.map PV.str (wdL ts))] h=some (rdr (wdL ts) 0,h) from rfl]
 symm
 have ho:h.length<(h++[rdr (wdL ts) 0]).length:=by simp
 have e0:h++[rdr (wdL ts) 0]=hR (h++[rdr (wdL ts) 0]) h.length (wdL ts) 0:=by unfold hR;simp
 generalize hG:h++[rdr (wdL ts) 0]=G at *
 have e1:(wdL ts).drop 0=wdL ts++[]:=by simp
 have hdr:(wdL ts).drop (0+(wdL ts).length)=[]:=by simp
 have rd:=g.rd
 rw [mR (ws:=wdL ts) (k:=0) ho (by rfl') (by rw [<- e0];rfl) rfl,list_eq (n:=44) (ynx ho (by omega) 44) ho (by omega) (.inl rfl) g.gd (yha g.gd (by omega)) (by have:=g.len;omega) (by omega) (by omega) e1]
 symm
 rw [mR ho (by rfl') rfl rfl,ykD ho (by omega) hdr]
 symm
 rw [if_neg (by intro z;cases z),ydk (n:=44) (ynu 44) (by omega) (by omega)]
 symm
 rw [if_neg (by omega)]
end
section
variable {h:AH}
noncomputable def Stk (h:AH):List Nat->List (List Key×List PV)->Prop
 | [],[]=>True
 | l::ls,d::ds=>h[l]?=some (.dct d.1 d.2)/\Stk h ls ds
 | _,_=>False
theorem Stk.get {h:AH}:∀ {ls:List Nat}{ds:List (List Key×List PV)}(k:Nat),Stk h ls ds->k<ls.length->∃ l d,ls[k]?=some l/\ds[k]?=some d/\h[l]?=some (.dct d.1 d.2)
 | l::ls,d::ds,0,s,_=>⟨l,d,rfl,rfl,s.1⟩
 | l::ls,d::ds,k+1,s,hk=>by
  obtain ⟨l',d',e1,e2,e3⟩:=Stk.get k s.2 (by simpa using hk)
  exact ⟨l',d',by simpa using e1,by simpa using e2,e3⟩
 | [],[],_,_,hk=>by simp at hk
 | [],_::_,_,s,_=>s.elim
 | _::_,[],_,s,_=>s.elim
noncomputable def yBv (ds:List (List Key×List PV)) (j:Key):Nat->PV
 | 0=>.non
 | k+1=>match ds[k]? with|some d=>(match yms d.1 d.2 j with|some x=>x|none=>yBv ds j k)|none=>.non
structure LG (h:AH) (o s b:Nat) (ls:List Nat) (ds:List (List Key×List PV)) (ks:List Key) (xs:List PV):Prop where
 ob:h[o]?=some (.ins 11 ["stack","last_seen"] [.loc s,.loc b])
 st:h[s]?=some (.lst (ls.map .loc))
 sn:h[b]?=some (.dct ks xs)
 dl:Stk h ls ds
theorem yfW {o s b:Nat}(e:h[o]?=some (.ins 11 ["stack","last_seen"] [.loc s,.loc b])):yet [11] "stack" (.loc o) h=some (.loc s,h):=by
 unfold yet yeQ
 simp only [e]
 rw [if_pos (by rfl'),show idxOf ("stack":Str) ["stack","last_seen"]=0 by rfl']
 rfl
theorem yrZ {o s b:Nat}(e:h[o]?=some (.ins 11 ["stack","last_seen"] [.loc s,.loc b])):yet [11] "last_seen" (.loc o) h=some (.loc b,h):=by
 unfold yet yeQ
 simp only [e]
 rw [if_pos (by rfl'),show idxOf ("last_seen":Str) ["stack","last_seen"]=1 by rfl']
 rfl
theorem ysa {n:Nat}{l:List Nat}{t:Nat}(e:h[n]?=some (.lst ((l++[t]).map PV.loc))):ycs (.loc n) (.int (-1)) h=some (.loc t,h):=by
 unfold ycs
 simp only [e]
 have:atI ((l++[t]).map PV.loc) (-1)=some (.loc t):=by
  unfold atI ixN
  simp
  rw [if_pos (by omega),bind_some,show (-1+((l.length:Int)+1)).toNat=l.length by omega]
  simp
 rw [this]
theorem yyx {n:Nat}{ks:List Key}{xs:List PV}{i:Int}{ek ed:XE}{ρ:PSt}(ek':ek ρ h=some (.int i,h)) (ed':ed ρ h=some (.loc n,h)) (e:h[n]?=some (.dct ks xs)):yzb false ek ed ρ h=some (.bl (yms ks xs (.inl i)).isSome,h):=by
 unfold yzb
 rw [ek',ybF,ed',ybF]
 unfold yxC
 simp only [e,keyOf]
 rfl
theorem yuP {n:Nat}{ks:List Key}{xs:List PV}{i:Int}{x:PV}{ek ed:XE}{ρ:PSt}(ed':ed ρ h=some (.loc n,h)) (ek':ek ρ h=some (.int i,h)) (e:h[n]?=some (.dct ks xs)) (hx:yms ks xs (.inl i)=some x):yhV ed ek ρ h=some (x,h):=by
 unfold yhV
 rw [ed',ybF,ek',ybF]
 unfold yxC
 simp only [e,keyOf,hx]
theorem ykF {n:Nat}{ks:List Key}{xs:List PV}{i:Int}{x:PV}{ed ek ev:XE}{ρ:PSt}(ev':ev ρ h=some (x,h)) (ed':ed ρ h=some (.loc n,h)) (ek':ek ρ h=some (.int i,h)) (e:h[n]?=some (.dct ks xs)) (hl:ks.length<1000) :
  ykl ed ek ev ρ h=some (.nx ρ,h.set n (.dct (ycS ks xs (.inl i) x).1 (ycS ks xs (.inl i) x).2)):=by
 unfold ykl
 rw [ev',ybF,ed',ybF,ek',ybF]
 simp only [e,keyOf]
 rw [if_pos hl]
end
section
variable {h:AH}{o s b:Nat}{ls:List Nat}{ds:List (List Key×List PV)}{ks:List Key}{xs:List PV}
theorem yuQ {i:Int}(g:LG h o s b ls ds ks xs):∀ (k:Nat),k<=ls.length->∀ c:PVar,
  ob (ymu s true (yq 2) (ybK (yp (yzb false (yf 1) (yf 2))) (yP (yhV (yf 2) (yf 1))) (yO)) k (ls.length-k) [.val (.loc o),.val (.int i),c] h) (fun o h1=>ob (sqK (yP (xC .non)) o h1) fnK)=some (yBv ds (.inl i) k,h):=by
 intro k
 induction k with
 | zero =>
  intro _ c
  unfold ymu
  simp only [g.st]
  rw [if_pos (by simp),ybF,yAp]
  rfl
 | succ k ih =>
  intro hk c
  unfold ymu
  simp only [g.st]
  obtain ⟨l,d,e1,e2,e3⟩:=g.dl.get k (by omega)
  have e4:(ls.map PV.loc)[k]?=some (.loc l):=by rw [getElem?_map,e1];rfl
  simp only [if_true,e4]
  have er:yq 2 (.loc l) [.val (.loc o),.val (.int i),c]=some [.val (.loc o),.val (.int i),.val (.loc l)]:=rfl
  rw [er,bind_some,yAq,yvO,yyx (n:=l) rfl rfl e3,ybF,yFs,ybF]
  have ek:ls.length-(k+1)+1=ls.length-k:=by omega
  unfold yBv
  simp only [e2]
  cases hg:yms d.1 d.2 (.inl i) with
  | none =>
   rw [if_neg (by simp),yvP,ybF]
   dsimp only
   rw [ek]
   exact ih (by omega) _
  | some x =>
   rw [if_pos (show (some x).isSome=true from rfl),yrg,yuP (n:=l) rfl rfl e3 hg,ybF,ybF]
   rfl
theorem yBw {i:Int}(g:LG h o s b ls ds ks xs):yej [.loc o,.int i] h=some (yBv ds (.inl i) ls.length,h):=by
 unfold yej
 rw [yo]
 show ob (yl _ _ [.val (.loc o),.val (.int i),.no] h) fnK=_
 rw [yrf]
 have:=yuQ (i:=i) g ls.length (Nat.le_refl _) .no
 rw [sub_self] at this
 rw [yAj,<- this]
 unfold ykr
 rw [ykg,show yf 0 [PVar.val (.loc o),.val (.int i),.no] h=some (.loc o,h) from rfl,ybF,yfW g.ob,ybF]
 simp only [g.st,length_map]
theorem yuR {i:Int}{v:PV}{t:Nat}{d:List Key×List PV}(g:LG h o s b (ls++[t]) ds ks xs) (ht:h[t]?=some (.dct d.1 d.2)) (hl:d.1.length<1000):yez [.loc o,.int i,v] h=some (.non,h.set t (.dct (ycS d.1 d.2 (.inl i) v).1 (ycS d.1 d.2 (.inl i) v).2)):=by
 unfold yez
 rw [yo,yrf,ytV,yDd,ykg,show yf 0 ([PV.loc o,.int i,v].map .val++replicate (4-[PV.loc o,.int i,v].length) .no) h=some (.loc o,h) from rfl,ybF,yfW g.ob,ybF]
 show ob (ob (ob (ycs (.loc s) (.int (-1)) h) _) _) _=_
 rw [ysa g.st,ybF]
 show ob (ykl (yf 3) (yf 1) (yf 2) [.val (.loc o),.val (.int i),.val v,.val (.loc t)] h) fnK=_
 rw [ykF (n:=t) (i:=i) (x:=v) rfl rfl rfl ht hl,ybF]
 rfl
theorem yuS (g:LG h o s b ls ds ks xs) (hl:ls.length<1000):yeA [.loc o] h=some (.non,(h++[Nd.dct [] []]).set s (.lst ((ls++[h.length]).map .loc))):=by
 have hs:(h++[Nd.dct [] []])[s]?=some (.lst (ls.map .loc)):=by rw [getElem?_append_left (List.getElem?_eq_some_iff.mp g.st).1];exact g.st
 unfold yeA
 rw [yo,yon,yAn,ykg,show yf 0 ([PV.loc o].map .val++replicate (1-[PV.loc o].length) .no) h=some (.loc o,h) from rfl,ybF,yfW g.ob,ybF,if_pos (ycJ g.st)]
 show ob (ob (yhS (.loc s) [.loc h.length] (h++[Nd.dct [] []])) _) fnK=_
 rw [yhW hs (by rw [length_map];omega),ybF,ybF,map_append]
 rfl
theorem ysb {n:Nat}{l:List Nat}{t:Nat}(e:h[n]?=some (.lst ((l++[t]).map PV.loc))):yhq (.loc n) [] h=some (.loc t,h.set n (.lst (l.map .loc))):=by
 unfold yhq
 simp only [e]
 have:((l++[t]).map PV.loc)[((l++[t]).map PV.loc).length-1]?=some (.loc t):=by simp
 rw [this]
 simp
theorem yyy {t:Nat}(g:LG h o s b (ls++[t]) ds ks xs):yfq [.loc o] h=some (.non,h.set s (.lst (ls.map .loc))):=by
 unfold yfq
 rw [yo,yon,yAn,ykg,show yf 0 ([PV.loc o].map .val++replicate (1-[PV.loc o].length) .no) h=some (.loc o,h) from rfl,ybF,yfW g.ob,ybF,if_pos (ycJ g.st),yxu,ybF,ysb g.st,ybF,ybF]
 rfl
end
section
variable {h:AH}{o s b:Nat}{ls:List Nat}{ds:List (List Key×List PV)}{ks:List Key}{xs:List PV}
theorem ysc {t u:Nat}{dt du:List Key×List PV}(g:LG h o s b (ls++[u]++[t]) ds ks xs) (ho:o≠s) (hus:u≠s) (hts:t≠s) (hut:u≠t) (eu:h[u]?=some (.dct du.1 du.2)) (et:h[t]?=some (.dct dt.1 dt.2)) (hl:du.1.length+dt.1.length<1000) :
  ydR [.loc o] h=some (.non,(h.set s (.lst ((ls++[u]).map .loc))).set u (.dct (yks dt.1 dt.2 du.1 du.2).1 (yks dt.1 dt.2 du.1 du.2).2)):=by
 have hs:s<h.length:=(List.getElem?_eq_some_iff.mp g.st).1
 have e1:(h.set s (.lst ((ls++[u]).map PV.loc)))[s]?=some (.lst ((ls++[u]).map PV.loc)):=getElem?_set_self hs
 have e2:(h.set s (.lst ((ls++[u]).map PV.loc)))[o]?=some (.ins 11 ["stack","last_seen"] [.loc s,.loc b]):=(getElem?_set_ne (Ne.symm ho)).trans g.ob
 have e3:(h.set s (.lst ((ls++[u]).map PV.loc)))[u]?=some (.dct du.1 du.2):=(getElem?_set_ne (Ne.symm hus)).trans eu
 have e4:(h.set s (.lst ((ls++[u]).map PV.loc)))[t]?=some (.dct dt.1 dt.2):=(getElem?_set_ne (Ne.symm hts)).trans et
 unfold ydR
 rw [yo,yrf,ytV,yAn,ykg,show yf 0 ([PV.loc o].map .val++replicate (3-[PV.loc o].length) .no) h=some (.loc o,h) from rfl,ybF,yfW g.ob,ybF,if_pos (ycJ g.st),yxu,ybF,ysb g.st,ybF]
 generalize hh:h.set s (.lst ((ls++[u]).map PV.loc))=h1 at *
 show ob (yl _ _ [.val (.loc o),.val (.loc t),.no] h1) fnK=_
 rw [yrf,ytV,yDd,ykg,show yf 0 [PVar.val (.loc o),.val (.loc t),.no] h1=some (.loc o,h1) from rfl,ybF,yfW e2,ybF]
 show ob (ob (ob (ycs (.loc s) (.int (-1)) h1) _) _) _=_
 rw [ysa e1,ybF]
 show ob (ybj (xBM ypD yzd (yf 2) (yc (yf 1) yi)) [.val (.loc o),.val (.loc t),.val (.loc u)] h1) fnK=_
 rw [yon,yAn]
 show ob (ob (if ypD (.loc u) h1=true then yzd (.loc u) [.loc t] h1 else none) _) fnK=_
 rw [if_pos (by unfold ypD ylM;simp only [e3];rfl)]
 unfold yzd
 simp only [e3,e4]
 rw [if_pos ⟨hut,hl⟩,ybF,ybF]
 rfl
end
def At (h:AH) (m:List (Nat×Nd)):Prop:=(m.map (·.1)).Nodup/\∀ p∈m,h[p.1]?=some p.2
section
variable {h:AH}{m a b:List (Nat×Nd)}
theorem At.get (A:At h m) (i:Nat) {n:Nat}{d:Nd}(e:m[i]?=some (n,d)):h[n]?=some d:=A.2 _ (mem_of_getElem? e)
theorem At.lt (A:At h m) {p:Nat×Nd}(hp:p∈m):p.1<h.length:=(List.getElem?_eq_some_iff.mp (A.2 p hp)).1
theorem At.upd {n:Nat}{d:Nd}(d':Nd) (A:At h (a++(n,d)::b)):At (h.set n d') (a++(n,d')::b):=by
 have hn:n<h.length:=A.lt (p:=(n,d)) (by simp)
 refine ⟨by have:=A.1;simpa using this,fun p hp=>?_⟩
 by_cases q:p.1=n
 .have:p=(n,d'):=by
   have nd:=A.1
   rw [map_append,map_cons,List.nodup_append] at nd
   rcases List.mem_append.mp hp with z|z
   .exact absurd q (nd.2.2 _ (List.mem_map_of_mem z) _ mem_cons_self)
   .rcases mem_cons.mp z with z|z
    .exact z
    .exact absurd (show n∈b.map (·.1) by rw [<- q];exact List.mem_map_of_mem z) (List.nodup_cons.mp nd.2.1).1
  rw [this,getElem?_set_self hn]
 .rw [getElem?_set_ne (fun z=>q z.symm)]
  refine A.2 p ?_
  rcases List.mem_append.mp hp with z|z
  .exact mem_append_left _ z
  .rcases mem_cons.mp z with z|z
   .exact absurd (by rw [z]) q
   .exact mem_append_right _ (mem_cons_of_mem _ z)
theorem At.new (d:Nd) (A:At h (a++b)):At (h++[d]) (a++(h.length,d)::b):=by
 have lt:∀ p∈a++b,p.1<h.length:=fun p hp=>A.lt hp
 refine ⟨?_,fun p hp=>?_⟩
 .have nd:=A.1
  rw [map_append,List.nodup_append] at nd
  rw [map_append,map_cons,List.nodup_append]
  refine ⟨nd.1,List.nodup_cons.mpr ⟨fun z=>?_,nd.2.1⟩,fun x hx y hy=>?_⟩
  .obtain ⟨p,hp,e⟩:=List.mem_map.mp z
   have:=lt p (mem_append_right _ hp)
   omega
  .rcases mem_cons.mp hy with rfl|hy
   .obtain ⟨p,hp,e⟩:=List.mem_map.mp hx
    have:=lt p (mem_append_left _ hp)
    omega
   .exact nd.2.2 x hx y hy
 .rcases List.mem_append.mp hp with z|z
  .rw [getElem?_append_left (lt p (mem_append_left _ z))];exact A.2 p (mem_append_left _ z)
  .rcases mem_cons.mp z with z|z
   .rw [z];simp
   .rw [getElem?_append_left (lt p (mem_append_right _ z))];exact A.2 p (mem_append_right _ z)
theorem At.sub {m':List (Nat×Nd)}(A:At h m) (s:m'.Sublist m):At h m':=⟨(s.map _).nodup A.1,fun p hp=>A.2 p (s.subset hp)⟩
theorem At.perm {m':List (Nat×Nd)}(A:At h m) (s:m'.Perm m):At h m':=⟨(s.map _).nodup_iff.mpr A.1,fun p hp=>A.2 p (s.subset hp)⟩
theorem fl {n k:Nat}{ns:List Str}{xs:List PV}(i:Nat) {cs:List Nat}{f:Str}{y:PV}(e:h[n]?=some (.ins k ns xs)) (hk:k∈cs) (hi:(decide (f∈ns) && ns.idxOf f == i)=true) (hy:xs[i]?=some y):yet cs f (.loc n) h=some (y,h):=by
 obtain ⟨h1,h2⟩:=Bool.and_eq_true_iff.mp hi
 have h2:=eq_of_beq h2
 unfold yet yeQ
 simp only [e]
 rw [if_pos ⟨hk,of_decide_eq_true h1⟩,h2,hy]
def yjd (nu ma cr en:Nat):Nd:=.ins 15 ["numbers","marks","crew","entries"] [.loc nu,.loc ma,.loc cr,.loc en]
noncomputable def ydl (ds:List PV) (w nth:Int) (sl:Bool) (bf:List Int) (rn:Nat):Nd:=.ins 14 ["deeds","width","nth","sleeps","before","run"] [.lst ds,.int w,.int nth,.bl sl,.lst (bf.map .int),.loc rn]
noncomputable def yjI (hl:Nat) (w:Int) (lg:Nat) (rows:List PV) (t:Int) (sn sd:Nat):Nd:=.ins 12 ["held","width","log","rows","at","seen_stamps","sides"] [.loc hl,.int w,.loc lg,.lst rows,.int t,.loc sn,.loc sd]
theorem ydI {n nu ma cr en:Nat}(e:h[n]?=some (yjd nu ma cr en)):yet [15] "numbers" (.loc n) h=some (.loc nu,h)/\yet [15] "marks" (.loc n) h=some (.loc ma,h)/\yet [15] "crew" (.loc n) h=some (.loc cr,h)/\yet [15] "entries" (.loc n) h=some (.loc en,h) :=
 ⟨fl 0 e (by decide) (by rfl') rfl,fl 1 e (by decide) (by rfl') rfl,fl 2 e (by decide) (by rfl') rfl,fl 3 e (by decide) (by rfl') rfl⟩
theorem ydu {n:Nat}{ds:List PV}{w nth:Int}{sl:Bool}{bf:List Int}{rn:Nat}(e:h[n]?=some (ydl ds w nth sl bf rn)):yet [14] "deeds" (.loc n) h=some (.lst ds,h)/\yet [12,14] "width" (.loc n) h=some (.int w,h)/\yet [14] "nth" (.loc n) h=some (.int nth,h)/\yet [14] "sleeps" (.loc n) h=some (.bl sl,h)/\yet [14] "before" (.loc n) h=some (.lst (bf.map .int),h)/\yet [14] "run" (.loc n) h=some (.loc rn,h) :=
 ⟨fl 0 e (by decide) (by rfl') rfl,fl 1 e (by decide) (by rfl') rfl,fl 2 e (by decide) (by rfl') rfl,fl 3 e (by decide) (by rfl') rfl,fl 4 e (by decide) (by rfl') rfl,fl 5 e (by decide) (by rfl') rfl⟩
theorem ycQ {n hl:Nat}{w:Int}{lg:Nat}{rows:List PV}{t:Int}{sn sd:Nat}(e:h[n]?=some (yjI hl w lg rows t sn sd)):yet [12] "held" (.loc n) h=some (.loc hl,h)/\yet [12,14] "width" (.loc n) h=some (.int w,h)/\yet [12] "log" (.loc n) h=some (.loc lg,h)/\yet [12] "rows" (.loc n) h=some (.lst rows,h)/\yet [10,12] "at" (.loc n) h=some (.int t,h)/\yet [12] "seen_stamps" (.loc n) h=some (.loc sn,h)/\yet [12] "sides" (.loc n) h=some (.loc sd,h) :=
 ⟨fl 0 e (by decide) (by rfl') rfl,fl 1 e (by decide) (by rfl') rfl,fl 2 e (by decide) (by rfl') rfl,fl 3 e (by decide) (by rfl') rfl,fl 4 e (by decide) (by rfl') rfl,fl 5 e (by decide) (by rfl') rfl,fl 6 e (by decide) (by rfl') rfl⟩
end
def mK (k:Nat) (m:Str) (f:Fn) (as:XA) (ρ:PSt) (x:PV) (h1:AH):Option (PV×AH):=match yeQ x h1 with
 | some (k',ns,_)=>if k'=k/\m∉ns then ob (as ρ h1) fun ys h2=>f (x::ys) h2 else none
 | none=>none
def fL (cs:List Nat) (f:Str) (ρ:PSt) (y x:PV) (h2:AH):Option (Out×AH):=match x with
 | .loc n=>(match h2[n]? with|some (.ins k ns xs)=>if k∈cs/\ns.length<1000 then some (.nx ρ,h2.set n (.ins k (putN f y ns xs).1 (putN f y ns xs).2)) else none|_=>none)
 | _=>none
section
variable {h:AH}{ρ:PSt}
theorem yef {k:Nat}{m:Str}{f:Fn}{e:XE}{as:XA}:yh k m f e as ρ h=ob (e ρ h) fun x h1=>mK k m f as ρ x h1:=id rfl
theorem ysU {cs:List Nat}{f:Str}{eo ev:XE}:ycT cs f eo ev ρ h=ob (ev ρ h) fun y h1=>ob (eo ρ h1) fun x h2=>fL cs f ρ y x h2:=id rfl
theorem yB {n k:Nat}{ns:List Str}{xs:List PV}{m:Str}{f:Fn}{as:XA}(e:h[n]?=some (.ins k ns xs)) (hm:decide (m∈ns)=false):mK k m f as ρ (.loc n) h=ob (as ρ h) fun ys h2=>f (.loc n::ys) h2:=by
 unfold mK yeQ
 simp only [e]
 rw [if_pos ⟨trivial,of_decide_eq_false hm⟩]
theorem yfA {n k:Nat}{ns ns':List Str}{xs xs':List PV}{cs:List Nat}{f:Str}{y:PV}(e:h[n]?=some (.ins k ns xs)) (hk:(decide (k∈cs) && decide (ns.length<1000))=true) (hp:putN f y ns xs=(ns',xs')):fL cs f ρ y (.loc n) h=some (.nx ρ,h.set n (.ins k ns' xs')):=by
 obtain ⟨h1,h2⟩:=Bool.and_eq_true_iff.mp hk
 unfold fL
 simp only [e]
 rw [if_pos ⟨of_decide_eq_true h1,of_decide_eq_true h2⟩,hp]
end
noncomputable def dT (w:Nat) (x y:Int):List T:=match w with
 | 0=>[.let_ "a" x,.take "b" "a",.wait]
 | 1=>[.either [.let_ "a" x,.take "b" "a",.wait] [.let_ "a" y,.take "c" "a",.wait]]
 | 2=>[.let_ "a" x,.put "a" "b",.take "c" "a",.wait]
 | 3=>[.try_ [.let_ "a" x,.take "b" "a",.put "a" "a",.wait] "low" "c" []]
 | 4=>[.let_ "a" x,.take "b" "a",.either [.let_ "a" y,.take "c" "a",.wait] [.wait]]
 | 5=>[.let_ "a" x,.let_ "b" y,.take "c" "a"]
 | 6=>[.let_ "a" x,.let_ "b" y,.put "a" "b",.throw "low" "b"]
 | 7=>[.either [.let_ "a" x,.let_ "b" y,.put "a" "b",.wait] []]
 | _=>[.let_ "a" x,.let_ "b" y,.put "a" "b"]
inductive Rw where
 | let_ (r:Str) (n:Int)|take (r p:Str)|put (p s:Str)|throw (nm r:Str)|wait|either (k:Int)|guard (nm r:Str) (k:Int)|settle|jump (k:Int)|lay
noncomputable def yT:Rw->PV
 | .let_ r n=>.tup [.str "let",.str r,.int n]
 | .take r p=>.tup [.str "take",.str r,.str p]
 | .put p s=>.tup [.str "put",.str p,.str s]
 | .throw nm r=>.tup [.str "throw",.str nm,.str r]
 | .wait=>.tup [.str "wait"]
 | .either k=>.tup [.str "either",.int k]
 | .guard nm r k=>.tup [.str "guard",.str nm,.str r,.int k]
 | .settle=>.tup [.str "settle"]
 | .jump k=>.tup [.str "jump",.int k]
 | .lay=>.tup [.str "lay"]
noncomputable def dR (w:Nat) (x y:Int):List Rw:=match w with
 | 0=>[.let_ "a" x,.take "b" "a",.wait,.lay]
 | 1=>[.either 6,.let_ "a" x,.take "b" "a",.wait,.settle,.jump 9,.let_ "a" y,.take "c" "a",.wait,.lay]
 | 2=>[.let_ "a" x,.put "a" "b",.take "c" "a",.wait,.lay]
 | 3=>[.guard "low" "c" 7,.let_ "a" x,.take "b" "a",.put "a" "a",.wait,.settle,.jump 7,.lay]
 | 4=>[.let_ "a" x,.take "b" "a",.either 8,.let_ "a" y,.take "c" "a",.wait,.settle,.jump 9,.wait,.lay]
 | 5=>[.let_ "a" x,.let_ "b" y,.take "c" "a",.lay]
 | 6=>[.let_ "a" x,.let_ "b" y,.put "a" "b",.throw "low" "b",.lay]
 | 7=>[.either 7,.let_ "a" x,.let_ "b" y,.put "a" "b",.wait,.settle,.jump 7,.lay]
 | _=>[.let_ "a" x,.let_ "b" y,.put "a" "b",.lay]
theorem ysd {h:AH}{x y:Int}:∀ w:Nat,ygs [.lst (ycx (dT w x y))] h=some (.lst ((dR w x y).map yT),h)
 | 0=>by kernel_rfl!
 | 1=>by kernel_rfl!
 | 2=>by kernel_rfl!
 | 3=>by kernel_rfl!
 | 4=>by kernel_rfl!
 | 5=>by kernel_rfl!
 | 6=>by kernel_rfl!
 | 7=>by kernel_rfl!
 | _+8=>by kernel_rfl!
def SL:List Str:=["a","b","c","d","e","f","g","h"]
def sx (r:Str):Nat:=SL.idxOf r
section
variable {h:AH}{n hl lg sn sd:Nat}{w t:Int}{rows:List PV}{hs:List Int}{r:Str}
theorem ygy (hr:r∈SL):ydS [.str r] h=some (.int (sx r),h):=by
 unfold SL at hr
 simp only [mem_cons,not_mem_nil,or_false] at hr
 rcases hr with rfl|rfl|rfl|rfl|rfl|rfl|rfl|rfl<;>kernel_rfl!
theorem yBx (hr:r∈SL):sx r<8:=List.idxOf_lt_length_of_mem hr
theorem yeK {n:Nat}{xs:List Int}{i:Nat}(e:h[n]?=some (.lst (xs.map .int))) (hi:i<xs.length):ycs (.loc n) (.int i) h=some (.int (xs.getD i 0),h):=by
 unfold ycs
 simp only [e]
 have:(xs.map PV.int)[i]?=some (.int (xs.getD i 0)):=by
  rw [getElem?_map,List.getElem?_eq_getElem hi,getD_eq_getElem?_getD,List.getElem?_eq_getElem hi];rfl
 rw [ydn this]
theorem yiy {rw:PV}(e:h[n]?=some (yjI hl w lg rows t sn sd)) {i:Nat}(ht:t=i) (er:rows[i]?=some rw):ydG [.loc n] h=some (rw,h):=by
 obtain ⟨f1,f2,f3,f4,f5,f6,f7⟩:=ycQ e
 subst ht
 unfold ydG
 rw [yo]
 show ob (yP _ [.val (.loc n)] h) fnK=_
 simp_all? only [f4,f5]
 rw [ydn er]
 rfl
variable (e:h[n]?=some (yjI hl w lg rows t sn sd)) (eh:h[hl]?=some (.lst (hs.map .int))) (h8:hs.length=8) (hr:r∈SL)
include e eh h8 hr
theorem yft:ybE [.loc n,.str r] h=some (.int (hs.getD (sx r) 0),h):=by
 obtain ⟨f1,f2,f3,f4,f5,f6,f7⟩:=ycQ e
 unfold ybE
 rw [yo]
 show ob (yP _ [.val (.loc n),.val (.str r)] h) fnK=_
 simp_all? only [f1,ygy hr]
 rw [yeK eh (by rw [h8];exact yBx hr),ybF]
theorem ykG {v:Int}:ycd [.loc n,.str r,.int v] h=some (.non,h.set hl (.lst ((hs.set (sx r) v).map .int))):=by
 obtain ⟨f1,f2,f3,f4,f5,f6,f7⟩:=ycQ e
 unfold ycd
 rw [yo]
 show ob (yhT _ _ _ [.val (.loc n),.val (.str r),.val (.int v)] h) fnK=_
 unfold yhT
 show ob (ob (some (PV.int v,h)) _) _=_
 rw [ybF]
 simp_all? only [f1,ygy hr]
 have hi:sx r<hs.length:=by rw [h8];exact yBx hr
 have e':ixN (hs.map PV.int).length (sx r:Nat)=some (sx r):=by
  unfold ixN
  simp [hi]
 simp only [eh,e']
 rw [ybF,map_set]
 rfl
theorem yfe (hw:1<=w):ybB [.loc n,.str r] h=some (.int (hs.getD (sx r) 0%w),h):=by
 obtain ⟨f1,f2,f3,f4,f5,f6,f7⟩:=ycQ e
 unfold ybB
 rw [yo]
 show ob (yP _ [.val (.loc n),.val (.str r)] h) fnK=_
 simp_all? only [yef,yB (m:="held_in") e (by rfl'),yft e eh h8 hr,f2]
 rw [if_pos (by omega)]
end
def yhl:Rw->Rw->Bool
 | .either _,.wait=>true
 | .guard nm _ _,.throw nm' _=>decide (nm=nm')
 | _,_=>false
def ypJ:Rw->Bool|.either _=>true|.guard ..=>true|_=>false
def yuT:Rw->Bool|.wait=>true|.throw ..=>true|_=>false
def sdV (s:Rw×List Int):PV:=.tup [yT s.1,.lst (s.2.map .int)]
noncomputable def tkL (sd:List (Rw×List Int)) (r:Rw):Nat->Nat
 | 0=>0
 | k+1=>match sd[k]? with|some s=>if yhl s.1 r then k+1 else tkL sd r k|none=>0
section
variable {h:AH}{n hl lg sn sdl:Nat}{w t:Int}{rows:List PV}{hs:List Int}{r:Rw}{sd:List (Rw×List Int)}
theorem yuU {b:Rw}(hb:ypJ b=true) (hr:yuT r=true):yih [yT b,yT r] h=some (.bl (yhl b r),h):=by
 cases b<;>first|(cases hb;done)|skip
 all_goals cases r<;>first|(cases hr;done)|kernel_rfl!|skip
 rename_i nm _ _ nm' _
 unfold yih
 rw [yo]
 show ob (yl _ _ [.val (yT (.guard nm _ _)),.val (yT (.throw nm' _))] h) fnK=_
 unfold yT
 simp_all? only [ydV]
 rfl
theorem yuV {c:XT}{s:XS}{k:Nat}{ρ:PSt}:whl c s (k+1) ρ h=ob (c ρ h) fun k' h1=>if k'=true then ob (s ρ h1) fun o h2=>(match o with|.nx ρ'=>whl c s k ρ' h2|.ct ρ'=>whl c s k ρ' h2|.bk ρ'=>some (.nx ρ',h2)|.rt y=>some (.rt y,h2)) else some (.nx ρ,h1):=rfl
theorem yoU (e:h[n]?=some (yjI hl w lg rows t sn sdl)) (es:h[sdl]?=some (.lst (sd.map sdV))) (hb:∀ s∈sd,ypJ s.1=true) (hr:yuT r=true) (hl9:sd.length<900):ybf [.loc n,yT r] h=some (.int (tkL sd r sd.length),h):=by
 obtain ⟨f1,f2,f3,f4,f5,f6,f7⟩:=ycQ e
 unfold ybf
 rw [yo]
 show ob (yl _ (yl (yfD 1000 _ _) _) [.val (.loc n),.val (yT r),.no] h) fnK=_
 have lp:∀ (c:XT) (s:XS),c=(yvF (yp (xOp (oGt) (yf 2) (xC (.int 0)))) (yjZ (yp (ybg yih (yc (xOp (yba) (xOp (ycs) (ybb [12] "sides" (yf 0)) (xOp ytM (yf 2) (xC (.int 1)))) (xC (.int 0))) (yc (yf 1) (yi)))))))->s=(ybG (xOp ytM (yf 2) (xC (.int 1))) (yq 2)) ->
   ∀ (k f:Nat),k<=sd.length->k<f->whl c s f [.val (.loc n),.val (yT r),.val (.int k)] h=some (.nx [.val (.loc n),.val (yT r),.val (.int (tkL sd r k))],h):=by
  intro c s hc hs k
  induction k with
  | zero =>
   intro f _ hf
   obtain ⟨f,rfl⟩:∃ g,f=g+1:=⟨f-1,by omega⟩
   subst hc hs
   rw [yuV]
   rfl
  | succ k ih =>
   intro f hk hf
   obtain ⟨f,rfl⟩:∃ g,f=g+1:=⟨f-1,by omega⟩
   have hlt:k<sd.length:=hk
   have ge:sd[k]?=some sd[k]:=List.getElem?_eq_getElem hlt
   have i1:ycs (.loc sdl) (.int (((k+1:Nat):Int)-1)) h=some (sdV sd[k],h):=by
    unfold ycs
    simp only [es]
    rw [show ((k+1:Nat):Int)-1=(k:Nat) by omega,ydn (by rw [getElem?_map,ge];rfl)]
   have i2:yba (sdV sd[k]) (.int 0) h=some (yT sd[k].1,h):=rfl
   have i3:=yuU (h:=h) (hb sd[k] (getElem_mem hlt)) hr
   have i4:oGt (.int ((k+1:Nat):Int)) (.int 0) h=some (.bl true,h):=by
    show some (PV.bl (decide ((0:Int)<((k+1:Nat):Int))),h)=_
    rw [decide_eq_true (by omega)]
   have ec:c [.val (.loc n),.val (yT r),.val (.int ((k+1:Nat):Int))] h=some (!(yhl sd[k].1 r),h):=by
    subst hc
    show ob _ _=_
    simp_all? only [f7,i1,i2,i3,i4]
   rw [yuV,ec,ybF]
   show (if (!(yhl sd[k].1 r))=true then _ else _)=some (Out.nx [_,_,.val (.int ((match sd[k]? with|some s=>if yhl s.1 r then k+1 else tkL sd r k|none=>0:Nat):Int))],h)
   rw [ge]
   cases ht:yhl sd[k].1 r with
   | true=>simp only [Bool.not_true,if_true,ht];rfl
   | false =>
    simp only [Bool.not_false,if_true,ht,Bool.false_eq_true,if_false]
    have:=ih f (by omega) (by omega)
    rw [<- this]
    subst hs
    show ob (some (Out.nx [.val (.loc n),.val (yT r),.val (.int (((k+1:Nat):Int)-1))],h)) _=_
    rw [ybF,show ((k+1:Nat):Int)-1=(k:Nat) by omega]
 have l1:yca [.loc sdl] h=some (.int sd.length,h):=by rw [yeU es,length_map]
 have l2:=lp _ _ rfl rfl sd.length 1000 (Nat.le_refl _) (by omega)
 simp_all? only [f7,l1]
 exact (congrArg (ob · _) l2).trans rfl
end
section
variable {h:AH}{n hl lg sn sdl:Nat}{w:Int}{rows:List PV}{t:Nat}{r:Rw}
theorem yoV {j:Int}{t:Int}{ρ:PSt}(e:h[n]?=some (yjI hl w lg rows t sn sdl)):fL [10,12] "at" ρ (.int j) (.loc n) h=some (.nx ρ,h.set n (yjI hl w lg rows j sn sdl)):=yfA e (by decide) (by kernel_rfl!)
theorem yuW {j:Nat}{t:Int}{ρ:PSt}(e:h[n]?=some (yjI hl w lg rows t sn sdl)):fL [12] "held" ρ (.loc j) (.loc n) h=some (.nx ρ,h.set n (yjI j w lg rows t sn sdl)):=yfA e (by decide) (by kernel_rfl!)
theorem ymc (e:h[n]?=some (yjI hl w lg rows t sn sdl)) (er:rows[t]?=some (yT r)):ycA [.loc n] h=ob (goB [.val (.loc n),.val (yT r)] (h.set n (yjI hl w lg rows (t+1:Nat) sn sdl))) fnK:=by
 obtain ⟨f1,f2,f3,f4,f5,f6,f7⟩:=ycQ e
 unfold ycA
 rw [yo]
 show ob (yl _ (yl _ goB) [.val (.loc n),.no] h) fnK=_
 simp_all? only [yef,yB (m:="row") e (by rfl'),yiy e rfl er,f5,ysU,yoV e]
 rfl
theorem yyz (e:h[n]?=some (yjI hl w lg rows t sn sdl)) (er:rows[t]?=some (yT r)):ybm [.loc n] h=ob (loB [.val (.loc n),.val (yT r)] h) fnK:=by
 unfold ybm
 rw [yo]
 show ob (yl _ loB [.val (.loc n),.no] h) fnK=_
 simp_all? only [yef,yB (m:="row") e (by rfl'),yiy e rfl er]
abbrev M2 (m:Str) (f:Fn):XE:=yh 12 m f (yf 0) (yc (yf 1) (yi))
theorem yBy {x:PV}{s:Str}{k:Int}:goB [.val x,.val (yT (.let_ s k))] h=ybj (M2 "go_plain" yH) [.val x,.val (yT (.let_ s k))] h:=by kernel_rfl!
theorem yyA {x:PV}{s k:Str}:goB [.val x,.val (yT (.take s k))] h=ybj (M2 "go_plain" yH) [.val x,.val (yT (.take s k))] h:=by kernel_rfl!
theorem yBz {x:PV}{s k:Str}:goB [.val x,.val (yT (.put s k))] h=ybj (M2 "go_plain" yH) [.val x,.val (yT (.put s k))] h:=by kernel_rfl!
theorem yyB {x:PV}:goB [.val x,.val (yT .wait)] h=ybj (M2 "leave" ycf) [.val x,.val (yT .wait)] h:=by kernel_rfl!
theorem yuX {x:PV}{s k:Str}:goB [.val x,.val (yT (.throw s k))] h=ybj (M2 "throw" ycD) [.val x,.val (yT (.throw s k))] h:=by kernel_rfl!
theorem yse {x:PV}{k:Int}:goB [.val x,.val (yT (.either k))] h=goE [.val x,.val (yT (.either k))] h:=by kernel_rfl!
theorem yuY {x:PV}{s r:Str}{k:Int}:goB [.val x,.val (yT (.guard s r k))] h=goE [.val x,.val (yT (.guard s r k))] h:=by kernel_rfl!
theorem ysf {x:PV}:goB [.val x,.val (yT .settle)] h=goS [.val x,.val (yT .settle)] h:=by kernel_rfl!
theorem yyC {x:PV}{k:Int}:goB [.val x,.val (yT (.jump k))] h=ybj (M2 "lead" ydB) [.val x,.val (yT (.jump k))] h:=by kernel_rfl!
end
structure Lc where
 rn:Nat
 hl:Nat
 lg:Nat
 st:Nat
 ls:Nat
 sn:Nat
 sd:Nat
 ly:List Nat
structure RS where
 t:Nat
 hs:List Int
 sd:List (Rw×List Int)
 dd:List (List Key×List PV)
 sn:List (Nat×Int×Int)
def sK (m:List (Nat×Int×Int)):List Key:=m.map fun p=>.inl (p.1:Int)
def sA (m:List (Nat×Int×Int)):List PV:=m.map fun p=>.int p.2.1
def sB (m:List (Nat×Int×Int)):List PV:=m.map fun p=>.int p.2.2
noncomputable def ydv (m:List (Nat×Int×Int)) (k:Nat) (a b:Int):List (Nat×Int×Int):=if k∈m.map (·.1) then m.map (fun p=>if p.1=k then (k,a,b) else p) else m++[(k,a,b)]
def lay:List Nat->List (List Key×List PV)->List (Nat×Nd)
 | l::ls,d::ds=>(l,.dct d.1 d.2)::lay ls ds
 | _,_=>[]
def RM (w:Int) (rows:List PV) (c:Lc) (s:RS) (rest:List (Nat×Nd)):List (Nat×Nd) :=
 (c.rn,yjI c.hl w c.lg rows s.t c.sn c.sd)::(c.hl,.lst (s.hs.map .int))::(c.lg,.ins 11 ["stack","last_seen"] [.loc c.st,.loc c.ls])::(c.st,.lst (c.ly.map .loc))::(c.ls,.dct (sK s.sn) (sA s.sn))::(c.sn,.dct (sK s.sn) (sB s.sn))::(c.sd,.lst (s.sd.map sdV))::(lay c.ly s.dd++rest)
structure RR (w:Int) (rows:List PV) (rest:List (Nat×Nd)) (h:AH) (c:Lc) (s:RS):Prop where
 at_:At h (RM w rows c s rest)
 len:c.ly.length=s.dd.length
theorem yff:∀ (l m:List Nat) (d e:List (List Key×List PV)),l.length=d.length->lay (l++m) (d++e)=lay l d++lay m e
 | [],_,[],_,_=>rfl
 | a::l,m,b::d,e,h=>by
  show (a,_)::lay (l++m) (d++e)=(a,_)::(lay l d++lay m e)
  rw [yff l m d e (by simpa using h)]
noncomputable def okR:Rw->Bool
 | .let_ r _=>decide (r∈SL)
 | .put p r=>decide (p∈SL) && decide (r∈SL)
 | .take p r=>decide (p∈SL) && decide (r∈SL)
 | .throw _ r=>decide (r∈SL)
 | .guard _ r k=>decide (r∈SL) && decide (0<=k)
 | .either k=>decide (0<=k)
 | .jump k=>decide (0<=k)
 | _=>true
def okS (s:RS):Bool:=(s.hs.length == 8) && (s.dd.length == s.sd.length+1) && decide (s.sd.length<90) && s.sd.all (fun x=>ypJ x.1 && okR x.1 && (x.2.length == 8)) && s.dd.all (fun d=>decide (d.1.length<400))
def toB:Rw->Int|.either k=>k|.guard _ _ k=>k|_=>0
def slB:Rw->Str|.guard _ r _=>r|_=>""
def yoW (dd:List (List Key×List PV)) (k v:Int):List (List Key×List PV):=match dd.getLast? with|some d=>dd.dropLast++[ycS d.1 d.2 (.inl k) (.int v)]|none=>dd
def yoX (dd:List (List Key×List PV)):List (List Key×List PV):=match dd.getLast?,dd.dropLast.getLast? with|some d,some e=>dd.dropLast.dropLast++[yks d.1 d.2 e.1 e.2]|_,_=>dd
def yjJ (s:RS) (r:Rw) (g:Rw->List Int->List Int):Option RS:=match tkL s.sd r s.sd.length with
 | 0=>none
 | L+1=>match s.sd[L]? with|some x=>some ⟨(toB x.1).toNat,g x.1 x.2,s.sd.take L,s.dd.take (L+1),s.sn⟩|none=>none
def ysV (s:RS) (w:Int) (p:Str):PV:=yBv s.dd (.inl (s.hs.getD (sx p) 0%w)) s.dd.length
def ynz (w:Int) (r:Rw) (s:RS):Option RS:=if (okR r && okS s)=true then (match r with
 | .let_ r n=>some ⟨s.t+1,s.hs.set (sx r) n,s.sd,s.dd,s.sn⟩
 | .take r p=>(match ysV s w p with|.int v=>some ⟨s.t+1,s.hs.set (sx r) v,s.sd,s.dd,s.sn⟩|_=>none)
 | .put p r=>some ⟨s.t+1,s.hs,s.sd,yoW s.dd (s.hs.getD (sx p) 0%w) (s.hs.getD (sx r) 0),s.sn⟩
 | .either k=>some ⟨s.t+1,s.hs,s.sd++[(.either k,s.hs)],s.dd++[([],[])],s.sn⟩
 | .guard a b k=>some ⟨s.t+1,s.hs,s.sd++[(.guard a b k,s.hs)],s.dd++[([],[])],s.sn⟩
 | .settle=>if s.sd.length=0 then none else some ⟨s.t+1,s.hs,s.sd.dropLast,yoX s.dd,s.sn⟩
 | .jump k=>some ⟨k.toNat,s.hs,s.sd,s.dd,s.sn⟩
 | .wait=>yjJ s .wait fun _ q=>q
 | .throw a b=>yjJ s (.throw a b) fun x q=>q.set (sx (slB x)) (s.hs.getD (sx b) 0)
 | .lay=>none) else none
def S0 (hs:List Int):RS:=⟨0,hs,[],[([],[])],[]⟩
section
variable {h:AH}{m:List (Nat×Nd)}
theorem At.ne (A:At h m) {i j:Nat}{p q:Nat×Nd}(hij:i<j) (e1:m[i]?=some p) (e2:m[j]?=some q):p.1≠q.1:=by
 intro z
 obtain ⟨l1,q1⟩:=List.getElem?_eq_some_iff.mp e1
 obtain ⟨l2,q2⟩:=List.getElem?_eq_some_iff.mp e2
 have:=List.pairwise_iff_getElem.mp A.1 i j (by simpa using l1) (by simpa using l2) hij
 rw [List.getElem_map,List.getElem_map,q1,q2] at this
 exact this z
theorem yiz:∀ (ly:List Nat) (dd:List (List Key×List PV)),ly.length=dd.length->(lay ly dd).length=ly.length
 | [],[],_=>rfl
 | _::ls,_::ds,e=>by show (lay ls ds).length+1=ls.length+1;rw [yiz ls ds (by simpa using e)]
theorem ywk:∀ (ly:List Nat) (dd:List (List Key×List PV)),ly.length=dd.length->(∀ p∈lay ly dd,h[p.1]?=some p.2)->Stk h ly dd
 | [],[],_,_=>trivial
 | l::ls,d::ds,e,g=>⟨g (l,.dct d.1 d.2) mem_cons_self,ywk ls ds (by simpa using e) fun p hp=>g p (mem_cons_of_mem _ hp)⟩
variable {w:Int}{rows:List PV}{rest:List (Nat×Nd)}{c:Lc}{s:RS}
theorem RR.lg (R:RR w rows rest h c s):LG h c.lg c.st c.ls c.ly s.dd (sK s.sn) (sA s.sn):=⟨R.at_.get 2 rfl,R.at_.get 3 rfl,R.at_.get 4 rfl,ywk _ _ R.len fun p hp=>R.at_.2 p (by unfold RM;simp [hp])⟩
theorem RR.run (R:RR w rows rest h c s):h[c.rn]?=some (yjI c.hl w c.lg rows s.t c.sn c.sd):=R.at_.get 0 rfl
theorem RR.held (R:RR w rows rest h c s):h[c.hl]?=some (.lst (s.hs.map .int)):=R.at_.get 1 rfl
theorem RR.sds (R:RR w rows rest h c s):h[c.sd]?=some (.lst (s.sd.map sdV)):=R.at_.get 6 rfl
theorem RR.to (R:RR w rows rest h c s) (k:Nat):RR w rows rest (h.set c.rn (yjI c.hl w c.lg rows k c.sn c.sd)) c { s with t:=k }:=⟨R.at_.upd (a:=[]) _,R.len⟩
theorem RR.hold (R:RR w rows rest h c s) (q:List Int):RR w rows rest (h.set c.hl (.lst (q.map .int))) c { s with hs:=q }:=⟨R.at_.upd (a:=[_]) _,R.len⟩
theorem yhm (e:okS s=true):s.hs.length=8/\s.dd.length=s.sd.length+1/\s.sd.length<90/\(∀ x∈s.sd,ypJ x.1=true/\okR x.1=true/\x.2.length=8)/\∀ d∈s.dd,d.1.length<400:=by
 unfold okS at e
 simp only [and_eq_true,beq_iff_eq,decide_eq_true_eq,List.all_eq_true] at e
 obtain ⟨⟨⟨⟨e1,e2⟩,e3⟩,e4⟩,e5⟩:=e
 exact ⟨e1,e2,e3,fun x hx=>⟨(e4 x hx).1.1,(e4 x hx).1.2,(e4 x hx).2⟩,e5⟩
def dk (m:Option (PV×AH)) (ρ:PSt):Option (PV×AH):=ob (ob m fun _ h1=>some (Out.nx ρ,h1)) fnK
theorem yBA {x:PV}{r:Str}{k:Int}:yH [x,yT (.let_ r k)] h=dk (mK 12 "hold" ycd (fun _ h1=>some ([.str r,.int k],h1)) [] x h) [.val x,.val (yT (.let_ r k))]:=by kernel_rfl!
theorem yBB {x:PV}{p r:Str}:yH [x,yT (.put p r)] h=dk (mK 12 "do_put" ycL (fun _ h1=>some ([.str p,.str r],h1)) [] x h) [.val x,.val (yT (.put p r))]:=by kernel_rfl!
theorem yBC {r:Str}{k:Int}(R:RR w rows rest h c s) (er:rows[s.t]?=some (yT (.let_ r k))) (hr:r∈SL) (h8:s.hs.length=8):∃ h',ycA [.loc c.rn] h=some (.non,h')/\RR w rows rest h' c ⟨s.t+1,s.hs.set (sx r) k,s.sd,s.dd,s.sn⟩:=by
 have R1:=R.to (s.t+1)
 refine ⟨_,?_,R1.hold _⟩
 rw [ymc R.run er,yBy]
 show dk (mK 12 "go_plain" yH _ _ (.loc c.rn) _) _=_
 rw [yB R1.run (by rfl')]
 show dk (yH [.loc c.rn,yT (.let_ r k)] _) _=_
 rw [yBA,yB R1.run (by rfl'),ybF,ykG R1.run R1.held h8 hr]
 rfl
end
section
variable {h:AH}{w:Int}{rows:List PV}{rest:List (Nat×Nd)}{c:Lc}{s:RS}
theorem yyD {k:Int}(R:RR w rows rest h c s) (er:rows[s.t]?=some (yT (.jump k))) (hk:0<=k):∃ h',ycA [.loc c.rn] h=some (.non,h')/\RR w rows rest h' c ⟨k.toNat,s.hs,s.sd,s.dd,s.sn⟩:=by
 have R1:=R.to (s.t+1)
 refine ⟨_,?_,R1.to k.toNat⟩
 rw [ymc R.run er,yyC]
 show dk (mK 12 "lead" ydB _ _ (.loc c.rn) _) _=_
 rw [yB R1.run (by rfl')]
 show dk (ydB [.loc c.rn,yT (.jump k)] _) _=_
 rw [show ∀ x h,ydB [x,yT (.jump k)] h=ob (fL [10,12] "at" [.val x,.val (yT (.jump k))] (.int k) x h) fnK by intro x h;kernel_rfl!,yoV R1.run,show ((k.toNat:Nat):Int)=k by omega]
 rfl
theorem yyE (R:RR w rows rest h c s) {l:List Nat}{t:Nat}{ds:List (List Key×List PV)}{d d':List Key×List PV}(el:c.ly=l++[t]) (ed:s.dd=ds++[d]):RR w rows rest (h.set t (.dct d'.1 d'.2)) c { s with dd:=ds++[d'] }:=by
 have hl:l.length=ds.length:=by have:=R.len;rw [el,ed] at this;simpa using this
 have A:=R.at_
 refine ⟨?_,by show c.ly.length=(ds++[d']).length;rw [R.len,ed];simp⟩
 unfold RM at A ⊢
 rw [el,ed,yff _ _ _ _ hl] at A
 show At _ (_::_::_::_::_::_::_::(lay c.ly (ds++[d'])++rest))
 rw [el,yff _ _ _ _ hl,append_assoc]
 rw [append_assoc] at A
 exact A.upd (a:=_::_::_::_::_::_::_::lay l ds) (n:=t) (d:=.dct d.1 d.2) (b:=rest) (.dct d'.1 d'.2)
theorem ybU {α:Type}{xs:List α}(h:xs.length≠0):∃ a y,xs=a++[y]:=⟨xs.dropLast,xs.getLast (by intro z;rw [z] at h;exact h rfl),(List.dropLast_concat_getLast _).symm⟩
theorem ysg {p r:Str}(R:RR w rows rest h c s) (hp:p∈SL) (hr:r∈SL) (h8:s.hs.length=8) (hw:1<=w) {l:List Nat}{t:Nat}{ds:List (List Key×List PV)}{d:List Key×List PV}(el:c.ly=l++[t]) (ed:s.dd=ds++[d]) (hd:d.1.length<400) :
  ycL [.loc c.rn,.str p,.str r] h=some (.non,h.set t (.dct (ycS d.1 d.2 (.inl (s.hs.getD (sx p) 0%w)) (.int (s.hs.getD (sx r) 0))).1 (ycS d.1 d.2 (.inl (s.hs.getD (sx p) 0%w)) (.int (s.hs.getD (sx r) 0))).2)):=by
 obtain ⟨f1,f2,f3,f4,f5,f6,f7⟩:=ycQ R.run
 have G:=R.lg
 have hl:l.length=ds.length:=by have:=R.len;rw [el,ed] at this;simpa using this
 have ht:h[t]?=some (.dct d.1 d.2):=by
  have A:=R.at_
  unfold RM at A
  rw [el,ed,yff _ _ _ _ hl,append_assoc] at A
  exact A.2 (t,.dct d.1 d.2) (by simp [lay])
 have G':=G
 rw [el] at G'
 unfold ycL
 rw [yo]
 show ob (ybj _ [.val (.loc c.rn),.val (.str p),.val (.str r)] h) fnK=_
 simp_all? only [f3,yef,yB (m:="box_at") R.run (by rfl'),yB (m:="held_in") R.run (by rfl'),yB (m:="write") G.ob (by rfl'),yfe R.run R.held h8 hp hw,yft R.run R.held h8 hr,yuR G' ht (Nat.lt_trans hd (by decide))]
theorem yBD {p r:Str}(R:RR w rows rest h c s) (er:rows[s.t]?=some (yT (.put p r))) (hp:p∈SL) (hr:r∈SL) (hw:1<=w) (ok:okS s=true):∃ h',ycA [.loc c.rn] h=some (.non,h')/\RR w rows rest h' c ⟨s.t+1,s.hs,s.sd,yoW s.dd (s.hs.getD (sx p) 0%w) (s.hs.getD (sx r) 0),s.sn⟩:=by
 obtain ⟨h8,o2,o3,o4,o5⟩:=yhm ok
 have R1:=R.to (s.t+1)
 obtain ⟨ds,d,ed⟩:=ybU (xs:=s.dd) (by omega)
 obtain ⟨l,t,el⟩:=ybU (xs:=c.ly) (by have:=R.len;omega)
 have e2:=ysg R1 hp hr h8 hw el ed (o5 d (by rw [ed];simp))
 have R2:=yyE (d':=ycS d.1 d.2 (.inl (s.hs.getD (sx p) 0%w)) (.int (s.hs.getD (sx r) 0))) R1 el ed
 refine ⟨_,?_,by
  have:yoW s.dd (s.hs.getD (sx p) 0%w) (s.hs.getD (sx r) 0)=ds++[ycS d.1 d.2 (.inl (s.hs.getD (sx p) 0%w)) (.int (s.hs.getD (sx r) 0))]:=by
   unfold yoW
   rw [ed,List.getLast?_concat,List.dropLast_concat]
  rw [this]
  exact R2⟩
 rw [ymc R.run er,yBz]
 show dk (mK 12 "go_plain" yH _ _ (.loc c.rn) _) _=_
 rw [yB R1.run (by rfl')]
 show dk (yH [.loc c.rn,yT (.put p r)] _) _=_
 rw [yBB,yB R1.run (by rfl'),ybF,e2]
 rfl
end
section
variable {h:AH}{w:Int}{rows:List PV}{rest:List (Nat×Nd)}{c:Lc}{s:RS}
theorem RR.side (R:RR w rows rest h c s) (q:List (Rw×List Int)):RR w rows rest (h.set c.sd (.lst (q.map sdV))) c { s with sd:=q }:=⟨R.at_.upd (a:=[_,_,_,_,_,_]) _,R.len⟩
theorem yBE {r:Rw}(R:RR w rows rest h c s) (o3:s.sd.length<90) (o2:s.dd.length=s.sd.length+1):∃ h' c',ob (goE [.val (.loc c.rn),.val (yT r)] h) fnK=some (.non,h')/\RR w rows rest h' c' { s with sd:=s.sd++[(r,s.hs)],dd:=s.dd++[([],[])] }/\c'.rn=c.rn:=by
 obtain ⟨f1,f2,f3,f4,f5,f6,f7⟩:=ycQ R.run
 have R2:=R.side (s.sd++[(r,s.hs)])
 obtain ⟨g1,g2,g3,g4,g5,g6,g7⟩:=ycQ R2.run
 have G:=R2.lg
 have e1:yhS (.loc c.sd) [.tup [yT r,.lst (s.hs.map .int)]] h=some (.non,h.set c.sd (.lst ((s.sd++[(r,s.hs)]).map sdV))):=by
  rw [yhW R.sds (by rw [length_map];omega),map_append]
  rfl
 have e2:=yuS G (by have:=R.len;omega)
 generalize hh:h.set c.sd (.lst ((s.sd++[(r,s.hs)]).map sdV))=h2 at *
 refine ⟨(h2++[Nd.dct [] []]).set c.st (.lst ((c.ly++[h2.length]).map .loc)),{ c with ly:=c.ly++[h2.length] },?_,⟨?_,?_⟩,rfl⟩
 rotate_left
 .have A:=R2.at_
  have A1:=At.new (.dct [] []) (a:=_::_::_::_::_::_::_::lay c.ly s.dd) (b:=rest) A
  have A2:=At.upd (a:=[_,_,_]) (.lst ((c.ly++[h2.length]).map .loc)) A1
  unfold RM
  show At _ (_::_::_::_::_::_::_::(lay (c.ly++[h2.length]) (s.dd++[([],[])])++rest))
  rw [yff _ _ _ _ R.len,append_assoc]
  exact A2
 .show (c.ly++[h2.length]).length=(s.dd++[([],[])]).length
  rw [length_append,length_append,R.len];rfl
 unfold goE
 simp_all? only [f7,f1,ycJ R.sds,yfo R.held,e1,g3,yef,yB (m:="begin") G.ob (by rfl'),e2]
theorem ysh {n:Nat}{xs:List PV}{y:PV}(e:h[n]?=some (.lst (xs++[y]))):yhq (.loc n) [] h=some (y,h.set n (.lst xs)):=by
 unfold yhq
 simp only [e]
 have:(xs++[y])[(xs++[y]).length-1]?=some y:=by simp
 rw [this]
 simp
theorem ysi (R:RR w rows rest h c s) (ok:okS s=true) (hn:s.sd.length≠0):∃ h' c',ob (goS [.val (.loc c.rn),.val (yT .settle)] h) fnK=some (.non,h')/\RR w rows rest h' c' { s with sd:=s.sd.dropLast,dd:=yoX s.dd }/\c'.rn=c.rn:=by
 obtain ⟨h8,o2,o3,o4,o5⟩:=yhm ok
 obtain ⟨f1,f2,f3,f4,f5,f6,f7⟩:=ycQ R.run
 obtain ⟨q,x,eq⟩:=ybU hn
 obtain ⟨d1,dt,ed⟩:=ybU (xs:=s.dd) (by omega)
 obtain ⟨ds,du,ed1⟩:=ybU (xs:=d1) (by have:=congrArg length ed;simp at this;omega)
 obtain ⟨l1,t,el⟩:=ybU (xs:=c.ly) (by have:=R.len;omega)
 obtain ⟨l,u,el1⟩:=ybU (xs:=l1) (by have a:=R.len;have b:c.ly.length=l1.length+1:=(by rw [el];simp);omega)
 subst el1 ed1
 have hl:l.length=ds.length:=by have:=R.len;rw [el,ed] at this;simpa using this
 have em:yoX s.dd=ds++[yks dt.1 dt.2 du.1 du.2]:=by
  unfold yoX
  rw [ed,List.getLast?_concat,List.dropLast_concat,List.getLast?_concat,List.dropLast_concat]
 have es:s.sd.dropLast=q:=by rw [eq,List.dropLast_concat]
 rw [em,es]
 have R2:=R.side q
 obtain ⟨g1,g2,g3,g4,g5,g6,g7⟩:=ycQ R2.run
 have e1:yhq (.loc c.sd) [] h=some (sdV x,h.set c.sd (.lst (q.map sdV))):=ysh (by rw [R.sds,eq,map_append];rfl)
 have G:=R2.lg
 have A:=R2.at_
 generalize hh:h.set c.sd (.lst (q.map sdV))=h2 at *
 have hA:At h2 ((c.rn,yjI c.hl w c.lg rows s.t c.sn c.sd)::(c.hl,.lst (s.hs.map .int))::(c.lg,.ins 11 ["stack","last_seen"] [.loc c.st,.loc c.ls])::(c.st,.lst (c.ly.map .loc))::(c.ls,.dct (sK s.sn) (sA s.sn))::(c.sn,.dct (sK s.sn) (sB s.sn))::(c.sd,.lst (q.map sdV))::(lay l ds++((u,.dct du.1 du.2)::(t,.dct dt.1 dt.2)::rest))):=by
  unfold RM at A
  have el':lay c.ly s.dd=lay l ds++[(u,.dct du.1 du.2),(t,.dct dt.1 dt.2)]:=by
   rw [el,ed,append_assoc,append_assoc,yff _ _ _ _ hl]
   rfl
  have:∀ z:List (Nat×Nd),(lay l ds++[(u,.dct du.1 du.2),(t,.dct dt.1 dt.2)])++z=lay l ds++((u,.dct du.1 du.2)::(t,.dct dt.1 dt.2)::z):=fun z=>by rw [append_assoc];rfl
  simpa only [el',this] using A
 have iu:(lay l ds++((u,Nd.dct du.1 du.2)::(t,.dct dt.1 dt.2)::rest))[l.length]?=some (u,.dct du.1 du.2):=by
  rw [getElem?_append_right (by rw [yiz _ _ hl];omega),yiz _ _ hl,sub_self];rfl
 have it:(lay l ds++((u,Nd.dct du.1 du.2)::(t,.dct dt.1 dt.2)::rest))[l.length+1]?=some (t,.dct dt.1 dt.2):=by
  rw [getElem?_append_right (by rw [yiz _ _ hl];omega),yiz _ _ hl,Nat.add_sub_cancel_left,List.getElem?_cons_succ,List.getElem?_cons_zero]
 have nu:=hA.ne (i:=3) (j:=7+l.length) (by omega) rfl (by rw [show 7+l.length=l.length+7 by omega];exact iu)
 have nt:=hA.ne (i:=3) (j:=7+(l.length+1)) (by omega) rfl (by rw [show 7+(l.length+1)=(l.length+1)+7 by omega];exact it)
 have nut:=hA.ne (i:=7+l.length) (j:=7+(l.length+1)) (by omega) (by rw [show 7+l.length=l.length+7 by omega];exact iu) (by rw [show 7+(l.length+1)=(l.length+1)+7 by omega];exact it)
 have G':=G
 rw [el] at G'
 have e2:=ysc G' (hA.ne (i:=2) (j:=3) (by omega) rfl rfl) (fun z=>nu z.symm) (fun z=>nt z.symm) nut (hA.get (7+l.length) (by rw [show 7+l.length=l.length+7 by omega];exact iu)) (hA.get (7+(l.length+1)) (by rw [show 7+(l.length+1)=(l.length+1)+7 by omega];exact it)) (by have a:=o5 du (by rw [ed];simp);have b:=o5 dt (by rw [ed];simp);omega)
 refine ⟨(h2.set c.st (.lst ((l++[u]).map .loc))).set u (.dct (yks dt.1 dt.2 du.1 du.2).1 (yks dt.1 dt.2 du.1 du.2).2),{ c with ly:=l++[u] },?_,⟨?_,by show (l++[u]).length=(ds++[yks dt.1 dt.2 du.1 du.2]).length;simp [hl]⟩,rfl⟩
 rotate_left
 .have A1:=At.upd (a:=[_,_,_]) (.lst ((l++[u]).map .loc)) hA
  have A2:=At.upd (a:=_::_::_::_::_::_::_::lay l ds) (.dct (yks dt.1 dt.2 du.1 du.2).1 (yks dt.1 dt.2 du.1 du.2).2) (b:=(t,.dct dt.1 dt.2)::rest) A1
  unfold RM
  show At _ (_::_::_::_::_::_::_::(lay (l++[u]) (ds++[yks dt.1 dt.2 du.1 du.2])++rest))
  rw [yff _ _ _ _ hl,append_assoc]
  exact A2.sub (((((((((List.Sublist.refl _).append (((List.sublist_cons_self _ _)).cons₂ _)).cons₂ _).cons₂ _).cons₂ _).cons₂ _).cons₂ _).cons₂ _).cons₂ _)
 unfold goS
 simp_all? only [f7,ycJ R.sds,e1,g3,yef,yB (m:="settle") G.ob (by rfl'),e2]
end
section
variable {w:Int}{rows:List PV}{rest:List (Nat×Nd)}
theorem yuZ {h:AH}{c:Lc}{s:RS}(R:RR w rows rest h c s) {l:List Nat}{t:Nat}{ds:List (List Key×List PV)}{d:List Key×List PV}(el:c.ly=l++[t]) (ed:s.dd=ds++[d]):RR w rows rest (h.set c.st (.lst (l.map .loc))) { c with ly:=l } { s with dd:=ds }:=by
 have hl:l.length=ds.length:=by have:=R.len;rw [el,ed] at this;simpa using this
 refine ⟨?_,hl⟩
 have A:=At.upd (a:=[_,_,_]) (.lst (l.map .loc)) R.at_
 unfold RM
 rw [el,ed,yff _ _ _ _ hl,append_assoc] at A
 exact A.sub (((((((((List.Sublist.refl _).append (List.sublist_cons_self _ _)).cons₂ _).cons₂ _).cons₂ _).cons₂ _).cons₂ _).cons₂ _).cons₂ _)
theorem yGe {L rn:Nat}{v1 v3:PV}{p4:PVar}:∀ (k f:Nat) (h:AH) (c:Lc) (s:RS),RR w rows rest h c s->c.rn=rn->s.sd.length=L+k->s.dd.length=s.sd.length+1->k<f ->
  ∃ h' c',whl lvC lvB f [.val (.loc rn),.val v1,.val (.int ((L+1:Nat):Int)),.val v3,p4] h=some (.nx [.val (.loc rn),.val v1,.val (.int ((L+1:Nat):Int)),.val v3,p4],h')/\RR w rows rest h' c' { s with sd:=s.sd.take L,dd:=s.dd.take (L+1) }/\c'.rn=rn:=by
 intro k
 induction k with
 | zero =>
  intro f h c s R hn hs hd hf
  obtain ⟨f,rfl⟩:∃ g,f=g+1:=⟨f-1,by omega⟩
  subst hn
  obtain ⟨f1,f2,f3,f4,f5,f6,f7⟩:=ycQ R.run
  refine ⟨h,c,?_,by rw [List.take_of_length_le (by omega),List.take_of_length_le (by omega)];exact R,rfl⟩
  have ec:lvC [.val (.loc c.rn),.val v1,.val (.int ((L+1:Nat):Int)),.val v3,p4] h=some (false,h):=by
   have l1:yca [.loc c.sd] h=some (.int s.sd.length,h):=by rw [yeU R.sds,length_map]
   have l2:oGe (.int (s.sd.length:Nat)) (.int ((L+1:Nat):Int)) h=some (.bl false,h):=by
    show some (PV.bl (decide (((L+1:Nat):Int)<=(s.sd.length:Nat))),h)=_
    rw [decide_eq_false (by omega)]
   simp_all? only [f7,l1,l2]
  rw [yuV,ec]
  rfl
 | succ k ih =>
  intro f h c s R hn hs hd hf
  obtain ⟨f,rfl⟩:∃ g,f=g+1:=⟨f-1,by omega⟩
  subst hn
  obtain ⟨f1,f2,f3,f4,f5,f6,f7⟩:=ycQ R.run
  obtain ⟨q,x,eq⟩:=ybU (xs:=s.sd) (by omega)
  obtain ⟨ds,d,ed⟩:=ybU (xs:=s.dd) (by omega)
  obtain ⟨l,t,el⟩:=ybU (xs:=c.ly) (by have:=R.len;omega)
  have lq:s.sd.length=q.length+1:=by rw [eq];simp
  have ld:s.dd.length=ds.length+1:=by rw [ed];simp
  have R2:=R.side q
  have e1:yhq (.loc c.sd) [] h=some (sdV x,h.set c.sd (.lst (q.map sdV))):=ysh (by rw [R.sds,eq,map_append];rfl)
  have ec:lvC [.val (.loc c.rn),.val v1,.val (.int ((L+1:Nat):Int)),.val v3,p4] h=some (true,h):=by
   have l1:yca [.loc c.sd] h=some (.int s.sd.length,h):=by rw [yeU R.sds,length_map]
   have l2:oGe (.int (s.sd.length:Nat)) (.int ((L+1:Nat):Int)) h=some (.bl true,h):=by
    show some (PV.bl (decide (((L+1:Nat):Int)<=(s.sd.length:Nat))),h)=_
    rw [decide_eq_true (by omega)]
   simp_all? only [f7,l1,l2]
  obtain ⟨g1,g2,g3,g4,g5,g6,g7⟩:=ycQ R2.run
  have G:=R2.lg
  have G':=G
  rw [el] at G'
  have e2:=yyy G'
  have R3:=yuZ R2 el ed
  have eb:lvB [.val (.loc c.rn),.val v1,.val (.int ((L+1:Nat):Int)),.val v3,p4] h=some (.nx [.val (.loc c.rn),.val v1,.val (.int ((L+1:Nat):Int)),.val v3,p4],(h.set c.sd (.lst (q.map sdV))).set c.st (.lst (l.map .loc))):=by
   generalize h.set c.sd (.lst (q.map sdV))=h2 at *
   simp_all? only [f7,ycJ R.sds,e1,g3,yef,yB (m:="drop") G.ob (by rfl'),e2]
  obtain ⟨h',c',q1,q2,q3⟩:=ih f _ _ _ R3 rfl (by show q.length=L+k;omega) (by show ds.length=q.length+1;omega) (by omega)
  refine ⟨h',c',?_,?_,q3⟩
  .rw [yuV,ec,ybF,if_pos rfl,eb,ybF]
   exact q1
  .rw [eq,ed,List.take_append_of_le_length (by omega),List.take_append_of_le_length (by omega)]
   exact q2
end
section
variable {h:AH}{w:Int}{rows:List PV}{rest:List (Nat×Nd)}{c:Lc}{s:RS}
theorem RR.newh (R:RR w rows rest h c s) (q:List Int):RR w rows rest ((h++[Nd.lst (q.map .int)]).set c.rn (yjI h.length w c.lg rows s.t c.sn c.sd)) { c with hl:=h.length } { s with hs:=q }:=by
 refine ⟨?_,R.len⟩
 have A:=At.new (.lst (q.map .int)) (a:=[_]) R.at_
 have A1:=At.upd (a:=[]) (yjI h.length w c.lg rows s.t c.sn c.sd) A
 exact A1.sub ((List.Sublist.cons _ (List.Sublist.refl _)).cons₂ _ |>.cons₂ _)
theorem yBF {b:Rw}(hb:ypJ b=true):yba (yT b) (.int (-1)) h=some (.int (toB b),h):=by
 cases b<;>first|(cases hb;done)|kernel_rfl!
theorem yoY {r:Rw}{L:Nat}{x:Rw×List Int}(R:RR w rows rest h c s) (ok:okS s=true) (hr:yuT r=true) (hL:tkL s.sd r s.sd.length=L+1) (hx:s.sd[L]?=some x) :
  ∃ h' c',ycf [.loc c.rn,yT r] h=some (yT x.1,h')/\RR w rows rest h' c' ⟨(toB x.1).toNat,x.2,s.sd.take L,s.dd.take (L+1),s.sn⟩/\c'.rn=c.rn:=by
 obtain ⟨h8,o2,o3,o4,o5⟩:=yhm ok
 obtain ⟨f1,f2,f3,f4,f5,f6,f7⟩:=ycQ R.run
 have hlt:L<s.sd.length:=(List.getElem?_eq_some_iff.mp hx).1
 obtain ⟨b1,b2,b3⟩:=o4 x (mem_of_getElem? hx)
 obtain ⟨h1,c1,q1,R1,q3⟩:=yGe (v1:=yT r) (v3:=sdV x) (p4:=.no) (L:=L) (s.sd.length-L) 1000 h c s R rfl (by omega) o2 (by omega)
 have q1:yfD 1000 lvC lvB [.val (.loc c.rn),.val (yT r),.val (.int ((L+1:Nat):Int)),.val (sdV x),.no] h=_:=q1
 have k0:0<=toB x.1:=by
  revert b1 b2
  cases x.1<;>simp [ypJ,okR,toB]
 have R2:=R1.newh x.2
 rw [q3] at R2
 have R3:=R2.to (toB x.1).toNat
 refine ⟨_,_,?_,R3,rfl⟩
 have i1:ycs (.loc c.sd) (.int (((L+1:Nat):Int)-1)) h=some (sdV x,h):=by
  unfold ycs
  simp only [R.sds]
  rw [show ((L+1:Nat):Int)-1=(L:Nat) by omega,ydn (by rw [getElem?_map,hx];rfl)]
 have i2:∀ h,yba (sdV x) (.int 0) h=some (yT x.1,h):=fun _=>rfl
 have i3:∀ h,yba (sdV x) (.int 1) h=some (.lst (x.2.map .int),h):=fun _=>rfl
 have i4:=yoU R.run R.sds (fun x hx=>(o4 x hx).1) hr (by omega)
 rw [hL] at i4
 have e1:(h1++[Nd.lst (x.2.map .int)])[c.rn]?=some (yjI c1.hl w c1.lg rows s.t c1.sn c1.sd):=by
  rw [<- q3,getElem?_append_left (List.getElem?_eq_some_iff.mp R1.run).1];exact R1.run
 have e2:=yuW (j:=h1.length) (ρ:=[.val (.loc c.rn),.val (yT r),.val (.int ((L+1:Nat):Int)),.val (sdV x),.val (yT x.1)]) e1
 have e3:=yoV (j:=toB x.1) (ρ:=[.val (.loc c.rn),.val (yT r),.val (.int ((L+1:Nat):Int)),.val (sdV x),.val (yT x.1)]) R2.run
 have i5:=fun h=>yBF (h:=h) b1
 unfold ycf
 rw [yo]
 show ob (yl _ (yl _ (yl (yfD 1000 lvC lvB) _)) [.val (.loc c.rn),.val (yT r),.no,.no,.no] h) fnK=_
 simp_all? only [yef,yB (m:="taker_layer") R.run (by rfl'),i4,f7,i1,q1,i2,i3,ysU,e2,i5,e3]
 rw [show (((toB x.1).toNat:Nat):Int)=toB x.1 by omega]
theorem yyF {L:Nat}{x:Rw×List Int}(R:RR w rows rest h c s) (er:rows[s.t]?=some (yT .wait)) (ok:okS s=true) (hL:tkL s.sd .wait s.sd.length=L+1) (hx:s.sd[L]?=some x) :
  ∃ h' c',ycA [.loc c.rn] h=some (.non,h')/\RR w rows rest h' c' ⟨(toB x.1).toNat,x.2,s.sd.take L,s.dd.take (L+1),s.sn⟩/\c'.rn=c.rn:=by
 have R1:=R.to (s.t+1)
 obtain ⟨h',c',q1,q2,q3⟩:=yoY (r:=.wait) R1 ok rfl hL hx
 refine ⟨h',c',?_,q2,q3⟩
 rw [ymc R.run er,yyB]
 show dk (mK 12 "leave" ycf _ _ (.loc c.rn) _) _=_
 rw [yB R1.run (by rfl')]
 show dk (ycf [.loc c.rn,yT .wait] _) _=_
 rw [q1]
 rfl
theorem yva {L:Nat}{x:Rw×List Int}{a b:Str}(R:RR w rows rest h c s) (er:rows[s.t]?=some (yT (.throw a b))) (hb:b∈SL) (ok:okS s=true) (hL:tkL s.sd (.throw a b) s.sd.length=L+1) (hx:s.sd[L]?=some x) (hg:yhl x.1 (.throw a b)=true) :
  ∃ h' c',ycA [.loc c.rn] h=some (.non,h')/\RR w rows rest h' c' ⟨(toB x.1).toNat,x.2.set (sx (slB x.1)) (s.hs.getD (sx b) 0),s.sd.take L,s.dd.take (L+1),s.sn⟩/\c'.rn=c.rn:=by
 have R1:=R.to (s.t+1)
 obtain ⟨h8,o2,o3,o4,o5⟩:=yhm ok
 obtain ⟨b1,b2,b3⟩:=o4 x (mem_of_getElem? hx)
 obtain ⟨h',c',q1,q2,q3⟩:=yoY (r:=.throw a b) R1 ok rfl hL hx
 obtain ⟨nm,rr,k,ex⟩:∃ nm rr k,x.1=.guard nm rr k:=by
  revert hg
  cases x.1<;>first|(intro hg;cases hg;done)|exact fun _=>⟨_,_,_,rfl⟩
 have hs:rr∈SL:=by
  rw [ex] at b2
  unfold okR at b2
  simp only [and_eq_true,decide_eq_true_eq] at b2
  exact b2.1
 have e4:=ykG (v:=s.hs.getD (sx b) 0) q2.run q2.held b3 hs
 rw [ex] at q1 q2 e4 ⊢
 refine ⟨_,c',?_,q2.hold _,q3⟩
 have e1:=yft R1.run R1.held h8 hb
 have i1:∀ h,yba (yT (.throw a b)) (.int 2) h=some (.str b,h):=fun _=>rfl
 have i2:∀ h,yba (yT (.guard nm rr k)) (.int 2) h=some (.str rr,h):=fun _=>rfl
 have r2:=q2.run
 rw [q3] at r2 e4
 rw [ymc R.run er,yuX]
 show dk (mK 12 "throw" ycD _ _ (.loc c.rn) _) _=_
 rw [yB R1.run (by rfl')]
 show dk (ycD [.loc c.rn,yT (.throw a b)] _) _=_
 have:ycD [.loc c.rn,yT (.throw a b)] (h.set c.rn (yjI c.hl w c.lg rows (s.t+1:Nat) c.sn c.sd))=some (.non,h'.set c'.hl (.lst ((x.2.set (sx rr) (s.hs.getD (sx b) 0)).map .int))):=by
  unfold ycD
  rw [yo]
  show ob (yl _ _ [.val (.loc c.rn),.val (yT (.throw a b)),.no,.no] _) fnK=_
  simp_all? only [yef,yB (m:="held_in") R1.run (by rfl'),yB (m:="leave") R1.run (by rfl'),yB (m:="hold") r2 (by rfl'),i1,i2,e1,q1,e4]
 rw [this]
 rfl
end
section
variable {h:AH}{w:Int}{rows:List PV}{rest:List (Nat×Nd)}{c:Lc}{s s':RS}{r:Rw}
theorem yoZ {sd:List (Rw×List Int)}:∀ {k L:Nat},tkL sd r k=L+1->∃ x,sd[L]?=some x/\yhl x.1 r=true
 | k+1,L,e=>by
  unfold tkL at e
  split at e
  .rename_i x hx
   split at e
   .rename_i ht
    cases e
    exact ⟨x,hx,ht⟩
   .exact yoZ e
  .cases e
theorem yBG {p:Str}(R:RR w rows rest h c s):yej [.loc c.lg,.int (s.hs.getD (sx p) 0%w)] h=some (ysV s w p,h):=by
 rw [yBw R.lg,R.len];rfl
theorem yyG {x:PV}{r p:Str}:yH [x,yT (.take r p)] h=dk (mK 12 "take_own" yce (fun _ h1=>some ([.str r,.str p],h1)) [] x h) [.val x,.val (yT (.take r p))]:=by kernel_rfl!
theorem ynA {r p:Str}{v:Int}(R:RR w rows rest h c s) (hr:r∈SL) (hp:p∈SL) (h8:s.hs.length=8) (hw:1<=w) (ev:ysV s w p=.int v):yce [.loc c.rn,.str r,.str p] h=some (.non,h.set c.hl (.lst ((s.hs.set (sx r) v).map .int))):=by
 obtain ⟨f1,f2,f3,f4,f5,f6,f7⟩:=ycQ R.run
 have o:=yBG (p:=p) R
 rw [ev] at o
 unfold yce
 rw [yo]
 show ob (ybj _ [.val (.loc c.rn),.val (.str r),.val (.str p)] h) fnK=_
 simp_all? only [yef,f3,yB (m:="hold") R.run (by rfl'),yB (m:="own") R.lg.ob (by rfl'),yB (m:="box_at") R.run (by rfl'),yfe R.run R.held h8 hp hw,o,ykG R.run R.held h8 hr]
theorem yyH {p:Str}(R:RR w rows rest h c s) (hp:p∈SL) (h8:s.hs.length=8) (hw:1<=w):ydc [.loc c.rn,.str p] h=some (.bl (isN (ysV s w p)),h):=by
 obtain ⟨f1,f2,f3,f4,f5,f6,f7⟩:=ycQ R.run
 unfold ydc
 rw [yo]
 show ob (yP _ [.val (.loc c.rn),.val (.str p)] h) fnK=_
 simp_all? only [yef,f3,yB (m:="own") R.lg.ob (by rfl'),yB (m:="box_at") R.run (by rfl'),yfe R.run R.held h8 hp hw,yBG R]
theorem yyI {r p:Str}{v:Int}(R:RR w rows rest h c s) (er:rows[s.t]?=some (yT (.take r p))) (hr:r∈SL) (hp:p∈SL) (h8:s.hs.length=8) (hw:1<=w) (ev:ysV s w p=.int v):∃ h',ycA [.loc c.rn] h=some (.non,h')/\RR w rows rest h' c ⟨s.t+1,s.hs.set (sx r) v,s.sd,s.dd,s.sn⟩:=by
 have R1:=R.to (s.t+1)
 refine ⟨_,?_,R1.hold _⟩
 rw [ymc R.run er,yyA]
 show dk (mK 12 "go_plain" yH _ _ (.loc c.rn) _) _=_
 rw [yB R1.run (by rfl')]
 show dk (yH [.loc c.rn,yT (.take r p)] _) _=_
 rw [yyG,yB R1.run (by rfl'),ybF,ynA R1 hr hp h8 hw ev]
 rfl
theorem yyJ (R:RR w rows rest h c s) (er:rows[s.t]?=some (yT r)) (hw:1<=w) (e:ynz w r s=some s'):∃ h' c',ycA [.loc c.rn] h=some (.non,h')/\RR w rows rest h' c' s'/\c'.rn=c.rn:=by
 unfold ynz at e
 split at e
 .rename_i hok
  obtain ⟨k1,ok⟩:=Bool.and_eq_true_iff.mp hok
  obtain ⟨h8,o2,o3,o4,o5⟩:=yhm ok
  have bg:∀ b:Rw,(∀ x h,goB [.val x,.val (yT b)] h=goE [.val x,.val (yT b)] h)->rows[s.t]?=some (yT b)->∃ h' c',ycA [.loc c.rn] h=some (.non,h')/\RR w rows rest h' c' ⟨s.t+1,s.hs,s.sd++[(b,s.hs)],s.dd++[([],[])],s.sn⟩/\c'.rn=c.rn:=fun b hb er=>by
   obtain ⟨h',c',q1,q2,q3⟩:=yBE (r:=b) (R.to (s.t+1)) o3 o2
   exact ⟨h',c',by rw [ymc R.run er,hb,q1],q2,q3⟩
  cases r with
  | let_ a n =>
   cases e
   obtain ⟨h',q1,q2⟩:=yBC R er (by simpa [okR] using k1) h8
   exact ⟨h',c,q1,q2,rfl⟩
  | put p a =>
   cases e
   obtain ⟨k2,k3⟩:p∈SL/\a∈SL:=by simpa [okR] using k1
   obtain ⟨h',q1,q2⟩:=yBD R er k2 k3 hw ok
   exact ⟨h',c,q1,q2,rfl⟩
  | take p a =>
   obtain ⟨k2,k3⟩:p∈SL/\a∈SL:=by simpa [okR] using k1
   dsimp only at e
   split at e
   .rename_i v hv
    cases e
    obtain ⟨h',q1,q2⟩:=yyI R er k2 k3 h8 hw hv
    exact ⟨h',c,q1,q2,rfl⟩
   .cases e
  | jump k =>
   cases e
   obtain ⟨h',q1,q2⟩:=yyD R er (by simpa [okR] using k1)
   exact ⟨h',c,q1,q2,rfl⟩
  | either k=>cases e;exact bg _ (fun _ _=>yse) er
  | guard a b k=>cases e;exact bg _ (fun _ _=>yuY) er
  | settle =>
   dsimp only at e
   split at e
   .cases e
   .rename_i hn
    cases e
    obtain ⟨h',c',q1,q2,q3⟩:=ysi (R.to (s.t+1)) ok hn
    exact ⟨h',c',by rw [ymc R.run er,ysf,q1],q2,q3⟩
  | lay=>cases e
  | wait =>
   dsimp only at e
   unfold yjJ at e
   split at e
   .cases e
   .rename_i L hL
    split at e
    .rename_i x hx
     cases e
     exact yyF R er ok hL hx
    .cases e
  | throw a b =>
   dsimp only at e
   unfold yjJ at e
   split at e
   .cases e
   .rename_i L hL
    split at e
    .rename_i x hx
     cases e
     obtain ⟨y,hy,ht⟩:=yoZ hL
     rw [hx] at hy
     cases hy
     exact yva R er (by simpa [okR] using k1) ok hL hx ht
    .cases e
 .cases e
def yje (w:Int) (s:RS):Rw->Bool
 | .take _ p=>isN (ysV s w p)
 | .wait=>decide (((tkL s.sd .wait s.sd.length:Nat):Int)=0)
 | .throw a b=>decide (((tkL s.sd (.throw a b) s.sd.length:Nat):Int)=0)
 | .lay=>true
 | _=>false
theorem ysj (R:RR w rows rest h c s) (er:rows[s.t]?=some (yT r)) (ok:okS s=true) (okr:okR r=true) (hw:1<=w):ybm [.loc c.rn] h=some (.bl (yje w s r),h):=by
 obtain ⟨h8,o2,o3,o4,o5⟩:=yhm ok
 rw [yyz R.run er]
 have tk:∀ b:Rw,yuT b=true->loB [.val (.loc c.rn),.val (yT b)] h=ob (yP (xOp (oEq) (M2 "taker_layer" ybf) (xC (.int 0))) [.val (.loc c.rn),.val (yT b)] h) (sqK (yP (xOp (oEq) (xOp (yba) (yf 1) (xC (.int 0))) (xC (.str "lay")))))->ob (loB [.val (.loc c.rn),.val (yT b)] h) fnK=some (.bl (decide (((tkL s.sd b s.sd.length:Nat):Int)=0)),h):=fun b hb e=>by
  rw [e]
  show ob (ob (yP (xOp oEq (yh 12 "taker_layer" ybf (yf 0) (yc (yf 1) (yi))) (xC (.int 0))) [.val (.loc c.rn),.val (yT b)] h) _) fnK=_
  simp_all? only [yef,yB (m:="taker_layer") R.run (by rfl'),yoU R.run R.sds (fun x hx=>(o4 x hx).1) hb (by omega)]
 cases r with
 | wait=>exact tk .wait rfl (by kernel_rfl!)
 | throw a b=>exact tk (.throw a b) rfl (by kernel_rfl!)
 | take a p =>
  obtain ⟨k2,k3⟩:a∈SL/\p∈SL:=by simpa [okR] using okr
  have i0:∀ h,yba (yT (.take a p)) (.int 0) h=some (.str "take",h):=fun _=>rfl
  have i2:∀ h,yba (yT (.take a p)) (.int 2) h=some (.str p,h):=fun _=>rfl
  unfold loB
  simp_all? only [yef,i0,i2,yB (m:="sees_at") R.run (by rfl'),yyH R k3 h8 hw]
  rfl
 | _=>kernel_rfl!
end
def stB (m:List (Nat×Int×Int)) (sp:List Int):Bool:=(m.map fun p=>!decide (sp.getD p.1 0=p.2.2)).any id
theorem yBH {f:Nat×Int×Int->PV}:∀ {m:List (Nat×Int×Int)}{p:Nat×Int×Int},(m.map (·.1)).Nodup->p∈m->yms (sK m) (m.map f) (.inl (p.1:Int))=some (f p)
 | q::m,p,nd,hp=>by
  show (if (Sum.inl (q.1:Int):Key)=.inl (p.1:Int) then some (f q) else yms (sK m) (m.map f) (.inl (p.1:Int)))=_
  obtain ⟨n1,n2⟩:=List.nodup_cons.mp nd
  rcases mem_cons.mp hp with rfl|hp
  .rw [if_pos rfl]
  .rw [if_neg (fun z=>n1 ?_)]
   .exact yBH n2 hp
   .have:q.1=p.1:=by have:=Sum.inl.inj z;omega
    show q.1∈m.map (·.1)
    rw [this]
    exact List.mem_map_of_mem hp
theorem ynB {α:Type}(f:α->Bool):∀ l:List α,yhP (l.map fun a=>PV.bl (f a))=some (l.map f)
 | []=>rfl
 | a::l=>by
  show yhP (PV.bl (f a)::l.map fun a=>PV.bl (f a))=some (f a::l.map f)
  unfold yhP
  simp only [ynB f l]
  try rfl
theorem yBI {f:Nat×Int×Int->PV}{k:Nat}{a b:Int}{m:List (Nat×Int×Int)}(hf:f (k,a,b)=v):ycS (sK m) (m.map f) (.inl (k:Int)) v=(sK (ydv m k a b),(ydv m k a b).map f):=by
 have e1:∀ m:List (Nat×Int×Int),yrk (sK m) (.inl (k:Int))=decide (k∈m.map (·.1)):=by
  intro m
  induction m with
  | nil=>rfl
  | cons q m ih =>
   show (if (Sum.inl (q.1:Int):Key)=.inl (k:Int) then true else yrk (sK m) (.inl (k:Int)))=_
   rw [ih]
   by_cases e:q.1=k
   .rw [if_pos (by rw [e])]
    simp [e]
   .rw [if_neg (fun z=>e (by have:=Sum.inl.inj z;omega))]
    simp [Ne.symm e]
 have e2:∀ m:List (Nat×Int×Int),setK (sK m) (m.map f) (.inl (k:Int)) v=(m.map fun p=>if p.1=k then (k,a,b) else p).map f:=by
  intro m
  induction m with
  | nil=>rfl
  | cons q m ih =>
   show (if (Sum.inl (q.1:Int):Key)=.inl (k:Int) then v::setK (sK m) (m.map f) (.inl (k:Int)) v else f q::setK (sK m) (m.map f) (.inl (k:Int)) v)=f (if q.1=k then (k,a,b) else q)::_
   rw [ih]
   by_cases e:q.1=k
   .rw [if_pos (by rw [e]),if_pos e,hf]
   .rw [if_neg (fun z=>e (by have:=Sum.inl.inj z;omega)),if_neg e]
 unfold ycS ydv
 rw [e1]
 by_cases e:k∈m.map (·.1)
 .rw [if_pos (decide_eq_true e),if_pos e,e2]
  refine Prod.ext ?_ rfl
  show sK m=(m.map fun p=>if p.1=k then (k,a,b) else p).map _
  rw [map_map]
  refine List.map_congr_left fun p _=>?_
  show _=(Sum.inl (((if p.1=k then (k,a,b) else p).1:Nat):Int):Key)
  split
  .rename_i e;rw [e]
  .rfl
 .rw [if_neg (by simp [e]),if_neg e,map_append]
  unfold sK
  rw [map_append,<- hf]
  rfl
section
variable {h:AH}{w:Int}{rows:List PV}{rest:List (Nat×Nd)}{c:Lc}{s s':RS}{r:Rw}{sp bx:List Int}{ma nu:Nat}
theorem ypa (R:RR w rows rest h c s) (hm:(ma,.lst (sp.map .int))∈rest) (nd:(s.sn.map (·.1)).Nodup) (hb:∀ p∈s.sn,p.1<sp.length) (hl:s.sn.length<=900):ycv [.loc c.rn,.loc ma] h=some (.bl (stB s.sn sp),h):=by
 obtain ⟨f1,f2,f3,f4,f5,f6,f7⟩:=ycQ R.run
 have e:h[c.sn]?=some (.dct (sK s.sn) (sB s.sn)):=R.at_.get 5 rfl
 have A:=At.upd (a:=[_,_,_,_,_]) (.fz (sK s.sn) (sB s.sn)) R.at_
 have em:(h.set c.sn (.fz (sK s.sn) (sB s.sn)))[ma]?=some (.lst (sp.map .int)):=A.2 (ma,.lst (sp.map .int)) (by simp [hm])
 obtain ⟨g1,g2,g3,g4,g5,g6,g7⟩:=ycQ (A.get 0 rfl)
 have en:(h.set c.sn (.fz (sK s.sn) (sB s.sn)))[c.sn]?=some (.fz (sK s.sn) (sB s.sn)):=A.get 5 rfl
 have back:(h.set c.sn (.fz (sK s.sn) (sB s.sn))).set c.sn (.dct (sK s.sn) (sB s.sn))=h:=by
  rw [List.set_set]
  obtain ⟨l1,l2⟩:=List.getElem?_eq_some_iff.mp e
  rw [<- l2,List.set_getElem_self]
 have cm:yke (xOp (oNe) (xOp (ycs) (yf 1) (yf 0)) (yhV (ybb [12] "seen_stamps" (yf 2)) (yf 0))) (yfw [1,0] [.val (.loc c.rn),.val (.loc ma)]) ((sK s.sn).map ykt) (h.set c.sn (.fz (sK s.sn) (sB s.sn)))=some (s.sn.map (fun p=>.bl (!decide (sp.getD p.1 0=p.2.2))),h.set c.sn (.fz (sK s.sn) (sB s.sn))):=by
  generalize h.set c.sn (.fz (sK s.sn) (sB s.sn))=h1 at *
  show yke _ _ ((s.sn.map fun p=>(.inl (p.1:Int):Key)).map ykt) _=_
  rw [map_map]
  refine ykn _ _ fun p hp=>?_
  show xOp _ _ _ [.val (.int (p.1:Int)),.val (.loc ma),.val (.loc c.rn)] _=_
  have i1:=yeK em (hb p hp)
  have i2:yhV (ybb [12] "seen_stamps" (yf 2)) (yf 0) [.val (.int (p.1:Int)),.val (.loc ma),.val (.loc c.rn)] h1=some (.int p.2.2,h1):=by
   unfold yhV
   simp_all? only [g6]
   unfold yxC
   simp only [en,keyOf]
   unfold sB
   rw [yBH nd hp]
  simp_all? only [i1,i2]
 have an:∀ h,yut [.lst (s.sn.map (fun p=>PV.bl (!decide (sp.getD p.1 0=p.2.2))))] h=some (.bl (stB s.sn sp),h):=fun h=>by
  unfold yut ybL
  simp only [ynB (fun p:Nat×Int×Int=>!decide (sp.getD p.1 0=p.2.2))]
  rfl
 have cd:yjw (ybb [12] "seen_stamps" (yf 0)) [1,0] (xOp (oNe) (xOp (ycs) (yf 1) (yf 0)) (yhV (ybb [12] "seen_stamps" (yf 2)) (yf 0))) [.val (.loc c.rn),.val (.loc ma)] h=some (.lst (s.sn.map (fun p=>.bl (!decide (sp.getD p.1 0=p.2.2)))),h):=by
  unfold yjw
  simp_all? only [f6]
  simp only [e]
  rw [if_pos (by unfold sK;rw [length_map];omega),cm,ybF,back]
 unfold ycv
 rw [yo]
 show ob (yP (xCB yut (yc (xFz (yjw _ _ _)) yi)) [.val (.loc c.rn),.val (.loc ma)] h) fnK=_
 simp_all? only [cd,an]
theorem RR.see (R:RR w rows rest h c s) (k:Nat) (a b:Int):RR w rows rest ((h.set c.sn (.dct (sK (ydv s.sn k a b)) (sB (ydv s.sn k a b)))).set c.ls (.dct (sK (ydv s.sn k a b)) (sA (ydv s.sn k a b)))) c { s with sn:=ydv s.sn k a b }:=by
 have A:=At.upd (a:=[_,_,_,_,_]) (.dct (sK (ydv s.sn k a b)) (sB (ydv s.sn k a b))) R.at_
 exact ⟨At.upd (a:=[_,_,_,_]) (.dct (sK (ydv s.sn k a b)) (sA (ydv s.sn k a b))) A,R.len⟩
theorem yBJ {o st b:Nat}{i:Int}{v:PV}{ks:List Key}{xs:List PV}(e1:h[o]?=some (.ins 11 ["stack","last_seen"] [.loc st,.loc b])) (e2:h[b]?=some (.dct ks xs)) (hl:ks.length<1000):ygo [.loc o,.int i,v] h=some (.non,h.set b (.dct (ycS ks xs (.inl i) v).1 (ycS ks xs (.inl i) v).2)):=by
 unfold ygo
 rw [yo]
 show ob (ykl _ _ _ [.val (.loc o),.val (.int i),.val v] h) fnK=_
 rw [ykF (n:=b) (i:=i) (x:=v) rfl (by rw [ykg,show yf 0 [PVar.val (.loc o),.val (.int i),.val v] h=some (.loc o,h) from rfl,ybF,yrZ e1]) rfl e2 hl]
 rfl
theorem ynC {a p:Str}{k:Nat}(R:RR w rows rest h c s) (er:rows[s.t]?=some (yT (.take a p))) (hm:(ma,.lst (sp.map .int))∈rest) (hn:(nu,.lst (bx.map .int))∈rest) (h8:s.hs.length=8) (ha:a∈SL) (hp:p∈SL) (hw:1<=w) (hk:s.hs.getD (sx p) 0%w=(k:Nat)) (hks:k<sp.length) (hkb:k<bx.length) (hl:s.sn.length<=900) :
  ∃ h',ydd [.loc c.rn,.loc nu,.loc ma] h=some (.int (k:Nat),h')/\RR w rows rest h' c ⟨s.t+1,s.hs.set (sx a) (bx.getD k 0),s.sd,s.dd,ydv s.sn k (bx.getD k 0) (sp.getD k 0)⟩:=by
 have R1:=R.see k (bx.getD k 0) (sp.getD k 0)
 have R2:=R1.hold (s.hs.set (sx a) (bx.getD k 0))
 refine ⟨_,?_,R2.to (s.t+1)⟩
 obtain ⟨f1,f2,f3,f4,f5,f6,f7⟩:=ycQ R.run
 have A0:=At.upd (a:=[_,_,_,_,_]) (.dct (sK (ydv s.sn k (bx.getD k 0) (sp.getD k 0))) (sB (ydv s.sn k (bx.getD k 0) (sp.getD k 0)))) R.at_
 have i1:ycs (.loc ma) (.int (k:Nat)) h=some (.int (sp.getD k 0),h):=yeK (R.at_.2 (ma,.lst (sp.map .int)) (by unfold RM;simp [hm])) hks
 have i2:∀ h,yba (yT (.take a p)) (.int 1) h=some (.str a,h):=fun _=>rfl
 have i3:∀ h,yba (yT (.take a p)) (.int 2) h=some (.str p,h):=fun _=>rfl
 have b1:=yfe R.run R.held h8 hp hw
 rw [hk] at b1
 have lk:(sK s.sn).length<1000:=by unfold sK;rw [length_map];omega
 have d1:=ykF (h:=h) (n:=c.sn) (i:=(k:Nat)) (x:=.int (sp.getD k 0)) (ed:=ybb [12] "seen_stamps" (yf 0)) (ek:=yf 4) (ev:=xOp (ycs) (yf 2) (yf 4)) (ρ:=[.val (.loc c.rn),.val (.loc nu),.val (.loc ma),.val (yT (.take a p)),.val (.int (k:Nat))]) (by simp_all? only [i1]) (by simp_all? only [f6]) rfl (R.at_.get 5 rfl) lk
 rw [show sB s.sn=s.sn.map (fun p=>.int p.2.2) from rfl,yBI (f:=fun p=>.int p.2.2) (a:=bx.getD k 0) (b:=sp.getD k 0) rfl] at d1
 have r1:(h.set c.sn (.dct (sK (ydv s.sn k (bx.getD k 0) (sp.getD k 0))) (sB (ydv s.sn k (bx.getD k 0) (sp.getD k 0)))))[c.rn]?=some (yjI c.hl w c.lg rows s.t c.sn c.sd):=A0.get 0 rfl
 have ts:ycz [.loc c.rn,.str a,.str p,.loc nu] (h.set c.sn (.dct (sK (ydv s.sn k (bx.getD k 0) (sp.getD k 0))) (sB (ydv s.sn k (bx.getD k 0) (sp.getD k 0)))))=some (.non,((h.set c.sn (.dct (sK (ydv s.sn k (bx.getD k 0) (sp.getD k 0))) (sB (ydv s.sn k (bx.getD k 0) (sp.getD k 0))))).set c.ls (.dct (sK (ydv s.sn k (bx.getD k 0) (sp.getD k 0))) (sA (ydv s.sn k (bx.getD k 0) (sp.getD k 0))))).set c.hl (.lst ((s.hs.set (sx a) (bx.getD k 0)).map .int))):=by
  have b2:=yfe (r:=p) (A0.get 0 rfl) (A0.get 1 rfl) h8 hp hw
  rw [hk] at b2
  have g1:=(ycQ (A0.get 0 rfl)).2.2.1
  have s1:=yBJ (i:=(k:Nat)) (v:=.int (bx.getD k 0)) (A0.get 2 rfl) (A0.get 4 rfl) lk
  rw [show sA s.sn=s.sn.map (fun p=>.int p.2.1) from rfl,yBI (f:=fun p=>.int p.2.1) (a:=bx.getD k 0) (b:=sp.getD k 0) rfl] at s1
  have j1:=yeK (A0.2 (nu,.lst (bx.map .int)) (by simp [hn])) hkb
  have j2:=yeK (R1.at_.2 (nu,.lst (bx.map .int)) (by unfold RM;simp [hn])) hkb
  have lo:=A0.get 2 rfl
  have hd:=ykG (v:=bx.getD k 0) R1.run R1.held h8 ha
  have r2:=R1.run
  dsimp only at hd r2
  change _=some (PV.non,(h.set c.sn _).set c.ls (.dct (sK (ydv s.sn k (bx.getD k 0) (sp.getD k 0))) (sA (ydv s.sn k (bx.getD k 0) (sp.getD k 0))))) at s1
  generalize (h.set c.sn (.dct (sK (ydv s.sn k (bx.getD k 0) (sp.getD k 0))) (sB (ydv s.sn k (bx.getD k 0) (sp.getD k 0)))))=h1 at *
  generalize (h1.set c.ls (.dct (sK (ydv s.sn k (bx.getD k 0) (sp.getD k 0))) (sA (ydv s.sn k (bx.getD k 0) (sp.getD k 0)))))=h2 at *
  unfold ycz
  rw [yo]
  show ob (yl _ _ [.val (.loc c.rn),.val (.str a),.val (.str p),.val (.loc nu),.no] h1) fnK=_
  simp_all? only [yef,yB (m:="box_at") r1 (by rfl'),b2,g1,yB (m:="see") lo (by rfl'),j1,s1,yB (m:="hold") r2 (by rfl'),j2,hd]
 have rr:=R2.run
 have f5':=(ycQ R2.run).2.2.2.2.1
 have sa:=fun ρ=>yoV (j:=((s.t+1:Nat):Int)) (ρ:=ρ) R2.run
 have z:((s.t:Nat):Int)+1=((s.t+1:Nat):Int):=by omega
 dsimp only at f5' sa rr
 change _=some (Out.nx _,h.set c.sn (.dct (sK (ydv s.sn k (bx.getD k 0) (sp.getD k 0))) (sB (ydv s.sn k (bx.getD k 0) (sp.getD k 0))))) at d1
 generalize (h.set c.sn (.dct (sK (ydv s.sn k (bx.getD k 0) (sp.getD k 0))) (sB (ydv s.sn k (bx.getD k 0) (sp.getD k 0)))))=h1 at *
 generalize ((h1.set c.ls (.dct (sK (ydv s.sn k (bx.getD k 0) (sp.getD k 0))) (sA (ydv s.sn k (bx.getD k 0) (sp.getD k 0))))).set c.hl (.lst ((s.hs.set (sx a) (bx.getD k 0)).map .int)))=h2 at *
 unfold ydd
 rw [yo]
 show ob (yl _ _ [.val (.loc c.rn),.val (.loc nu),.val (.loc ma),.no,.no] h) fnK=_
 simp_all? only [yef,yB (m:="row") R.run (by rfl'),yiy R.run rfl er,i2,i3,yB (m:="box_at") R.run (by rfl'),b1,d1,yB (m:="take_seen") r1 (by rfl'),ts,ysU,f5',z,sa]
end
structure HC where
 H:Nat
 nu:Nat
 ma:Nat
 cr:Nat
 en:Nat
structure HQ where
 bx:List Int
 sp:List Int
 en:List PV
 cw:List Nat
 i:Nat
 hd:Nat
 ds:List PV
 nth:Nat
 sl:Bool
 bf:List Int
def HL (g:HC) (rn:Nat) (w:Int) (q:HQ) (own:List (Nat×Nd)):List (Nat×Nd) :=
 (g.H,yjd g.nu g.ma g.cr g.en)::(g.nu,.lst (q.bx.map .int))::(g.ma,.lst (q.sp.map .int))::(g.cr,.lst (q.cw.map .loc))::(g.en,.lst q.en)::(q.hd,ydl q.ds w q.nth q.sl q.bf rn)::own
structure NF (W:Nat) (s:RS):Prop where
 nd:(s.sn.map (·.1)).Nodup
 hb:∀ p∈s.sn,p.1<W
 hl:s.sn.length<=900
def stN (q:HQ):Str:=if q.nth=q.ds.length then "ended" else if q.sl=true then "asleep" else "awake"
section
variable {h:AH}{w:Int}{rows:List PV}{c:Lc}{s s':RS}{r:Rw}{g:HC}{q:HQ}{own:List (Nat×Nd)}{rn:Nat}
theorem RR.rest {m:List (Nat×Nd)}(R:RR w rows m h c s):At h m:=by
 have A:=R.at_
 unfold RM at A
 exact (At.sub A (List.sublist_append_right (_::_::_::_::_::_::_::lay c.ly s.dd) m))
theorem ynD (A:At h (HL g rn w q own)) (hi:q.cw[q.i]?=some q.hd):ycs (.loc g.cr) (.int (q.i:Nat)) h=some (.loc q.hd,h):=by
 have e:h[g.cr]?=some (.lst (q.cw.map .loc)):=A.get 3 rfl
 unfold ycs
 simp only [e]
 rw [ydn (show (q.cw.map PV.loc)[q.i]?=some (.loc q.hd) by rw [getElem?_map,hi];rfl)]
theorem yfu (A:At h (HL g rn w q own)) (hi:q.cw[q.i]?=some q.hd):ybh [.loc g.H,.int (q.i:Nat)] h=some (.loc q.hd,h):=by
 obtain ⟨f1,f2,f3,f4⟩:=ydI (A.get 0 rfl)
 have e:h[g.cr]?=some (.lst (q.cw.map .loc)):=A.get 3 rfl
 have i1:yek [.int (q.i:Nat)] h=some (.bl true,h):=by kernel_rfl!
 have i2:=ynD A hi
 have lt:=(List.getElem?_eq_some_iff.mp hi).1
 have l1:((0:Int)<=(q.i:Nat))=True:=eq_true (by omega)
 have l2:(((q.i:Nat):Int)<((q.cw.map PV.loc).length:Nat))=True:=eq_true (by rw [length_map];omega)
 unfold ybh
 rw [yo]
 show ob (yl _ _ [.val (.loc g.H),.val (.int (q.i:Nat))] h) fnK=_
 simp_all? only [f3,yeU e,i1,i2,l1,l2]
theorem ygz (A:At h (HL g rn w q own)):ycg [.loc q.hd] h=some (.str (stN q),h):=by
 obtain ⟨f1,f2,f3,f4,f5,f6⟩:=ydu (A.get 5 rfl)
 unfold ycg stN
 rw [yo]
 show ob (yl _ _ [.val (.loc q.hd)] h) fnK=_
 by_cases e:q.nth=q.ds.length
 .have e':((q.nth:Nat):Int)=(q.ds.length:Nat):=by omega
  rw [if_pos e]
  simp_all? only [f3,f1,e']
 .have e':(((q.nth:Nat):Int)=(q.ds.length:Nat))=False:=eq_false (by omega)
  rw [if_neg e]
  simp_all? only [f3,f1,f4,e']
  cases q.sl<;>rfl
theorem awake (hn:q.nth<q.ds.length) (hs:q.sl=false):stN q = "awake":=by
 unfold stN
 rw [if_neg (by omega),hs]
 rfl
theorem ysk (A:At h (HL g rn w q own)) (hi:q.cw[q.i]?=some q.hd) (hs:(stN q = "awake")=False):yA [.loc g.H,.int (q.i:Nat)] h=some (.tup [.str "idle"],h):=by
 unfold yA
 rw [yo]
 show ob (yl _ _ [.val (.loc g.H),.val (.int (q.i:Nat)),.no,.no] h) fnK=_
 simp_all? only [yef,yB (m:="hand_at") (A.get 0 rfl) (by rfl'),yfu A hi,yB (m:="state") (A.get 5 rfl) (by rfl'),ygz A,hs]
theorem ysl (R:RR w rows (HL g c.rn w q own) h c s) (hi:q.cw[q.i]?=some q.hd) (er:rows[s.t]?=some (yT r)) (hw:1<=w) (hn:q.nth<q.ds.length) (hs:q.sl=false) (ok:okS s=true) (okr:okR r=true) (hlk:yje w s r=false) (e:ynz w r s=some s') :
  ∃ h' c',yA [.loc g.H,.int (q.i:Nat)] h=some (.tup [.str "gone",.int s.t],h')/\RR w rows (HL g c'.rn w q own) h' c' s':=by
 obtain ⟨h',c',q1,q2,q3⟩:=yyJ R er hw e
 refine ⟨h',c',?_,by rw [q3];exact q2⟩
 have A:=R.rest
 obtain ⟨f1,f2,f3,f4,f5,f6⟩:=ydu (A.get 5 rfl)
 obtain ⟨k1,k2,k3,k4,k5,k6,k7⟩:=ycQ R.run
 have st:=ygz A
 rw [awake hn hs] at st
 have lk:=ysj R er ok okr hw
 rw [hlk] at lk
 unfold yA
 rw [yo]
 show ob (yl _ _ [.val (.loc g.H),.val (.int (q.i:Nat)),.no,.no] h) fnK=_
 simp_all? only [yef,yB (m:="hand_at") (A.get 0 rfl) (by rfl'),yfu A hi,yB (m:="state") (A.get 5 rfl) (by rfl'),st,f6,k5,yB (m:="is_looked_over") R.run (by rfl'),lk,yB (m:="go") R.run (by rfl'),q1]
theorem ygA (R:RR w rows (HL g c.rn w q own) h c s) (hi:q.cw[q.i]?=some q.hd) (er:rows[s.t]?=some (yT r)) (hw:1<=w) (hn:q.nth<q.ds.length) (hs:q.sl=false) (ok:okS s=true) (okr:okR r=true) (hlk:yje w s r=true) (F:NF q.sp.length s) (fr:stB s.sn q.sp=false):yA [.loc g.H,.int (q.i:Nat)] h=ob (yK [.loc g.H,.int (q.i:Nat),.int s.t] h) (fun x h=>some (x,h)):=by
 have A:=R.rest
 obtain ⟨f1,f2,f3,f4,f5,f6⟩:=ydu (A.get 5 rfl)
 obtain ⟨g1,g2,g3,g4⟩:=ydI (A.get 0 rfl)
 obtain ⟨k1,k2,k3,k4,k5,k6,k7⟩:=ycQ R.run
 have st:=ygz A
 rw [awake hn hs] at st
 have lk:=ysj R er ok okr hw
 rw [hlk] at lk
 have sl:=ypa (ma:=g.ma) (sp:=q.sp) R (mem_of_getElem? (i:=2) rfl) F.nd F.hb F.hl
 rw [fr] at sl
 unfold yA
 rw [yo]
 show ob (yl _ _ [.val (.loc g.H),.val (.int (q.i:Nat)),.no,.no] h) fnK=_
 simp_all? only [yef,yB (m:="hand_at") (A.get 0 rfl) (by rfl'),yfu A hi,yB (m:="state") (A.get 5 rfl) (by rfl'),st,f6,k5,yB (m:="is_looked_over") R.run (by rfl'),lk,g2,yB (m:="is_stale") R.run (by rfl'),sl,yB (m:="looked_over_told") (A.get 0 rfl) (by rfl')]
theorem ysm {a p:Str}{k:Nat}(R:RR w rows (HL g c.rn w q own) h c s) (hi:q.cw[q.i]?=some q.hd) (er:rows[s.t]?=some (yT (.take a p))) (hw:1<=w) (hn:q.nth<q.ds.length) (hs:q.sl=false) (ok:okS s=true) (okr:okR (.take a p)=true) (hlk:isN (ysV s w p)=true) (F:NF q.sp.length s) (fr:stB s.sn q.sp=false) (hk:s.hs.getD (sx p) 0%w=(k:Nat)) (hkb:k<q.bx.length) (hbs:q.sp.length=q.bx.length) :
  ∃ h',yA [.loc g.H,.int (q.i:Nat)] h=some (.tup [.str "seen",.int s.t,.int (k:Nat),.int (q.bx.getD k 0)],h')/\RR w rows (HL g c.rn w q own) h' c ⟨s.t+1,s.hs.set (sx a) (q.bx.getD k 0),s.sd,s.dd,ydv s.sn k (q.bx.getD k 0) (q.sp.getD k 0)⟩:=by
 obtain ⟨h8,o2,o3,o4,o5⟩:=yhm ok
 obtain ⟨k2,k3⟩:a∈SL/\p∈SL:=by simpa [okR] using okr
 obtain ⟨h',q1,R'⟩:=ynC (ma:=g.ma) (nu:=g.nu) (sp:=q.sp) (bx:=q.bx) R er (mem_of_getElem? (i:=2) rfl) (mem_of_getElem? (i:=1) rfl) h8 k2 k3 hw hk (by omega) hkb F.hl
 refine ⟨h',?_,R'⟩
 rw [ygA R hi er hw hn hs ok okr hlk F fr]
 have A:=R.rest
 have A':=R'.rest
 obtain ⟨f1,f2,f3,f4,f5,f6⟩:=ydu (A.get 5 rfl)
 obtain ⟨g1,g2,g3,g4⟩:=ydI (A.get 0 rfl)
 have g1':=(ydI (A'.get 0 rfl)).1
 have i2:=ynD A hi
 have i4:∀ h,yba (yT (.take a p)) (.int 0) h=some (.str "take",h):=fun _=>rfl
 have i5:=yeK (A'.get 1 rfl) hkb
 unfold yK
 rw [yo]
 show ob (ob (yl _ _ [.val (.loc g.H),.val (.int (q.i:Nat)),.val (.int s.t),.no,.no,.no] h) fnK) _=_
 simp_all? only [yef,g1,g2,g3,i2,f6,yB (m:="row") R.run (by rfl'),yiy R.run rfl er,i4,yB (m:="see_next") R.run (by rfl'),q1,g1',i5]
theorem ysn {n:Nat}{ds:List PV}{w nth:Int}{sl v:Bool}{bf:List Int}{rn:Nat}{ρ:PSt}(e:h[n]?=some (ydl ds w nth sl bf rn)):fL [14] "sleeps" ρ (.bl v) (.loc n) h=some (.nx ρ,h.set n (ydl ds w nth v bf rn)):=yfA e (by decide) (by kernel_rfl!)
theorem RR.sub {m m':List (Nat×Nd)}(R:RR w rows m h c s) (u:m'.Sublist m):RR w rows m' h c s:=by
 refine ⟨?_,R.len⟩
 have A:=R.at_
 unfold RM at A ⊢
 exact A.sub ((((((((List.Sublist.refl _).append u).cons₂ _).cons₂ _).cons₂ _).cons₂ _).cons₂ _).cons₂ _ |>.cons₂ _)
theorem RR.urest {a b:List (Nat×Nd)}{n:Nat}{d:Nd}(d':Nd) (R:RR w rows (a++(n,d)::b) h c s):RR w rows (a++(n,d')::b) (h.set n d') c s:=by
 refine ⟨?_,R.len⟩
 have A:=R.at_
 unfold RM at A ⊢
 rw [<- append_assoc] at A ⊢
 exact At.upd (a:=_::_::_::_::_::_::_::(lay c.ly s.dd++a)) d' A
theorem ypK (R:RR w rows (HL g c.rn w q own) h c s) (hi:q.cw[q.i]?=some q.hd) (er:rows[s.t]?=some (yT .wait)) (hw:1<=w) (hn:q.nth<q.ds.length) (hs:q.sl=false) (ok:okS s=true) (hlk:yje w s .wait=true) (F:NF q.sp.length s) (fr:stB s.sn q.sp=false) :
  ∃ h',yA [.loc g.H,.int (q.i:Nat)] h=some (.tup [.str "asleep",.int s.t],h')/\RR w rows (HL g c.rn w { q with sl:=true } own) h' c s:=by
 have A:=R.rest
 refine ⟨h.set q.hd (ydl q.ds w q.nth true q.bf c.rn),?_,RR.urest (a:=[_,_,_,_,_]) _ R⟩
 rw [ygA R hi er hw hn hs ok rfl hlk F fr]
 obtain ⟨f1,f2,f3,f4,f5,f6⟩:=ydu (A.get 5 rfl)
 obtain ⟨g1,g2,g3,g4⟩:=ydI (A.get 0 rfl)
 have i2:=ynD A hi
 have i4:∀ h,yba (yT .wait) (.int 0) h=some (.str "wait",h):=fun _=>rfl
 have fa:ybX [.loc q.hd] h=some (.non,h.set q.hd (ydl q.ds w q.nth true q.bf c.rn)):=by
  have s1:=fun ρ=>ysn (ρ:=ρ) (v:=true) (A.get 5 rfl)
  unfold ybX
  rw [yo]
  show ob (ycT _ _ _ _ [.val (.loc q.hd)] h) fnK=_
  simp_all? only [ysU,s1]
 unfold yK
 rw [yo]
 show ob (ob (yl _ _ [.val (.loc g.H),.val (.int (q.i:Nat)),.val (.int s.t),.no,.no,.no] h) fnK) _=_
 simp_all? only [yef,g3,i2,f6,yB (m:="row") R.run (by rfl'),yiy R.run rfl er,i4,yfU,yB (m:="fall_asleep") (A.get 5 rfl) (by rfl'),fa]
end
section
variable {h:AH}{w:Int}{rows rows':List PV}{c:Lc}{s s':RS}{r:Rw}{g:HC}{q:HQ}{own:List (Nat×Nd)}{rn:Nat}
def hp1 (h:AH) (bf:List Int):AH:=h++[Nd.lst (bf.map .int)]
def hp2 (h:AH) (bf:List Int):AH:=hp1 h bf++[Nd.dct [] []]
def hp3 (h:AH) (bf:List Int):AH:=hp2 h bf++[Nd.lst [.loc (hp1 h bf).length]]
def hp4 (h:AH) (bf:List Int):AH:=hp3 h bf++[Nd.dct [] []]
noncomputable def hp5 (h:AH) (bf:List Int):AH:=hp4 h bf++[Nd.ins 11 ["stack","last_seen"] [.loc (hp2 h bf).length,.loc (hp3 h bf).length]]
def hp6 (h:AH) (bf:List Int):AH:=hp5 h bf++[Nd.dct [] []]
def hp7 (h:AH) (bf:List Int):AH:=hp6 h bf++[Nd.lst []]
theorem yvb {bf:List Int}:∃ h' c',ob (yea [.lst rows,.lst (bf.map .int),.int w] h) (fun d h1=>some (PV.loc h1.length,h1++[d]))=some (.loc c'.rn,h')/\∀ m,At h m->RR w rows m h' c' (S0 bf):=by
 refine ⟨_,⟨(hp7 h bf).length,h.length,(hp4 h bf).length,(hp2 h bf).length,(hp3 h bf).length,(hp5 h bf).length,(hp6 h bf).length,[(hp1 h bf).length]⟩,rfl,fun m A=>⟨?_,rfl⟩⟩
 have A2:=At.new (.dct [] []) (a:=[_]) (At.new (.lst (bf.map .int)) (a:=[]) A)
 have A4:=At.new (.dct [] []) (a:=[_,_]) (At.new (.lst [.loc (hp1 h bf).length]) (a:=[_]) A2)
 have A5:=At.new (.ins 11 ["stack","last_seen"] [.loc (hp2 h bf).length,.loc (hp3 h bf).length]) (a:=[_]) A4
 exact At.new _ (a:=[]) (At.new (.lst []) (a:=[_,_,_,_,_]) (At.new (.dct [] []) (a:=[_,_,_,_]) A5))
theorem yvc {n:Nat}{ds:List PV}{w nth v:Int}{sl:Bool}{bf:List Int}{rn:Nat}{ρ:PSt}(e:h[n]?=some (ydl ds w nth sl bf rn)):fL [14] "nth" ρ (.int v) (.loc n) h=some (.nx ρ,h.set n (ydl ds w v sl bf rn)):=yfA e (by decide) (by kernel_rfl!)
theorem yyK {n:Nat}{ds:List PV}{w nth:Int}{sl:Bool}{bf v:List Int}{rn:Nat}{ρ:PSt}(e:h[n]?=some (ydl ds w nth sl bf rn)):fL [14] "before" ρ (.lst (v.map .int)) (.loc n) h=some (.nx ρ,h.set n (ydl ds w nth sl v rn)):=yfA e (by decide) (by kernel_rfl!)
theorem yso {n:Nat}{ds:List PV}{w nth:Int}{sl:Bool}{bf:List Int}{rn v:Nat}{ρ:PSt}(e:h[n]?=some (ydl ds w nth sl bf rn)):fL [14] "run" ρ (.loc v) (.loc n) h=some (.nx ρ,h.set n (ydl ds w nth sl bf v)):=yfA e (by decide) (by kernel_rfl!)
def Due (ds:List PV) (nth:Nat) (rows:List PV):Prop:=nth<ds.length/\ds[nth]?=some (.lst rows)\/nth=ds.length/\rows=[]
theorem yhc {n:Nat}{ds:List PV}{nth:Nat}{bf:List Int}(f1:yet [14] "deeds" (.loc n) h=some (.lst ds,h)) (f2:yet [12,14] "width" (.loc n) h=some (.int w,h)) (f3:yet [14] "nth" (.loc n) h=some (.int nth,h)) (f5:yet [14] "before" (.loc n) h=some (.lst (bf.map .int),h)) (hr:Due ds nth rows):∃ h' c',ybT [.loc n] h=some (.loc c'.rn,h')/\∀ m,At h m->RR w rows m h' c' (S0 bf):=by
 obtain ⟨h',c',q1,q2⟩:=yvb (h:=h) (w:=w) (rows:=rows) (bf:=bf)
 refine ⟨h',c',?_,q2⟩
 unfold ybT
 rw [yo]
 show ob (yl _ _ [.val (.loc n),.no] h) fnK=_
 rcases hr with ⟨h1,h2⟩|⟨h1,h2⟩
 .have e1:(((nth:Nat):Int)<(ds.length:Nat))=True:=eq_true (by omega)
  have e2:ycs (.lst ds) (.int (nth:Nat)) h=some (.lst rows,h):=by unfold ycs;simp only [ydn h2]
  simp_all? only [f3,f1,f5,f2,e1,e2,q1]
 .have e1:(((nth:Nat):Int)<(ds.length:Nat))=False:=eq_false (by omega)
  subst h2
  simp_all? only [f3,f1,f5,f2,e1,q1]
theorem yvd {v:PV}{bf:List Int}(A:At h (HL g rn w q own)) (hb:∀ h1,At h1 (HL g rn w { q with nth:=q.nth+1 } own)->yV [v] h1=some (.lst (bf.map .int),h1)) (hr:Due q.ds (q.nth+1) rows) :
  ∃ h' c',ydT [.loc q.hd,v] h=some (.non,h')/\RR w rows (HL g c'.rn w { q with nth:=q.nth+1,bf:=bf } own) h' c' (S0 bf):=by
 obtain ⟨f1,f2,f3,f4,f5,f6⟩:=ydu (A.get 5 rfl)
 have A1:At (h.set q.hd (ydl q.ds w (q.nth+1:Nat) q.sl q.bf rn)) (HL g rn w { q with nth:=q.nth+1 } own):=At.upd (a:=[_,_,_,_,_]) _ A
 have A2:At ((h.set q.hd (ydl q.ds w (q.nth+1:Nat) q.sl q.bf rn)).set q.hd (ydl q.ds w (q.nth+1:Nat) q.sl bf rn)) (HL g rn w { q with nth:=q.nth+1,bf:=bf } own):=At.upd (a:=[_,_,_,_,_]) _ A1
 have s1:=fun ρ=>yvc (ρ:=ρ) (v:=((q.nth+1:Nat):Int)) (A.get 5 rfl)
 have s2:=fun ρ=>yyK (ρ:=ρ) (v:=bf) (A1.get 5 rfl)
 have b1:=hb _ A1
 obtain ⟨a1,a2,a3,a4,a5,a6⟩:=ydu (A2.get 5 rfl)
 obtain ⟨h',c',q1,q2⟩:=yhc a1 a2 a3 a5 hr
 have R:=q2 _ A2
 have B:=R.rest
 have s3:=fun ρ=>yso (ρ:=ρ) (v:=c'.rn) (B.get 5 rfl)
 refine ⟨h'.set q.hd (ydl q.ds w (q.nth+1:Nat) q.sl bf c'.rn),c',?_,RR.urest (a:=[_,_,_,_,_]) _ R⟩
 have z:((q.nth:Nat):Int)+1=((q.nth+1:Nat):Int):=by omega
 unfold ydT
 rw [yo]
 show ob (yl _ _ [.val (.loc q.hd),.val v] h) fnK=_
 simp_all? only [ysU,yef,f3,z,s1,s2,b1,yB (m:="new_run") (A2.get 5 rfl) (by rfl'),q1,s3]
def EX (c:Lc) (w:Int) (rows:List PV) (s:RS):List (Nat×Nd):=RM w rows c s []
theorem yiA {m:List (Nat×Nd)}:RM w rows c s m=EX c w rows s++m:=by
 unfold EX RM
 simp
theorem RR.hl (R:RR w rows (HL g c.rn w q own) h c s):At h (HL g c.rn w q (EX c w rows s++own)):=by
 have A:=R.at_
 rw [yiA] at A
 exact A.perm (show (HL g c.rn w q []++(EX c w rows s++own)).Perm _ from List.perm_append_comm_assoc _ _ _)
theorem ywl {L:List PV}{b st:Nat}{m:List (Nat×Int×Int)}(e1:h[b]?=some (.ins 11 ["stack","last_seen"] [.loc st,.loc rn])) (e2:h[rn]?=some (.dct (sK m) (sA m))) (hs:sortI (sK m) (sA m)=some L):yeX [.loc b] h=some (.lst L,h):=by
 have e1:=yrZ e1
 unfold yeX
 rw [yo,yrg,yCq]
 unfold yju
 rw [ykg,show yf 0 ([PV.loc b].map .val++replicate (1-[PV.loc b].length) .no) h=some (.loc b,h) from rfl,ybF,e1,ybF]
 unfold ylM
 simp only [e2,hs]
 rfl
noncomputable def yyL (q:HQ) (en:PV) (L laid:List PV) (bf:List Int):PV:=.tup [.int (q.i:Nat),.int (q.nth:Nat),en,.lst L,.lst laid,.lst (bf.map .int)]
theorem yiB {en v:PV}{L laid:List PV}{bf:List Int}(A:At h (HL g c.rn w q (EX c w rows s++own))) (hi:q.cw[q.i]?=some q.hd) (hs:sortI (sK s.sn) (sA s.sn)=some L) (hb:∀ h1 q',At h1 (HL g c.rn w q' (EX c w rows s++own))->yV [v] h1=some (.lst (bf.map .int),h1)) (hr:Due q.ds (q.nth+1) rows') (hl:q.en.length<1000) :
  ∃ h' c',yck [.loc g.H,.int (q.i:Nat),en,.lst laid,v] h=some (.non,h')/\RR w rows' (HL g c'.rn w { q with en:=q.en++[yyL q en L laid bf],nth:=q.nth+1,bf:=bf } own) h' c' (S0 bf):=by
 obtain ⟨f1,f2,f3,f4⟩:=ydI (A.get 0 rfl)
 obtain ⟨k1,k2,k3,k4,k5,k6⟩:=ydu (A.get 5 rfl)
 obtain ⟨r1,r2,r3,r4,r5,r6,r7⟩:=ycQ (A.get 6 rfl)
 have i2:=ynD A hi
 have een:h[g.en]?=some (.lst q.en):=A.get 4 rfl
 have A1:At (h.set g.en (.lst (q.en++[yyL q en L laid bf]))) (HL g c.rn w { q with en:=q.en++[yyL q en L laid bf] } (EX c w rows s++own)):=At.upd (a:=[_,_,_,_]) _ A
 obtain ⟨h',c',q1,q2⟩:=yvd (v:=v) (bf:=bf) A1 (fun h1 a=>hb h1 _ a) hr
 refine ⟨h',c',?_,q2.sub ((((((List.sublist_append_right _ _).cons₂ _).cons₂ _).cons₂ _).cons₂ _).cons₂ _ |>.cons₂ _)⟩
 have ea:yhS (.loc g.en) [.tup [.int (q.i:Nat),.int (q.nth:Nat),en,.lst L,.lst laid,.lst (bf.map .int)]] h=some (.non,h.set g.en (.lst (q.en++[yyL q en L laid bf]))):=yhW een (by omega)
 have b1:=hb _ _ A
 have sw:=ywl (A.get 8 rfl) (A.get 10 rfl) hs
 unfold yck
 rw [yo]
 show ob (yl _ _ [.val (.loc g.H),.val (.int (q.i:Nat)),.val en,.val (.lst laid),.val v,.no] h) fnK=_
 simp_all? only [yef,f3,i2,f4,ycJ een,k3,k6,r3,yB (m:="saw") (A.get 8 rfl) (by rfl'),sw,b1,ea,yB (m:="go_on") (A1.get 5 rfl) (by rfl'),q1]
theorem ypL:(("lay":Str) = "take")=False:=eq_false (by rfl')
theorem ypM:(("lay":Str) = "wait")=False:=eq_false (by rfl')
theorem ynE:(("lay":Str) = "throw")=False:=eq_false (by rfl')
theorem ysp {L:List PV}{a b:Str}(R:RR w rows (HL g c.rn w q own) h c s) (hi:q.cw[q.i]?=some q.hd) (er:rows[s.t]?=some (yT (.throw a b))) (hw:1<=w) (hn:q.nth<q.ds.length) (hs:q.sl=false) (ok:okS s=true) (okr:okR (.throw a b)=true) (hlk:yje w s (.throw a b)=true) (F:NF q.sp.length s) (fr:stB s.sn q.sp=false) (hL:sortI (sK s.sn) (sA s.sn)=some L) (hr:Due q.ds (q.nth+1) rows') (hl:q.en.length<1000) :
  ∃ h' c',yA [.loc g.H,.int (q.i:Nat)] h=some (.tup [.str "fell",.int s.t],h')/\RR w rows' (HL g c'.rn w { q with en:=q.en++[yyL q (.tup [.str "fell",.str a,.int (s.hs.getD (sx b) 0)]) L [] q.bf],nth:=q.nth+1 } own) h' c' (S0 q.bf):=by
 obtain ⟨h8,o2,o3,o4,o5⟩:=yhm ok
 have A:=R.hl
 have hb:b∈SL:=by simpa [okR] using okr
 obtain ⟨h',c',q1,q2⟩:=yiB (en:=.tup [.str "fell",.str a,.int (s.hs.getD (sx b) 0)]) (v:=.lst (q.bf.map .int)) (laid:=[]) (bf:=q.bf) A hi hL (fun h1 _ _=>rfl) hr hl
 refine ⟨h',c',?_,q2⟩
 rw [ygA R hi er hw hn hs ok okr hlk F fr]
 obtain ⟨f1,f2,f3,f4,f5,f6⟩:=ydu (A.get 5 rfl)
 obtain ⟨g1,g2,g3,g4⟩:=ydI (A.get 0 rfl)
 have i2:=ynD A hi
 have i3:=yft R.run R.held h8 hb
 have i4:∀ h,yba (yT (.throw a b)) (.int 0) h=some (.str "throw",h):=fun _=>rfl
 have i5:∀ h,yba (yT (.throw a b)) (.int 1) h=some (.str a,h):=fun _=>rfl
 have i6:∀ h,yba (yT (.throw a b)) (.int 2) h=some (.str b,h):=fun _=>rfl
 unfold yK
 rw [yo]
 show ob (ob (yl _ _ [.val (.loc g.H),.val (.int (q.i:Nat)),.val (.int s.t),.no,.no,.no] h) fnK) _=_
 simp_all? only [yef,g3,i2,f6,yB (m:="row") R.run (by rfl'),yiy R.run rfl er,i4,i5,i6,yfc,ydV,yB (m:="held_in") R.run (by rfl'),i3,f5,yB (m:="end_deed") (A.get 0 rfl) (by rfl'),q1]
end
def ydm (p:Nat×Int):PV:=.tup [.int (p.1:Nat),.int p.2]
def yBK:List Int->List (Nat×Int)->List Int
 | bx,[]=>bx
 | bx,p::r=>yBK (bx.set p.1 p.2) r
def ysW:List Int->List (Nat×Int)->List Int
 | sp,[]=>sp
 | sp,p::r=>ysW (sp.set p.1 (sp.getD p.1 0+1)) r
theorem ypb:∀ (l:List (Nat×Int)) (bx:List Int),(ysW bx l).length=bx.length
 | [],_=>rfl
 | p::r,bx=>by show (ysW (bx.set p.1 (bx.getD p.1 0+1)) r).length=_;rw [ypb r,length_set]
section
variable {h:AH}{w:Int}{rows rows':List PV}{c:Lc}{s s':RS}{r:Rw}{g:HC}{q:HQ}{own:List (Nat×Nd)}{rn:Nat}
theorem ykH {n:Nat}{xs:List Int}{k:Nat}{v:Int}{eo ei ev:XE}{ρ:PSt}(e1:ev ρ h=some (.int v,h)) (e2:eo ρ h=some (.loc n,h)) (e3:ei ρ h=some (.int (k:Nat),h)) (e:h[n]?=some (.lst (xs.map .int))) (hk:k<xs.length):yhT eo ei ev ρ h=some (.nx ρ,h.set n (.lst ((xs.set k v).map .int))):=by
 have e':ixN (xs.map PV.int).length (k:Nat)=some k:=by
  unfold ixN
  simp [hk]
 unfold yhT
 rw [e1,ybF,e2,ybF,e3,ybF]
 simp only [e,e']
 rw [map_set]
theorem ypN {G:XG}{S:XS}{x:PV}{xs:List PV}{ρ ρ1 ρ2:PSt}{h1:AH}(e1:G x ρ=some ρ1) (e2:S ρ1 h=some (.nx ρ2,h1)):ygh G S (x::xs) ρ h=ygh G S xs ρ2 h1:=by
 show (G x ρ).bind _=_
 rw [e1,bind_some,e2]
 rfl
theorem ypc {v1 v2 v3:PVar}:∀ (l:List (Nat×Int)) (q:HQ) (h:AH) (v4 v5:PVar),At h (HL g rn w q own)->(∀ p∈l,p.1<q.bx.length)->q.sp.length=q.bx.length ->
  ∃ h' v4' v5',ygh (yq 4) ldB (l.map ydm) [.val (.loc g.H),v1,v2,v3,v4,v5] h=some (.nx [.val (.loc g.H),v1,v2,v3,v4',v5'],h')/\At h' (HL g rn w { q with bx:=yBK q.bx l,sp:=ysW q.sp l } own)
 | [],q,h,v4,v5,A,_,_=>⟨h,v4,v5,rfl,A⟩
 | p::l,q,h,v4,v5,A,hb,hs=>by
  have hp:=hb p mem_cons_self
  obtain ⟨g1,g2,g3,g4⟩:=ydI (A.get 0 rfl)
  have A1:At (h.set g.nu (.lst ((q.bx.set p.1 p.2).map .int))) (HL g rn w { q with bx:=q.bx.set p.1 p.2 } own):=At.upd (a:=[_]) _ A
  have A2:At ((h.set g.nu (.lst ((q.bx.set p.1 p.2).map .int))).set g.ma (.lst ((q.sp.set p.1 (q.sp.getD p.1 0+1)).map .int))) (HL g rn w { q with bx:=q.bx.set p.1 p.2,sp:=q.sp.set p.1 (q.sp.getD p.1 0+1) } own):=At.upd (a:=[_,_]) _ A1
  obtain ⟨t1,t2,t3,t4⟩:=ydI (A1.get 0 rfl)
  have s1:=ykH (h:=h) (xs:=q.bx) (k:=p.1) (v:=p.2) (eo:=ybb [15] "numbers" (yf 0)) (ei:=yf 5) (ev:=xOp (yba) (yf 4) (xC (.int 1))) (ρ:=[.val (.loc g.H),v1,v2,v3,.val (ydm p),.val (.int (p.1:Nat))]) rfl (by simp_all? only [g1]) rfl (A.get 1 rfl) hp
  have s2:=ykH (h:=h.set g.nu (.lst ((q.bx.set p.1 p.2).map .int))) (xs:=q.sp) (k:=p.1) (v:=q.sp.getD p.1 0+1) (eo:=ybb [15] "marks" (yf 0)) (ei:=yf 5) (ev:=xOp yiV (xOp (ycs) (ybb [15] "marks" (yf 0)) (yf 5)) (xC (.int 1))) (ρ:=[.val (.loc g.H),v1,v2,v3,.val (ydm p),.val (.int (p.1:Nat))]) (by
   have i3:=yeK (A1.get 2 rfl) (show p.1<q.sp.length by omega)
   simp_all? only [t2,i3]) (by simp_all? only [t2]) rfl (A1.get 2 rfl) (by omega)
  have i0:∀ h,yba (ydm p) (.int 0) h=some (.int (p.1:Nat),h):=fun _=>rfl
  have bd:ldB [.val (.loc g.H),v1,v2,v3,.val (ydm p),v5] h=some (.nx [.val (.loc g.H),v1,v2,v3,.val (ydm p),.val (.int (p.1:Nat))],(h.set g.nu (.lst ((q.bx.set p.1 p.2).map .int))).set g.ma (.lst ((q.sp.set p.1 (q.sp.getD p.1 0+1)).map .int))):=by
   unfold ldB
   simp_all? only [i0,s1,s2]
  obtain ⟨h',a,b,e1,e2⟩:=ypc (v1:=v1) (v2:=v2) (v3:=v3) l _ _ (.val (ydm p)) (.val (.int (p.1:Nat))) A2 (fun x hx=>by show x.1<(q.bx.set p.1 p.2).length;rw [length_set];exact hb x (mem_cons_of_mem _ hx)) (by show (q.sp.set _ _).length=(q.bx.set _ _).length;rw [length_set,length_set];exact hs)
  refine ⟨h',a,b,?_,e2⟩
  show ygh _ _ (ydm p::l.map ydm) _ h=_
  rw [ypN (by kernel_rfl!) bd]
  exact e1
theorem yve {o st b l0:Nat}{d:List Key×List PV}{ks:List Key}{xs L:List PV}(G:LG h o st b [l0] [d] ks xs) (hs:sortI d.1 d.2=some L):yeB [.loc o] h=some (.lst L,h):=by
 have e1:=yfW G.ob
 have e2:=G.st
 have e3:h[l0]?=some (.dct d.1 d.2):=G.dl.1
 have i2:ycs (.loc st) (.int 0) h=some (.loc l0,h):=by unfold ycs;simp only [e2];rfl
 unfold yeB
 rw [yo]
 show ob (yl _ _ [.val (.loc o),.no] h) fnK=_
 simp_all? only [e1,i2]
 unfold yju
 symm
 unfold ylM
 simp only [e3,hs]
 rfl
theorem yBL {L:List PV}{l:List (Nat×Int)}{d:List Key×List PV}(R:RR w rows (HL g c.rn w q own) h c s) (hi:q.cw[q.i]?=some q.hd) (ed:s.dd=[d]) (hd:sortI d.1 d.2=some (l.map ydm)) (hb:∀ p∈l,p.1<q.bx.length) (hsp:q.sp.length=q.bx.length) (hL:sortI (sK s.sn) (sA s.sn)=some L) (hr:Due q.ds (q.nth+1) rows') (hl:q.en.length<1000) :
  ∃ h1 c',(∀ h2,ybs [.loc g.H] h1=some (.non,h2)->ycN [.loc g.H,.int (q.i:Nat)] h=some (.non,h2))/\RR w rows' (HL g c'.rn w { q with bx:=yBK q.bx l,sp:=ysW q.sp l,en:=q.en++[yyL q (.tup [.str "done"]) L (l.map ydm) s.hs],nth:=q.nth+1,bf:=s.hs } own) h1 c' (S0 s.hs):=by
 have A:=R.hl
 obtain ⟨l0,el⟩:∃ l0,c.ly=[l0]:=by
  have:=R.len
  rw [ed] at this
  exact List.length_eq_one_iff.mp this
 have G:=R.lg
 rw [el,ed] at G
 have wr:=yve G hd
 obtain ⟨g1,g2,g3,g4⟩:=ydI (A.get 0 rfl)
 obtain ⟨k1,k2,k3,k4,k5,k6⟩:=ydu (A.get 5 rfl)
 obtain ⟨r1,r2,r3,r4,r5,r6,r7⟩:=ycQ R.run
 have i2:=ynD A hi
 obtain ⟨h3,v4,v5,lp,A2⟩:=ypc (v1:=.val (.int (q.i:Nat))) (v2:=.val (.loc c.rn)) (v3:=.val (.lst (l.map ydm))) l q h .no .no A hb hsp
 obtain ⟨h',c',q1,q2⟩:=yiB (en:=.tup [.str "done"]) (v:=.loc c.hl) (laid:=l.map ydm) (bf:=s.hs) A2 hi hL (fun h1 q' a=>yfo (a.get 7 rfl)) hr hl
 refine ⟨h',c',fun h2 wk=>?_,q2⟩
 obtain ⟨u1,u2,u3,u4,u5,u6,u7⟩:=ycQ (A2.get 6 rfl)
 have i7:xIL (yf 3) [.val (.loc g.H),.val (.int (q.i:Nat)),.val (.loc c.rn),.val (.lst (l.map ydm)),.no,.no] h=some (l.map ydm,h):=yBg rfl
 unfold ycN
 rw [yo]
 show ob (yl _ (yl _ (yl (ymZ (xIL (yf 3)) _ ldB) _)) [.val (.loc g.H),.val (.int (q.i:Nat)),.no,.no,.no,.no] h) fnK=_
 simp_all? only [yef,g3,i2,k6,r3,yB (m:="wrote") R.lg.ob (by rfl'),wr,i7,lp,u1,yB (m:="end_deed") (A2.get 0 rfl) (by rfl'),q1,yB (m:="wake_stale") (q2.rest.get 0 rfl) (by rfl'),wk]
theorem ysq {L:List PV}{l:List (Nat×Int)}{d:List Key×List PV}(R:RR w rows (HL g c.rn w q own) h c s) (hi:q.cw[q.i]?=some q.hd) (er:rows[s.t]?=some (yT .lay)) (hw:1<=w) (hn:q.nth<q.ds.length) (hs:q.sl=false) (ok:okS s=true) (F:NF q.sp.length s) (fr:stB s.sn q.sp=false) (ed:s.dd=[d]) (hd:sortI d.1 d.2=some (l.map ydm)) (hb:∀ p∈l,p.1<q.bx.length) (hsp:q.sp.length=q.bx.length) (hL:sortI (sK s.sn) (sA s.sn)=some L) (hr:Due q.ds (q.nth+1) rows') (hl:q.en.length<1000) :
  ∃ h1 c',(∀ h2,ybs [.loc g.H] h1=some (.non,h2)->yA [.loc g.H,.int (q.i:Nat)] h=some (.tup [.str "done",.int s.t],h2))/\RR w rows' (HL g c'.rn w { q with bx:=yBK q.bx l,sp:=ysW q.sp l,en:=q.en++[yyL q (.tup [.str "done"]) L (l.map ydm) s.hs],nth:=q.nth+1,bf:=s.hs } own) h1 c' (S0 s.hs):=by
 obtain ⟨h',c',q1,q2⟩:=yBL R hi ed hd hb hsp hL hr hl
 refine ⟨h',c',fun h2 wk=>?_,q2⟩
 have q1:=q1 h2 wk
 rw [ygA R hi er hw hn hs ok rfl rfl F fr]
 have A:=R.rest
 obtain ⟨f1,f2,f3,f4,f5,f6⟩:=ydu (A.get 5 rfl)
 obtain ⟨g1,g2,g3,g4⟩:=ydI (A.get 0 rfl)
 have i2:=ynD A hi
 have i4:∀ h,yba (yT .lay) (.int 0) h=some (.str "lay",h):=fun _=>rfl
 unfold yK
 rw [yo]
 show ob (ob (yl _ _ [.val (.loc g.H),.val (.int (q.i:Nat)),.val (.int s.t),.no,.no,.no] h) fnK) _=_
 simp_all? only [yef,g3,i2,f6,yB (m:="row") R.run (by rfl'),yiy R.run rfl er,i4,ypL,ypM,ynE,yB (m:="lay_down") (A.get 0 rfl) (by rfl'),q1]
theorem yyM (R:RR w rows (HL g c.rn w q own) h c s) (hr:Due q.ds q.nth rows'):∃ h' c',ycr [.loc q.hd] h=some (.non,h')/\RR w rows' (HL g c'.rn w { q with sl:=false } own) h' c' (S0 q.bf):=by
 have A:=R.rest
 have A1:At (h.set q.hd (ydl q.ds w q.nth false q.bf c.rn)) (HL g c.rn w { q with sl:=false } own):=At.upd (a:=[_,_,_,_,_]) _ A
 have s1:=fun ρ=>ysn (ρ:=ρ) (v:=false) (A.get 5 rfl)
 obtain ⟨a1,a2,a3,a4,a5,a6⟩:=ydu (A1.get 5 rfl)
 obtain ⟨h',c',q1,q2⟩:=yhc a1 a2 a3 a5 hr
 have R':=q2 _ A1
 have B:=R'.rest
 have s3:=fun ρ=>yso (ρ:=ρ) (v:=c'.rn) (B.get 5 rfl)
 refine ⟨h'.set q.hd (ydl q.ds w q.nth false q.bf c'.rn),c',?_,RR.urest (a:=[_,_,_,_,_]) _ R'⟩
 unfold ycr
 rw [yo]
 show ob (yl _ _ [.val (.loc q.hd)] h) fnK=_
 simp_all? only [ysU,yef,s1,yB (m:="new_run") (A1.get 5 rfl) (by rfl'),q1,s3]
end
structure HD where
 ds:List PV
 nth:Nat
 sl:Bool
 bf:List Int
 rows:List PV
 s:RS
def HN (w:Int) (a:Nat×Lc) (x:HD) (m:List (Nat×Nd)):List (Nat×Nd):=(a.1,ydl x.ds w x.nth x.sl x.bf a.2.rn)::RM w x.rows a.2 x.s m
def CR (w:Int):List (Nat×Lc)->List HD->List (Nat×Nd)->List (Nat×Nd)
 | a::as,x::xs,m=>HN w a x (CR w as xs m)
 | _,_,m=>m
def LyOk:List (Nat×Lc)->List HD->Prop
 | a::as,x::xs=>a.2.ly.length=x.s.dd.length/\LyOk as xs
 | [],[]=>True
 | _,_=>False
noncomputable def H5 (g:HC) (bx sp:List Int) (en:List PV) (cw:List Nat):List (Nat×Nd):=[(g.H,yjd g.nu g.ma g.cr g.en),(g.nu,.lst (bx.map .int)),(g.ma,.lst (sp.map .int)),(g.cr,.lst (cw.map .loc)),(g.en,.lst en)]
structure HH (h:AH) (g:HC) (w:Int) (bx sp:List Int) (en:List PV) (as:List (Nat×Lc)) (xs:List HD) (own:List (Nat×Nd)):Prop where
 at_:At h (H5 g bx sp en (as.map (·.1))++CR w as xs own)
 ly:LyOk as xs
def qOf (bx sp:List Int) (en:List PV) (cw:List Nat) (i hd:Nat) (x:HD):HQ:=⟨bx,sp,en,cw,i,hd,x.ds,x.nth,x.sl,x.bf⟩
section
variable {h:AH}{w:Int}{g:HC}{bx sp:List Int}{en:List PV}{as as1 as2:List (Nat×Lc)}{xs xs1 xs2:List HD}{a:Nat×Lc}{x x':HD}{own m:List (Nat×Nd)}{c:Lc}
theorem yhn:HN w a x m=HN w a x []++m:=by
 unfold HN
 rw [yiA,yiA,append_nil]
 rfl
theorem ykI:∀ {as1:List (Nat×Lc)}{xs1:List HD},as1.length=xs1.length->(CR w (as1++a::as2) (xs1++x::xs2) m).Perm (HN w a x (CR w as1 xs1 (CR w as2 xs2 m)))
 | [],[],_=>.refl _
 | b::as1,y::xs1,e=>by
  show (HN w b y (CR w (as1++a::as2) (xs1++x::xs2) m)).Perm (HN w a x (HN w b y (CR w as1 xs1 (CR w as2 xs2 m))))
  have ih:=ykI (as1:=as1) (xs1:=xs1) (by simpa using e)
  rw [yhn (a:=b),yhn (a:=a) (m:=HN w b y _),yhn (a:=b) (m:=CR w as1 xs1 _)]
  refine (ih.append_left _).trans ?_
  rw [yhn (a:=a)]
  exact List.perm_append_comm_assoc _ _ _
theorem LyOk.split:∀ {as1:List (Nat×Lc)}{xs1:List HD},as1.length=xs1.length->(LyOk (as1++a::as2) (xs1++x::xs2) ↔ LyOk as1 xs1/\a.2.ly.length=x.s.dd.length/\LyOk as2 xs2)
 | [],[],_=>⟨fun k=>⟨trivial,k⟩,fun k=>k.2⟩
 | b::as1,y::xs1,e=>by
  have ih:=LyOk.split (as1:=as1) (xs1:=xs1) (by simpa using e)
  show _/\LyOk (as1++a::as2) (xs1++x::xs2) ↔ (_/\LyOk as1 xs1)/\_
  rw [ih,and_assoc]
theorem yBM {rows:List PV}{s:RS}{rn:Nat}{q:HQ}:(H5 g q.bx q.sp q.en q.cw++((q.hd,ydl q.ds w q.nth q.sl q.bf rn)::RM w rows c s m)).Perm (RM w rows c s (HL g rn w q m)):=by
 rw [yiA,yiA]
 refine .trans ?_ (show (H5 g q.bx q.sp q.en q.cw++(EX c w rows s++((q.hd,ydl q.ds w q.nth q.sl q.bf rn)::m))).Perm (EX c w rows s++HL g rn w q m) from List.perm_append_comm_assoc _ _ _)
 exact (List.perm_middle.symm).append_left _
theorem HH.foc (X:HH h g w bx sp en (as1++a::as2) (xs1++x::xs2) own) (l:as1.length=xs1.length):RR w x.rows (HL g a.2.rn w (qOf bx sp en ((as1++a::as2).map (·.1)) as1.length a.1 x) (CR w as1 xs1 (CR w as2 xs2 own))) h a.2 x.s:=by
 refine ⟨?_,((LyOk.split l).mp X.ly).2.1⟩
 exact X.at_.perm (((ykI l).append_left _).trans (yBM (q:=qOf bx sp en _ _ _ _))).symm
theorem HH.unf {bx' sp':List Int}{en':List PV}(L:LyOk (as1++a::as2) (xs1++x::xs2)) (l:as1.length=xs1.length) (R:RR w x'.rows (HL g c.rn w (qOf bx' sp' en' ((as1++a::as2).map (·.1)) as1.length a.1 x') (CR w as1 xs1 (CR w as2 xs2 own))) h c x'.s):HH h g w bx' sp' en' (as1++(a.1,c)::as2) (xs1++x'::xs2) own:=by
 obtain ⟨l1,l2,l3⟩:=(LyOk.split l).mp L
 refine ⟨?_,(LyOk.split l).mpr ⟨l1,R.len,l3⟩⟩
 have e:(as1++(a.1,c)::as2).map (·.1)=(as1++a::as2).map (·.1):=by simp
 rw [e]
 exact R.at_.perm (((ykI l).append_left _).trans (yBM (q:=qOf bx' sp' en' _ _ _ _)))
theorem ymd:((as1++a::as2).map (·.1))[as1.length]?=some a.1:=by simp
def asB (x:HD):Bool:=decide (x.nth≠x.ds.length) && x.sl
def ydN (sp:List Int) (x:HD):HD:=if (asB x && stB x.s.sn sp)=true then { x with sl:=false,s:=S0 x.bf } else x
theorem yjf:(("ended":Str) = "asleep")=False:=eq_false (by rfl')
theorem yjg:(("awake":Str) = "asleep")=False:=eq_false (by rfl')
theorem yBN (X:HH h g w bx sp en (as1++a::as2) (xs1++x::xs2) own) (l:as1.length=xs1.length) (hr:Due x.ds x.nth x.rows) (F:NF sp.length x.s):∃ h' c',wkB [.val (.loc g.H),.val (.loc a.1)] h=some (.nx [.val (.loc g.H),.val (.loc a.1)],h')/\HH h' g w bx sp en (as1++(a.1,c')::as2) (xs1++ydN sp x::xs2) own:=by
 have R:=X.foc l
 have A:=R.rest
 have st:=ygz A
 obtain ⟨g1,g2,g3,g4⟩:=ydI (A.get 0 rfl)
 have hh:h[a.1]?=some (ydl x.ds w x.nth x.sl x.bf a.2.rn):=A.get 5 rfl
 have f6:=(ydu hh).2.2.2.2.2
 have sl:=ypa (ma:=g.ma) (sp:=sp) R (mem_of_getElem? (i:=2) rfl) F.nd F.hb F.hl
 have r0:=R.run
 by_cases e:x.nth=x.ds.length
 .have st':stN (qOf bx sp en ((as1++a::as2).map (·.1)) as1.length a.1 x) = "ended":=if_pos e
  rw [st'] at st
  have e':ydN sp x=x:=by unfold ydN asB;simp [e]
  rw [e']
  refine ⟨h,a.2,?_,X⟩
  unfold wkB
  dsimp only [qOf] at st
  simp_all? only [yef,yB (m:="state") hh (by rfl'),st,yjf]
 .cases es:x.sl with
  | false =>
   have st':stN (qOf bx sp en ((as1++a::as2).map (·.1)) as1.length a.1 x) = "awake":=(if_neg e).trans (if_neg (by rw [show (qOf bx sp en ((as1++a::as2).map (·.1)) as1.length a.1 x).sl=x.sl from rfl,es];decide))
   rw [st'] at st
   have e':ydN sp x=x:=by unfold ydN asB;simp [es]
   rw [e']
   refine ⟨h,a.2,?_,X⟩
   unfold wkB
   dsimp only [qOf] at st
   simp_all? only [yef,yB (m:="state") hh (by rfl'),st,yjg]
  | true =>
   have st':stN (qOf bx sp en ((as1++a::as2).map (·.1)) as1.length a.1 x) = "asleep":=(if_neg e).trans (if_pos (by rw [show (qOf bx sp en ((as1++a::as2).map (·.1)) as1.length a.1 x).sl=x.sl from rfl,es]))
   rw [st'] at st
   dsimp only [qOf] at st
   cases eb:stB x.s.sn sp with
   | false =>
    have e':ydN sp x=x:=by unfold ydN;simp [eb]
    rw [e']
    rw [eb] at sl
    refine ⟨h,a.2,?_,X⟩
    unfold wkB
    simp_all? only [yef,yB (m:="state") hh (by rfl'),st,f6,g2,yB (m:="is_stale") r0 (by rfl'),sl]
   | true =>
    have e':ydN sp x={ x with sl:=false,s:=S0 x.bf }:=if_pos (by unfold asB;simp [e,es,eb])
    rw [e']
    rw [eb] at sl
    obtain ⟨h',c',q1,R'⟩:=yyM R (show Due (qOf bx sp en ((as1++a::as2).map (·.1)) as1.length a.1 x).ds (qOf bx sp en ((as1++a::as2).map (·.1)) as1.length a.1 x).nth x.rows from hr)
    refine ⟨h',c',?_,HH.unf (x':={ x with sl:=false,s:=S0 x.bf }) X.ly l R'⟩
    dsimp only [qOf] at q1
    unfold wkB
    simp_all? only [yef,yB (m:="state") hh (by rfl'),st,f6,g2,yB (m:="is_stale") r0 (by rfl'),sl,yB (m:="begin_anew") hh (by rfl'),q1]
def yvf (W:Nat) (x:HD):Prop:=Due x.ds x.nth x.rows/\NF W x.s
theorem LyOk.len:∀ {as:List (Nat×Lc)}{xs:List HD},LyOk as xs->as.length=xs.length
 | [],[],_=>rfl
 | _::_,_::_,k=>by rw [length_cons,length_cons,LyOk.len k.2]
theorem LyOk.app:∀ {as1 as2:List (Nat×Lc)}{xs1 xs2:List HD},as1.length=xs1.length->LyOk (as1++as2) (xs1++xs2)->LyOk as2 xs2
 | [],_,[],_,_,k=>k
 | _::_,_,_::_,_,e,k=>LyOk.app (by simpa using e) k.2
theorem ysr:∀ (as2:List (Nat×Lc)) (xs2:List HD) (as1:List (Nat×Lc)) (xs1:List HD) (h:AH) (v:PVar),HH h g w bx sp en (as1++as2) (xs1++xs2) own->as1.length=xs1.length->(∀ x∈xs2,yvf sp.length x) ->
  ∃ h' as' v',ymu g.cr false (yq 1) wkB as2.length as1.length [.val (.loc g.H),v] h=some (.nx [.val (.loc g.H),v'],h')/\HH h' g w bx sp en (as1++as') (xs1++xs2.map (ydN sp)) own/\as'.map (·.1)=as2.map (·.1)
 | [],xs2,as1,xs1,h,v,X,l,_=>by
  have e:h[g.cr]?=some (.lst (((as1++([]:List (Nat×Lc))).map (fun a=>a.1)).map .loc)):=X.at_.get 3 rfl
  have l2:=(LyOk.app l X.ly).len
  have:xs2=[]:=List.length_eq_zero_iff.mp l2.symm
  subst this
  refine ⟨h,[],v,?_,X,rfl⟩
  show ymu g.cr false (yq 1) wkB 0 as1.length _ h=_
  unfold ymu
  simp only [e]
  rw [if_pos (by simp)]
 | a::as2,[],as1,xs1,h,v,X,l,_=>by
  have l2:=(LyOk.app l X.ly).len
  cases l2
 | a::as2,x::xs2,as1,xs1,h,v,X,l,hx=>by
  have e:h[g.cr]?=some (.lst (((as1++a::as2).map (·.1)).map .loc)):=X.at_.get 3 rfl
  obtain ⟨h1,c1,q1,X1⟩:=yBN X l (hx x mem_cons_self).1 (hx x mem_cons_self).2
  obtain ⟨h',as',v',q2,X2,em⟩:=ysr as2 xs2 (as1++[(a.1,c1)]) (xs1++[ydN sp x]) h1 (.val (.loc a.1)) (by rw [append_assoc,append_assoc];exact X1) (by simp [l]) (fun y hy=>hx y (mem_cons_of_mem _ hy))
  refine ⟨h',(a.1,c1)::as',v',?_,by rw [append_assoc,append_assoc] at X2;exact X2,by simp [em]⟩
  rw [length_append] at q2
  have y1:yq 1 (.loc a.1) [.val (.loc g.H),v]=some [.val (.loc g.H),.val (.loc a.1)]:=rfl
  have ei:(((as1++a::as2).map (·.1)).map PV.loc)[as1.length]?=some (.loc a.1):=by rw [getElem?_map,ymd];rfl
  show ymu g.cr false (yq 1) wkB (as2.length+1) as1.length _ h=_
  unfold ymu
  simp only [e,Bool.false_eq_true,if_false,ei,y1,bind_some,q1,ybF]
  exact q2
theorem yyN (X:HH h g w bx sp en as xs own) (hx:∀ x∈xs,yvf sp.length x):∃ h' as',ybs [.loc g.H] h=some (.non,h')/\HH h' g w bx sp en as' (xs.map (ydN sp)) own/\as'.map (·.1)=as.map (·.1):=by
 obtain ⟨h',as',v',q1,q2,q3⟩:=ysr as xs [] [] h .no X rfl hx
 refine ⟨h',as',?_,q2,q3⟩
 obtain ⟨g1,g2,g3,g4⟩:=ydI (X.at_.get 0 rfl)
 have e:h[g.cr]?=some (.lst ((as.map (·.1)).map .loc)):=X.at_.get 3 rfl
 unfold ybs
 rw [yo]
 show ob (ykr false _ (yq 1) wkB [.val (.loc g.H),.no] h) fnK=_
 unfold ykr
 simp_all? only [g3]
 simp only [e]
 rw [length_map,length_map]
 exact (congrArg (fun o=>ob o fnK) q1).trans rfl
end
section
variable {h:AH}{w:Int}{g:HC}{bx sp:List Int}{en:List PV}{as as1 as2:List (Nat×Lc)}{xs xs1 xs2:List HD}{a:Nat×Lc}{x x':HD}{own m:List (Nat×Nd)}{c:Lc}{s s':RS}{r:Rw}
def goT (w:Int) (bx sp:List Int) (rws:List Rw) (s:RS):Option RS:=match rws[s.t]? with
 | some r=>if (okS s && okR r)=true then (if yje w s r=true then (match r with
   | .take a p=>some ⟨s.t+1,s.hs.set (sx a) (bx.getD (s.hs.getD (sx p) 0%w).toNat 0),s.sd,s.dd,ydv s.sn (s.hs.getD (sx p) 0%w).toNat (bx.getD (s.hs.getD (sx p) 0%w).toNat 0) (sp.getD (s.hs.getD (sx p) 0%w).toNat 0)⟩
   | _=>none) else ynz w r s) else none
 | none=>none
theorem ypd {f:Rw->List Int->List Int}(e:yjJ s r f=some s'):s'.sn=s.sn:=by
 unfold yjJ at e
 split at e
 .cases e
 .split at e
  .cases e;rfl
  .cases e
theorem yyO (e:ynz w r s=some s'):s'.sn=s.sn:=by
 unfold ynz at e
 split at e
 .cases r with
  | wait=>exact ypd e
  | throw a b=>exact ypd e
  | take a b =>
   dsimp only at e
   split at e
   .cases e;rfl
   .cases e
  | settle =>
   dsimp only at e
   split at e
   .cases e
   .cases e;rfl
  | lay=>cases e
  | _=>cases e;rfl
 .cases e
theorem ynF {m:List (Nat×Int×Int)}{k:Nat}{u v:Int}{p:Nat×Int×Int}(hp:p∈ydv m k u v):p=(k,u,v)\/p∈m:=by
 unfold ydv at hp
 split at hp
 .obtain ⟨q,hq,e⟩:=List.mem_map.mp hp
  split at e
  .exact .inl e.symm
  .exact .inr (e ▸ hq)
 .rcases List.mem_append.mp hp with z|z
  .exact .inr z
  .exact .inl (List.mem_singleton.mp z)
theorem ype (m:List (Nat×Int×Int)) (k:Nat) (u v:Int):(ydv m k u v).map (·.1)=if k∈m.map (·.1) then m.map (·.1) else m.map (·.1)++[k]:=by
 unfold ydv
 split
 .rw [map_map]
  refine List.map_congr_left fun p _=>?_
  show (if p.1=k then (k,u,v) else p).1=p.1
  split
  .rename_i e;exact e.symm
  .rfl
 .simp
theorem yss:∀ (W:Nat) (l:List Nat),l.Nodup->(∀ k∈l,k<W)->l.length<=W
 | 0,l,_,hb=>by
  cases l with
  | nil=>simp
  | cons a _=>exact absurd (hb a mem_cons_self) (by omega)
 | W+1,l,nd,hb=>by
  by_cases e:W∈l
  .have:=yss W (l.erase W) (nd.erase W) fun k hk=>by
    have h1:=hb k (List.mem_of_mem_erase hk)
    have h2:k≠W:=(List.Nodup.mem_erase_iff nd).mp hk |>.1
    omega
   rw [List.length_erase_of_mem e] at this
   omega
  .have:=yss W l nd fun k hk=>by
    have h1:=hb k hk
    have:k≠W:=fun z=>e (z ▸ hk)
    omega
   omega
theorem NF.put {W k:Nat}{u v:Int}(F:NF W s) (hk:k<W) (hW:W<=16) {t:Nat}{hs:List Int}:NF W ⟨t,hs,s.sd,s.dd,ydv s.sn k u v⟩:=by
 have nd:((ydv s.sn k u v).map (·.1)).Nodup:=by
  rw [ype]
  split
  .exact F.nd
  .rename_i e
   rw [List.nodup_append]
   exact ⟨F.nd,by simp,fun x hx y hy z=>by
    rw [List.mem_singleton.mp hy] at z
    exact e (z ▸ hx)⟩
 have hb:∀ p∈ydv s.sn k u v,p.1<W:=fun p hp=>by
  rcases ynF hp with rfl|hp
  .exact hk
  .exact F.hb p hp
 refine ⟨nd,hb,?_⟩
 have:=yss W _ nd fun x hx=>by
  obtain ⟨p,hp,rfl⟩:=List.mem_map.mp hx
  exact hb p hp
 rw [length_map] at this
 show (ydv s.sn k u v).length<=900
 omega
theorem ykJ {m:List (Nat×Int×Int)}:stB m sp=false ↔ ∀ p∈m,sp.getD p.1 0=p.2.2:=by
 unfold stB
 simp [List.any_eq_false]
theorem yBO {m:List (Nat×Int×Int)}{k:Nat}{u:Int}(fr:stB m sp=false):stB (ydv m k u (sp.getD k 0)) sp=false:=by
 rw [ykJ] at fr ⊢
 intro p hp
 rcases ynF hp with rfl|hp
 .rfl
 .exact fr p hp
theorem ypf {rws:List Rw}{t:Nat}(er:rws[t]?=some r):(rws.map yT)[t]?=some (yT r):=by rw [getElem?_map,er];rfl
theorem goH {rws:List Rw}(X:HH h g bx.length bx sp en (as1++a::as2) (xs1++x::xs2) own) (l:as1.length=xs1.length) (hbs:sp.length=bx.length) (h1:1<=bx.length) (h16:bx.length<=16) (hr:x.rows=rws.map yT) (hn:x.nth<x.ds.length) (hs:x.sl=false) (F:NF bx.length x.s) (fr:stB x.s.sn sp=false) (e:goT bx.length bx sp rws x.s=some s') :
  ∃ h' c' z tl,yA [.loc g.H,.int (as1.length:Nat)] h=some (.tup (.str z::tl),h')/\(z = "gone"\/z = "seen")/\HH h' g bx.length bx sp en (as1++(a.1,c')::as2) (xs1++{ x with s:=s' }::xs2) own/\NF bx.length s'/\stB s'.sn sp=false:=by
 have R:=X.foc l
 unfold goT at e
 split at e
 .rename_i r er
  split at e
  .rename_i hk
   obtain ⟨k1,k2⟩:=Bool.and_eq_true_iff.mp hk
   have er':x.rows[x.s.t]?=some (yT r):=by rw [hr];exact ypf er
   split at e
   .rename_i hl
    split at e
    .rename_i p q
     cases e
     obtain ⟨kb,ek⟩:∃ k:Nat,x.s.hs.getD (sx q) 0%(bx.length:Int)=(k:Nat):=⟨(x.s.hs.getD (sx q) 0%(bx.length:Int)).toNat,by have:=Int.emod_nonneg (x.s.hs.getD (sx q) 0) (show (bx.length:Int)≠0 by omega);omega⟩
     have hkb:kb<bx.length:=by have:=Int.emod_lt_of_pos (x.s.hs.getD (sx q) 0) (show (0:Int)<bx.length by omega);omega
     obtain ⟨h',q1,R'⟩:=ysm (q:=qOf bx sp en _ as1.length a.1 x) R (by exact ymd) er' (by omega) hn hs k1 k2 hl (show NF sp.length x.s by rw [hbs];exact F) fr ek hkb hbs
     rw [ek,Int.toNat_natCast]
     exact ⟨h',a.2,_,_,q1,.inr rfl,HH.unf (x':={ x with s:=_ }) X.ly l R',F.put hkb h16,yBO fr⟩
    .cases e
   .rename_i hl
    obtain ⟨h',c',q1,R'⟩:=ysl (q:=qOf bx sp en _ as1.length a.1 x) R (by exact ymd) er' (by omega) hn hs k1 k2 (by simpa using hl) e
    have sn:=yyO e
    exact ⟨h',c',_,_,q1,.inl rfl,HH.unf (x':={ x with s:=s' }) X.ly l R',⟨by rw [sn];exact F.nd,by rw [sn];exact F.hb,by rw [sn];exact F.hl⟩,by rw [sn];exact fr⟩
  .cases e
 .cases e
def stX (x:HD):Str:=if x.nth=x.ds.length then "ended" else if x.sl=true then "asleep" else "awake"
theorem yEz (X:HH h g w bx sp en (as1++a::as2) (xs1++x::xs2) own) (l:as1.length=xs1.length) (hs:(stX x = "awake")=False):yA [.loc g.H,.int (as1.length:Nat)] h=some (.tup [.str "idle"],h):=ysk (q:=qOf bx sp en _ as1.length a.1 x) (X.foc l).rest (by exact ymd) hs
theorem yBP {rws:List Rw}(X:HH h g bx.length bx sp en (as1++a::as2) (xs1++x::xs2) own) (l:as1.length=xs1.length) (hbs:sp.length=bx.length) (h1:1<=bx.length) (hr:x.rows=rws.map yT) (hn:x.nth<x.ds.length) (hs:x.sl=false) (F:NF bx.length x.s) (fr:stB x.s.sn sp=false) (er:rws[x.s.t]?=some .wait) (ok:okS x.s=true) (lk:yje bx.length x.s .wait=true) :
  ∃ h',yA [.loc g.H,.int (as1.length:Nat)] h=some (.tup [.str "asleep",.int x.s.t],h')/\HH h' g bx.length bx sp en (as1++a::as2) (xs1++{ x with sl:=true }::xs2) own:=by
 have R:=X.foc l
 obtain ⟨h',q1,R'⟩:=ypK (q:=qOf bx sp en _ as1.length a.1 x) R (by exact ymd) (by rw [hr];exact ypf er) (by omega) hn hs ok lk (show NF sp.length x.s by rw [hbs];exact F) fr
 exact ⟨h',q1,HH.unf (x':={ x with sl:=true }) X.ly l R'⟩
noncomputable def yFE (i:Nat) (x:HD) (en:PV) (L laid:List PV) (bf:List Int):PV:=.tup [.int (i:Nat),.int (x.nth:Nat),en,.lst L,.lst laid,.lst (bf.map .int)]
theorem yEA {rws:List Rw}{rows' L:List PV}{p q:Str}(X:HH h g bx.length bx sp en (as1++a::as2) (xs1++x::xs2) own) (l:as1.length=xs1.length) (hbs:sp.length=bx.length) (h1:1<=bx.length) (hr:x.rows=rws.map yT) (hn:x.nth<x.ds.length) (hs:x.sl=false) (F:NF bx.length x.s) (fr:stB x.s.sn sp=false) (er:rws[x.s.t]?=some (.throw p q)) (ok:okS x.s=true) (okr:okR (.throw p q)=true) (lk:yje bx.length x.s (.throw p q)=true) (hL:sortI (sK x.s.sn) (sA x.s.sn)=some L) (hd:Due x.ds (x.nth+1) rows') (hl:en.length<1000) :
  ∃ h' c',yA [.loc g.H,.int (as1.length:Nat)] h=some (.tup [.str "fell",.int x.s.t],h')/\HH h' g bx.length bx sp (en++[yFE as1.length x (.tup [.str "fell",.str p,.int (x.s.hs.getD (sx q) 0)]) L [] x.bf]) (as1++(a.1,c')::as2) (xs1++{ x with nth:=x.nth+1,rows:=rows',s:=S0 x.bf }::xs2) own:=by
 have R:=X.foc l
 obtain ⟨h',c',q1,R'⟩:=ysp (q:=qOf bx sp en _ as1.length a.1 x) R (by exact ymd) (by rw [hr];exact ypf er) (by omega) hn hs ok okr lk (show NF sp.length x.s by rw [hbs];exact F) fr hL hd hl
 exact ⟨h',c',q1,HH.unf (x':={ x with nth:=x.nth+1,rows:=rows',s:=S0 x.bf }) X.ly l R'⟩
theorem yyP {rws:List Rw}{rows' L:List PV}{ls:List (Nat×Int)}{d:List Key×List PV}(X:HH h g bx.length bx sp en (as1++a::as2) (xs1++x::xs2) own) (l:as1.length=xs1.length) (hbs:sp.length=bx.length) (h1:1<=bx.length) (hr:x.rows=rws.map yT) (hn:x.nth<x.ds.length) (hs:x.sl=false) (F:NF bx.length x.s) (fr:stB x.s.sn sp=false) (er:rws[x.s.t]?=some .lay) (ok:okS x.s=true) (ed:x.s.dd=[d]) (hd:sortI d.1 d.2=some (ls.map ydm)) (hb:∀ p∈ls,p.1<bx.length) (hL:sortI (sK x.s.sn) (sA x.s.sn)=some L) (hdu:Due x.ds (x.nth+1) rows') (hl:en.length<1000) (ho:∀ y∈xs1++xs2,yvf bx.length y) :
  ∃ h' as',yA [.loc g.H,.int (as1.length:Nat)] h=some (.tup [.str "done",.int x.s.t],h')/\HH h' g bx.length (yBK bx ls) (ysW sp ls) (en++[yFE as1.length x (.tup [.str "done"]) L (ls.map ydm) x.s.hs]) as' ((xs1++{ x with nth:=x.nth+1,bf:=x.s.hs,rows:=rows',s:=S0 x.s.hs }::xs2).map (ydN (ysW sp ls))) own/\as'.map (·.1)=(as1++a::as2).map (·.1):=by
 have R:=X.foc l
 obtain ⟨h2,c',q1,R'⟩:=ysq (q:=qOf bx sp en _ as1.length a.1 x) R (by exact ymd) (by rw [hr];exact ypf er) (by omega) hn hs ok (show NF sp.length x.s by rw [hbs];exact F) fr ed hd hb hbs hL hdu hl
 have X':=HH.unf (x':={ x with nth:=x.nth+1,bf:=x.s.hs,rows:=rows',s:=S0 x.s.hs }) X.ly l R'
 have hW:(ysW sp ls).length=bx.length:=by rw [ypb];exact hbs
 obtain ⟨h',as',q2,X2,em⟩:=yyN X' (fun y hy=>by
  show yvf (ysW sp ls).length y
  rw [hW]
  rcases List.mem_append.mp hy with z|z
  .exact ho y (mem_append_left _ z)
  .rcases mem_cons.mp z with rfl|z
   .exact ⟨hdu,⟨List.nodup_nil,fun p hp=>(by cases hp),(by show 0<=900;omega)⟩⟩
   .exact ho y (mem_append_right _ z))
 exact ⟨h',as',q1 h' q2,X2,by rw [em];simp⟩
end
section
variable {h:AH}{w:Int}{g:HC}{bx sp:List Int}{en:List PV}{as as1 as2:List (Nat×Lc)}{xs xs1 xs2:List HD}{a:Nat×Lc}{x x':HD}{own m:List (Nat×Nd)}
theorem yiC {f:PV->PV->Option Bool}{x y:PV}{xs ys:List PV}(e1:f x y=some true) (e2:yhr f xs ys=some true):yhr f (x::xs) (y::ys)=some true:=by
 show (match f x y,yhr f xs ys with|some b,some c=>some (b && c)|_,_=>none)=_
 rw [e1,e2]
 rfl
theorem yvg {n:Nat}{i:Int}:eqP (n+1) h (.int i) (.int i)=some true:=by
 show some (eqV (.int i) (.int i))=_
 rw [yko rfl]
theorem yBQ {n:Nat}{i:Str}:eqP (n+1) h (.str i) (.str i)=some true:=by
 show some (eqV (.str i) (.str i))=_
 rw [yko rfl]
theorem ykK {n:Nat}:∀ xs:List Int,yhr (eqP (n+1) h) (xs.map .int) (xs.map .int)=some true
 | []=>rfl
 | _::xs=>yiC yvg (ykK xs)
theorem yst {n m:Nat}{xs:List Int}(e:h[m]?=some (.lst (xs.map .int))):pairE (eqP (n+1) h) h (.lst (xs.map .int)) (.loc m)=some true:=by
 unfold pairE ybL
 simp only [e,ykK,if_true]
theorem yvh {m:Nat}{xs:List Int}(e:h[m]?=some (.lst (xs.map .int))):ypC (.lst (xs.map .int)) (.loc m) h=some (.bl true,h):=by
 unfold ypC
 rw [yst e]
theorem yyQ {n:Nat}{xs:List PV}(e:yhr (eqP (n+1) h) xs xs=some true):eqP (n+2) h (.tup xs) (.tup xs)=some true:=by
 show (match yhr (eqP (n+1) h) xs xs with|some b=>some (b && xs.length == xs.length)|none=>none)=_
 rw [e]
 simp
theorem ysu {xs ys:List PV}(e:yhr (eqP 40 h) xs ys=some true) (hl:xs.length=ys.length):ypC (.tup xs) (.tup ys) h=some (.bl true,h):=by
 unfold ypC pairE
 simp only [e,hl]
 simp
def Shp (e:PV):Prop:=∃ a b c x y z,e=.tup [a,b,c,.lst x,.lst y,.lst z]
theorem ysv {n:Nat}{en:List PV}{E:XE}{inn:PV->PSt}(e:h[n]?=some (.lst en)) (hE:∀ x∈en,E (inn x) h=some (x,h)):∀ k i,i+k=en.length->ypY n E inn k i h=some (en.drop i,h)
 | 0,i,hi=>by
  unfold ypY
  simp only [e]
  rw [if_pos (by omega),List.drop_of_length_le (by omega)]
 | k+1,i,hi=>by
  have hlt:i<en.length:=by omega
  unfold ypY
  simp only [e,List.getElem?_eq_getElem hlt]
  rw [hE _ (getElem_mem hlt),ybF,ysv e hE k (i+1) (by omega),ybF,List.drop_eq_getElem_cons hlt]
theorem yBR (X:HH h g w bx sp en as xs own):ydU [.loc g.H] h=some (.lst (bx.map .int),h):=by
 obtain ⟨f1,f2,f3,f4⟩:=ydI (X.at_.get 0 rfl)
 unfold ydU
 rw [yo]
 show ob (yP _ [.val (.loc g.H)] h) fnK=_
 simp_all? only [f1,yfo (X.at_.get 1 rfl)]
theorem ypg (X:HH h g w bx sp en as xs own) (hs:∀ e∈en,Shp e) (hl:en.length<1000):ybq [.loc g.H] h=some (.lst en,h):=by
 obtain ⟨f1,f2,f3,f4⟩:=ydI (X.at_.get 0 rfl)
 have e:h[g.en]?=some (.lst en):=X.at_.get 4 rfl
 unfold ybq
 rw [yo]
 show ob (yP (xFz (yeV _ _ _)) [.val (.loc g.H)] h) fnK=_
 rw [yrg,yCq]
 unfold yeV
 simp_all? only [f4]
 simp only [e]
 rw [if_pos (by omega),ysv e (fun x hx=>?_) en.length 0 (by omega)]
 .rfl
 .obtain ⟨a,b,c,x,y,z,rfl⟩:=hs x hx
  rfl
variable (X:HH h g w bx sp en (as1++a::as2) (xs1++x::xs2) own) (l:as1.length=xs1.length)
include X l
theorem yvi:ybh [.loc g.H,.int (as1.length:Nat)] h=some (.loc a.1,h)/\h[a.1]?=some (ydl x.ds w x.nth x.sl x.bf a.2.rn)/\h[g.H]?=some (yjd g.nu g.ma g.cr g.en) :=
 ⟨yfu (q:=qOf bx sp en _ as1.length a.1 x) (X.foc l).rest (by exact ymd),(X.foc l).rest.get 5 rfl,(X.foc l).rest.get 0 rfl⟩
theorem yBS:ydi [.loc g.H,.int (as1.length:Nat)] h=some (.int (x.nth:Nat),h):=by
 obtain ⟨q1,q2,q3⟩:=yvi X l
 have k3:=(ydu q2).2.2.1
 unfold ydi
 rw [yo]
 show ob (yP _ [.val (.loc g.H),.val (.int (as1.length:Nat))] h) fnK=_
 simp_all? only [yef,yB (m:="hand_at") q3 (by rfl'),q1,k3]
theorem ywm:ycj [.loc g.H,.int (as1.length:Nat)] h=some (.str (stX x),h):=by
 obtain ⟨q1,q2,q3⟩:=yvi X l
 have st:ycg [.loc a.1] h=some (.str (stX x),h):=ygz (X.foc l).rest
 unfold ycj
 rw [yo]
 show ob (yP _ [.val (.loc g.H),.val (.int (as1.length:Nat))] h) fnK=_
 simp_all? only [yef,yB (m:="hand_at") q3 (by rfl'),q1,yB (m:="state") q2 (by rfl'),st]
theorem yBT:ydj [.loc g.H,.int (as1.length:Nat)] h=some (.lst (x.s.hs.map .int),h):=by
 obtain ⟨q1,q2,q3⟩:=yvi X l
 have k6:=(ydu q2).2.2.2.2.2
 have R:=X.foc l
 have r1:=(ycQ R.run).1
 unfold ydj
 rw [yo]
 show ob (yP _ [.val (.loc g.H),.val (.int (as1.length:Nat))] h) fnK=_
 simp_all? only [yef,yB (m:="hand_at") q3 (by rfl'),q1,k6,r1,yfo R.held]
theorem yFF {L:List PV}(hL:sortI (sK x.s.sn) (sA x.s.sn)=some L):yda [.loc g.H,.int (as1.length:Nat)] h=some (.lst L,h):=by
 obtain ⟨q1,q2,q3⟩:=yvi X l
 have k6:=(ydu q2).2.2.2.2.2
 have R:=X.foc l
 have r3:=(ycQ R.run).2.2.1
 have sw:=ywl R.lg.ob R.lg.sn hL
 unfold yda
 rw [yo]
 show ob (yP _ [.val (.loc g.H),.val (.int (as1.length:Nat))] h) fnK=_
 simp_all? only [yef,yB (m:="hand_at") q3 (by rfl'),q1,k6,r3,yB (m:="saw") R.lg.ob (by rfl'),sw]
end
theorem yho:∀ {l₁ l₂:List (Int×PV)},l₁.Pairwise (fun a b=>a.1<b.1)->l₂.Pairwise (fun a b=>a.1<b.1)->(∀ a,a∈l₁ ↔ a∈l₂)->l₁=l₂
 | [],[],_,_,_=>rfl
 | [],b::_,_,_,h=>absurd ((h b).mpr mem_cons_self) (by simp)
 | a::_,[],_,_,h=>absurd ((h a).mp mem_cons_self) (by simp)
 | a::r,b::t,h1,h2,h=>by
  obtain ⟨p1,p2⟩:=List.pairwise_cons.mp h1
  obtain ⟨q1,q2⟩:=List.pairwise_cons.mp h2
  have e:a=b:=by
   rcases mem_cons.mp ((h a).mp mem_cons_self) with e|e
   .exact e
   rcases mem_cons.mp ((h b).mpr mem_cons_self) with e'|e'
   .exact e'.symm
   have:=q1 a e
   have:=p1 b e'
   omega
  subst e
  rw [yho p2 q2 fun x=>⟨fun hx=>?_,fun hx=>?_⟩]
  .rcases mem_cons.mp ((h x).mp (mem_cons_of_mem _ hx)) with e|e
   .subst e;exact absurd (p1 _ hx) (Int.lt_irrefl _)
   .exact e
  .rcases mem_cons.mp ((h x).mpr (mem_cons_of_mem _ hx)) with e|e
   .subst e;exact absurd (q1 _ hx) (Int.lt_irrefl _)
   .exact e
theorem ysw:∀ m:List (Nat×Int×Int),yro (sK m)=some (m.map fun p=>(p.1:Int))
 | []=>rfl
 | p::m=>by
  show (yro (sK m)).map ((p.1:Int)::·)=_
  rw [ysw m]
  rfl
theorem yyR {m:List (Nat×Int×Int)}{W:Nat}{bx:List Int}{P:Nat->Bool}(nd:(m.map (·.1)).Nodup) (hb:∀ p∈m,p.1<W) (hv:∀ p∈m,bx.getD p.1 0=p.2.1) (hk:∀ k,k<W->(k∈m.map (·.1) ↔ P k=true)) (hl:m.length<3):sortI (sK m) (sA m)=some (((List.range W).filter P).map fun k=>ydm (k,bx.getD k 0)):=by
 unfold sortI
 simp only [ysw]
 rw [if_pos (by rw [length_map];omega)]
 have ez:(m.map fun p=>(p.1:Int)).zip (sA m)=m.map fun p=>((p.1:Int),PV.int p.2.1):=by
  unfold sA
  rw [List.zip_map']
 rw [ez]
 have pm:=yfp (m.map fun p=>((p.1:Int),PV.int p.2.1))
 have ndz:((m.map fun p=>((p.1:Int),PV.int p.2.1)).map (·.1)).Nodup:=by
  rw [map_map]
  have:(m.map ((·.1) ∘ fun p=>((p.1:Int),PV.int p.2.1)))=(m.map (·.1)).map (fun k:Nat=>(k:Int)):=by rw [map_map];rfl
  rw [this]
  exact List.Pairwise.map _ (fun a b e z=>e (by omega)) nd
 have st:(ynl (m.map fun p=>((p.1:Int),PV.int p.2.1))).Pairwise fun a b=>a.1<b.1:=by
  have n2:((ynl (m.map fun p=>((p.1:Int),PV.int p.2.1))).map (·.1)).Nodup:=(pm.map _).nodup_iff.mpr ndz
  have n3:=List.pairwise_map.mp n2
  exact (List.pairwise_and_iff.mpr ⟨ykq _,n3⟩).imp fun h=>by have:=h.1;have:=h.2;omega
 have rt:(((List.range W).filter P).map fun k:Nat=>((k:Int),PV.int (bx.getD k 0))).Pairwise fun a b=>a.1<b.1:=by
  refine List.Pairwise.map _ (fun a b e=>?_) (List.Pairwise.filter _ List.pairwise_lt_range)
  show ((a:Nat):Int)<b
  omega
 have e:=yho st rt fun z=>by
  rw [pm.mem_iff]
  constructor
  .intro hz
   obtain ⟨p,hp,rfl⟩:=List.mem_map.mp hz
   refine List.mem_map.mpr ⟨p.1,List.mem_filter.mpr ⟨List.mem_range.mpr (hb p hp),(hk p.1 (hb p hp)).mp (List.mem_map_of_mem hp)⟩,?_⟩
   rw [hv p hp]
  .intro hz
   obtain ⟨k,hk',rfl⟩:=List.mem_map.mp hz
   obtain ⟨k1,k2⟩:=List.mem_filter.mp hk'
   obtain ⟨p,hp,rfl⟩:=List.mem_map.mp ((hk k (List.mem_range.mp k1)).mpr k2)
   exact List.mem_map.mpr ⟨p,hp,by rw [hv p hp]⟩
 rw [e,map_map]
 rfl
theorem yyS {a b:Str}(e:a.cps.toList=b.cps.toList):a=b:=by
 cases a;cases b
 exact congrArg _ (Array.toList_inj.mp e)
theorem yEB (a b:Str):(a++b).cps.toList=a.cps.toList++b.cps.toList:=Array.toList_append
theorem yBU (s a b:Str) (r:List Str):Str.join s (a::b::r)=a++s++Str.join s (b::r):=rfl
theorem join_1 (s a:Str):Str.join s [a]=a:=rfl
def fS (X:Str):Str:="let a "++X++" ; take b a"
def gS (Y:Str):Str:="let a "++Y++" ; take c a"
def bS (X Y:Str):Str:="let a "++X++" ; let b "++Y
noncomputable def dS (w:Nat) (X Y:Str):Str:=match w with
 | 0=>fS X++" ; wait"
 | 1=>"either ( "++fS X++" ; wait ) or ( "++gS Y++" ; wait )"
 | 2=>"let a "++X++" ; put a b ; take c a ; wait"
 | 3=>"try ( "++fS X++" ; put a a ; wait ) on low c ( )"
 | 4=>fS X++" ; either ( "++gS Y++" ; wait ) or ( wait )"
 | 5=>bS X Y++" ; take c a"
 | 6=>bS X Y++" ; put a b ; throw low b"
 | 7=>"either ( "++bS X Y++" ; put a b ; wait ) or ( )"
 | _=>bS X Y++" ; put a b"
section
variable {h:AH}{x y:Int}
theorem slA:yen "a":=⟨97,by decide,by decide,by rfl'⟩
theorem ypO:yen "b":=⟨98,by decide,by decide,by rfl'⟩
theorem slC:yen "c":=⟨99,by decide,by decide,by rfl'⟩
theorem nmL:yjB "low":=⟨by rfl',by rfl',by rfl'⟩
theorem yFG (hx:0<=x/\x<B64) (hy:0<=y/\y<B64):∀ w:Nat,gdL (dT w x y)
 | 0=>⟨⟨slA,hx⟩,⟨ypO,slA⟩,trivial,trivial⟩
 | 1=>⟨⟨⟨⟨slA,hx⟩,⟨ypO,slA⟩,trivial,trivial⟩,⟨⟨slA,hy⟩,⟨slC,slA⟩,trivial,trivial⟩⟩,trivial⟩
 | 2=>⟨⟨slA,hx⟩,⟨slA,ypO⟩,⟨slC,slA⟩,trivial,trivial⟩
 | 3=>⟨⟨nmL,slC,⟨⟨slA,hx⟩,⟨ypO,slA⟩,⟨slA,slA⟩,trivial,trivial⟩,trivial⟩,trivial⟩
 | 4=>⟨⟨slA,hx⟩,⟨ypO,slA⟩,⟨⟨⟨slA,hy⟩,⟨slC,slA⟩,trivial,trivial⟩,⟨trivial,trivial⟩⟩,trivial⟩
 | 5=>⟨⟨slA,hx⟩,⟨ypO,hy⟩,⟨slC,slA⟩,trivial⟩
 | 6=>⟨⟨slA,hx⟩,⟨ypO,hy⟩,⟨slA,ypO⟩,⟨nmL,ypO⟩,trivial⟩
 | 7=>⟨⟨⟨⟨slA,hx⟩,⟨ypO,hy⟩,⟨slA,ypO⟩,trivial,trivial⟩,trivial⟩,trivial⟩
 | _+8=>⟨⟨slA,hx⟩,⟨ypO,hy⟩,⟨slA,ypO⟩,trivial⟩
theorem lt9 {P:Nat->Prop}(h0:P 0) (h1:P 1) (h2:P 2) (h3:P 3) (h4:P 4) (h5:P 5) (h6:P 6) (h7:P 7) (h8:P 8):∀ w,w<9->P w
 | 0,_=>h0|1,_=>h1|2,_=>h2|3,_=>h3|4,_=>h4|5,_=>h5|6,_=>h6|7,_=>h7|8,_=>h8
 | n+9,h=>absurd h (by omega)
theorem yEC:∀ w,w<9->rdL (dT w 0 0)<=8/\(ycE (dT w 0 0)).sum<=79:=by apply lt9<;>rfl'
theorem yED:∀ w,w<9->rdL (dT w x y)=rdL (dT w 0 0)/\ycE (dT w x y)=ycE (dT w 0 0):=by apply lt9<;>exact ⟨by kernel_rfl!,by kernel_rfl!⟩
theorem yGf {w:Nat}(hw:w<9) (hx:0<=x/\x<B64) (hy:0<=y/\y<B64):OkL (dT w x y):=by
 obtain ⟨e1,e2⟩:=yED (x:=x) (y:=y) w hw
 obtain ⟨e3,e4⟩:=yEC w hw
 exact ⟨yFG hx hy w,by rw [e1];exact e3,by rw [e2];exact e4⟩
theorem yEE (hx:0<=x/\x<B64) (hy:0<=y/\y<B64) {w:Nat}(hw:w<9):dS w (toString x:String) (toString y:String)=ywj (dT w x y):=by
 refine .trans ?_ (yeo _ (yFG hx hy w)).symm
 revert hw
 refine lt9 (P:=fun w=>dS w (toString x:String) (toString y:String)=Str.join " " (wdL (dT w x y))) ?_ ?_ ?_ ?_ ?_ ?_ ?_ ?_ ?_ w<;>refine yyS ?_<;>simp only [dS,fS,gS,bS,dT,wdL,wdT,wdR,wsd,List.cons_append,List.nil_append,append_nil,yBU,join_1,yEB,append_assoc]<;>kernel_rfl!
end
def ysX (c:Int):Int:=if c%3=1 then c/3%5 else if c%3=2 then 18446744073709551616-1-c/3%5 else c/3%18446744073709551616
theorem ysx (c:Int):0<=ysX c/\ysX c<B64:=by
 unfold ysX B64
 repeat' split
 all_goals omega
def ygB (w:Nat) (x y:Nat):List Nat:=match w with|0=>[x]|1=>[x,y]|2=>[]|3=>[x]|_=>[x,y]
def ykL (w:Nat):Nat:=match w with|0=>2|2=>3|3=>4|_=>8
structure Dd where
 w:Nat
 b:Nat
 n:Int
def Dd.txt (d:Dd):Str:=dS d.w (toString (d.b:Int):String) (toString d.n:String)
def Dd.tur (d:Dd):Nat:=if d.w=7 then 6 else 4
def Dd.end_ (d:Dd):Str:=if d.w=6 then "fell" else "done"
def Dd.box (d:Dd):PV:=if d.w=8 then .int (d.b:Nat) else .non
def ybd (d:Dd):PV:=.tup [.str d.txt,.int (d.tur:Nat),.str d.end_,d.box,.int d.n]
noncomputable def ddV (bx:List Int) (c:Int):Dd:=⟨if yin c%6=0 then 5 else if yin c%6=1 then 6 else if yin c%6=2 then 7 else 8,(yin c/18%bx.length).toNat,if yin c/6%3=0 then bx.getD (yin c/18%bx.length).toNat 0 else ysX c⟩
section
variable {h:AH}
theorem yfg (c:Int):ybS [.int c] h=some (.int (ysX c),h):=by
 unfold ybS
 rw [yo]
 show ob (yl _ _ [.val (.int c),.no] h) fnK=_
 symm
 unfold ysX
 split
 .rfl
 .split<;>rfl
theorem yeq {ns:List Int}(k:Nat):yM [.scr ns,.int (k:Nat)] h=some (.int (ns.getD k 0),h):=by
 unfold yM
 rw [yo]
 show ob (yl _ _ [.val (.scr ns),.val (.int (k:Nat))] h) fnK=_
 by_cases e:k<ns.length
 .have e1:(((k:Nat):Int)<(ns.length:Nat))=True:=eq_true (by omega)
  have e3:atI ns (k:Nat)=some (ns.getD k 0):=ydn (by rw [List.getElem?_eq_getElem e,getD_eq_getElem?_getD,List.getElem?_eq_getElem e];rfl)
  have e2:ycs (.scr ns) (.int (k:Nat)) h=some (.int (ns.getD k 0),h):=by
   unfold ycs
   simp only [e3]
  simp_all? only [e1,e2,e3]
 .have e1:(((k:Nat):Int)<(ns.length:Nat))=False:=eq_false (by omega)
  rw [show ns.getD k 0=0 by rw [getD_eq_getElem?_getD,getElem?_eq_none (by omega)];rfl]
  simp_all? only [e1]
theorem ysy {n:Int}(hn:0<=n/\n<B64):n.natAbs.log2<1920:=by
 by_cases hz:n.natAbs=0
 .rw [hz];decide
 .rw [Nat.log2_lt hz]
  have e1:n.natAbs<2 ^ 64:=by
   have:(2:Nat) ^ 64=18446744073709551616:=by decide
   rw [this]
   unfold B64 at hn
   omega
  exact lt_of_lt_of_le e1 (Nat.pow_le_pow_right (by decide) (by decide))
theorem yvj {n:Int}(hn:0<=n/\n<B64):ykf [.int n] h=some (.str (toString n:String),h):=by rw [yvR,if_pos (ysy hn)]
theorem yvk {n:Int}(hn:0<=n/\n<B64):(Str.ofString (toString n)).length<=20:=str_len hn.1 (by decide) (Int.lt_trans hn.2 yrP)
theorem ypP {x y:Nat}(hx:x<16) (hy:y<16):∀ w,w<5->ycw [.int (w:Nat),.int (x:Nat),.int (y:Nat)] h=some (.tup [.str (dS w (toString (x:Int):String) (toString (y:Int):String)),.lst ((ygB w x y).map fun k=>.int (k:Nat)),.int (ykL w:Nat)],h):=by
 have bx:(0:Int)<=(x:Nat)/\((x:Nat):Int)<B64:=by unfold B64;omega
 have by_:(0:Int)<=(y:Nat)/\((y:Nat):Int)<B64:=by unfold B64;omega
 have s1:=yvj (h:=h) bx
 have s2:=yvj (h:=h) by_
 have g1:=eq_true (ysy bx)
 have g2:=eq_true (ysy by_)
 have l1:=yvk bx
 have l2:=yvk by_
 intro w hw
 unfold ycw
 rw [yo]
 show ob (yl _ _ [.val (.int (w:Nat)),.val (.int (x:Nat)),.val (.int (y:Nat)),.no,.no] h) fnK=_
 rcases (show w=0\/w=1\/w=2\/w=3\/w=4 by omega) with rfl|rfl|rfl|rfl|rfl
 all_goals
  simp_all? only [s1,s2,g1,g2]
  repeat first|rw [if_neg (by omega)]|rw [if_pos (by first|omega|(simp_all? only [yeF];omega))]
 all_goals rfl
end
def wOf (m:Int):Nat:=if m%6=0 then 5 else if m%6=1 then 6 else if m%6=2 then 7 else 8
section
variable {h:AH}
theorem yBV {c m n:Int}{b:Nat}{v:PVar}(hb:b<16) (hn:0<=n/\n<B64):ob (deT [.val (.int c),v,.val (.int m),.val (.int (b:Nat)),.val (.int n),.no,.no] h) fnK=some (ybd ⟨wOf m,b,n⟩,h):=by
 have bx:(0:Int)<=(b:Nat)/\((b:Nat):Int)<B64:=by unfold B64;omega
 have s1:=yvj (h:=h) bx
 have s2:=yvj (h:=h) hn
 have g1:=eq_true (ysy bx)
 have g2:=eq_true (ysy hn)
 have l1:=yvk bx
 have l2:=yvk hn
 unfold ybd Dd.txt
 unfold deT
 simp_all? only [s1,s2,g1,g2]
 have hm:m%6=0\/m%6=1\/m%6=2\/(¬ m%6=0/\¬ m%6=1/\¬ m%6=2):=by omega
 rcases hm with e|e|e|e
 .rw [show wOf m=5 by unfold wOf;rw [if_pos e]]
  repeat first|rw [if_neg (by omega)]|rw [if_pos (by first|omega|(simp_all? only [yeF];omega))]
  rfl
 .rw [show wOf m=6 by unfold wOf;rw [if_neg (by omega),if_pos e]]
  repeat first|rw [if_neg (by omega)]|rw [if_pos (by first|omega|(simp_all? only [yeF];omega))]
  rfl
 .rw [show wOf m=7 by unfold wOf;rw [if_neg (by omega),if_neg (by omega),if_pos e]]
  repeat first|rw [if_neg (by omega)]|rw [if_pos (by first|omega|(simp_all? only [yeF];omega))]
  rfl
 .rw [show wOf m=8 by unfold wOf;rw [if_neg e.1,if_neg e.2.1,if_neg e.2.2]]
  repeat first|rw [if_neg (by omega)]|rw [if_pos (by first|omega|(simp_all? only [yeF];omega))]
  rfl
theorem ywn {st:List Int}{c:Int}(h1:1<=st.length) (h16:st.length<=16) (hs:∀ i∈st,0<=i/\i<B64):(ddV st c).w=wOf (yin c)/\(ddV st c).b<st.length/\(0<=(ddV st c).n/\(ddV st c).n<B64)/\yin c/18%(st.length:Nat)=((ddV st c).b:Nat):=by
 have a:=Int.emod_nonneg (yin c/18) (show (st.length:Int)≠0 by omega)
 have b:=Int.emod_lt_of_pos (yin c/18) (show (0:Int)<st.length by omega)
 refine ⟨rfl,?_,?_,?_⟩
 .show (yin c/18%st.length).toNat<_
  omega
 .show 0<=(if yin c/6%3=0 then st.getD (yin c/18%st.length).toNat 0 else ysX c)/\(if yin c/6%3=0 then st.getD (yin c/18%st.length).toNat 0 else ysX c)<B64
  split
  .refine hs _ ?_
   have hlt:(yin c/18%st.length).toNat<st.length:=by omega
   rw [getD_eq_getElem?_getD,List.getElem?_eq_getElem hlt]
   exact getElem_mem hlt
  .exact ysx c
 .show _=(((yin c/18%st.length).toNat:Nat):Int)
  omega
theorem yyT {n:Nat}{st:List Int}{c:Int}(e:h[n]?=some (.lst (st.map .int))) (h1:1<=st.length) (h16:st.length<=16) (hs:∀ i∈st,0<=i/\i<B64):yeE [.int c,.loc n] h=some (ybd (ddV st c),h):=by
 obtain ⟨e1,e2,e3,e4⟩:=ywn (c:=c) h1 h16 hs
 have en:(ddV st c).n=if yin c/6%3=0 then st.getD (ddV st c).b 0 else ysX c:=rfl
 have ed:ddV st c=⟨wOf (yin c),(ddV st c).b,(ddV st c).n⟩:=rfl
 have fin:=yBV (h:=h) (c:=c) (m:=yin c) (v:=.val (.loc n)) (show (ddV st c).b<16 by omega) e3
 rw [ed]
 generalize (ddV st c).b=b at *
 generalize (ddV st c).n=v at *
 have mx:c*48271%2147483647=yin c:=rfl
 have mk:MulOk c 48271=True:=yoo (by decide) (by decide)
 have ln:yca [.loc n] h=some (.int (st.length:Nat),h):=by rw [yeU e,length_map]
 have md:oMod (.int (yin c/18)) (.int (st.length:Nat)) h=some (.int (b:Nat),h):=by
  symm
  rw [if_pos (by omega),e4]
 have ix:=yeK e e2
 unfold yeE
 rw [yo]
 show ob (yl _ (yl _ (yl _ (yl _ deT))) [.val (.int c),.val (.loc n),.no,.no,.no,.no,.no] h) fnK=_
 by_cases e6:yin c/6%3=0
 .rw [if_pos e6] at en
  rw [en] at fin ⊢
  simp_all? only [mk,mx,ln,md,yfg,e6,ix]
  exact fin
 .rw [if_neg e6] at en
  rw [en] at fin ⊢
  simp_all? only [mk,mx,ln,md,yfg,e6]
  exact fin
end
def Z8:List Int:=[0,0,0,0,0,0,0,0]
abbrev Fr (h h':AH):Prop:=∀ m,At h m->At h' m
def Rdb (d:Str×List Rw):Prop:=∀ h:AH,∃ h',ybg ygs (yc (ybg ylX (yc (yf 0) yi)) yi) [.val (.str d.1)] h=some (.lst (d.2.map yT),h')/\Fr h h'
def txV (d:Str×List Rw):PV:=.str d.1
def ymv (d:Str×List Rw):PV:=.lst (d.2.map yT)
section
variable {h:AH}{w:Int}
theorem At.seen {m:List (Nat×Nd)}{d d':Nd}(A:At h m):At ((h++[d]).set h.length d') m:=⟨A.1,fun p hp=>by
 have:=A.lt hp
 rw [getElem?_set_ne (by omega),getElem?_append_left this];exact A.2 p hp⟩
theorem At.one {n:Nat}{d:Nd}(e:h[n]?=some d):At h [(n,d)]:=⟨by simp,fun p hp=>by rw [List.mem_singleton.mp hp];exact e⟩
theorem Fr.get {h h':AH}(F:Fr h h') {n:Nat}{d:Nd}(e:h[n]?=some d):h'[n]?=some d:=(F _ (At.one e)).get 0 rfl
theorem ysz {α:Type}{n:Nat}{E:XE}{inn:PV->PSt}{f g:α->PV}{l:List α}{P:AH->Prop}(hP:∀ h h',Fr h h'->P h->P h') (hE:∀ h a,a∈l->P h->∃ h',E (inn (f a)) h=some (g a,h')/\Fr h h'):∀ (k i:Nat) (h:AH),h[n]?=some (.lst (l.map f))->P h->i+k=l.length->∃ h',ypY n E inn k i h=some ((l.drop i).map g,h')/\Fr h h'
 | 0,i,h,e,_,hi=>by
  refine ⟨h,?_,fun _ A=>A⟩
  unfold ypY
  simp only [e]
  rw [if_pos (by rw [length_map];omega),List.drop_of_length_le (by omega)]
  rfl
 | k+1,i,h,e,p,hi=>by
  have hlt:i<l.length:=by omega
  obtain ⟨h1,q1,q2⟩:=hE h l[i] (getElem_mem hlt) p
  obtain ⟨h2,q3,q4⟩:=ysz hP hE k (i+1) h1 (Fr.get q2 e) (hP _ _ q2 p) (by omega)
  refine ⟨h2,?_,fun m A=>q4 m (q2 m A)⟩
  unfold ypY
  simp only [e]
  rw [show (l.map f)[i]?=some (f l[i]) by rw [getElem?_map,List.getElem?_eq_getElem hlt];rfl]
  simp only [q1,ybF,q3]
  rw [List.drop_eq_getElem_cons hlt]
  rfl
theorem ykM {α:Type}{n:Nat}{E:XE}{f g:α->PV}{l:List α}{P:AH->Prop}(hP:∀ h h',Fr h h'->P h->P h') (hE:∀ h a,a∈l->P h->∃ h',E [.val (f a)] h=some (g a,h')/\Fr h h') (e:h[n]?=some (.lst (l.map f))) (p:P h) (hl:l.length<=10000):∃ h',yeV (yf 0) [] E [.val (.loc n)] h=some (.lst (l.map g),h')/\Fr h h':=by
 obtain ⟨h',q1,q2⟩:=ysz (inn:=yfw [] [.val (.loc n)]) hP hE l.length 0 h e p (by omega)
 refine ⟨h',?_,q2⟩
 unfold yeV
 rw [show yf 0 [.val (.loc n)] h=some (.loc n,h) from rfl,ybF]
 simp only [e]
 rw [if_pos (by rw [length_map];omega),length_map,q1]
 rfl
theorem yvl {n:Nat}{ds:List (Str×List Rw)}(hd:∀ d∈ds,Rdb d) (hl:ds.length<=100) (e:h[n]?=some (.lst (ds.map txV))):∃ h',ych [.loc n] h=some (.lst (ds.map ymv),h')/\Fr h h':=by
 obtain ⟨h',q1,q2⟩:=ykM (f:=txV) (g:=ymv) (P:=fun _=>True) (fun _ _ _ _=>trivial) (fun h a ha _=>hd a ha h) e trivial (by omega)
 refine ⟨h',?_,q2⟩
 unfold ych
 rw [yo]
 show ob (yP (xFz (yeV _ _ _)) [.val (.loc n)] h) fnK=_
 rw [yrg,yCq,q1]
 rfl
theorem yvm {n:Nat}{hs:List (Nat×List (Str×List Rw))}(hd:∀ p∈hs,p.2.length<=6/\∀ d∈p.2,Rdb d) (h1:1<=hs.length) (h8:hs.length<=8) (e:h[n]?=some (.lst (hs.map fun p=>.loc p.1))) (el:∀ p∈hs,h[p.1]?=some (.lst (p.2.map txV))):∃ h',yci [.loc n] h=some (.lst (hs.map fun p=>.lst (p.2.map ymv)),h')/\Fr h h':=by
 have hP:∀ h h',Fr h h'->(∀ p∈hs,h[p.1]?=some (.lst (p.2.map txV)))->∀ p∈hs,h'[p.1]?=some (.lst (p.2.map txV)):=fun h h' F k p hp=>Fr.get F (k p hp)
 obtain ⟨k1,q1,q2⟩:=ykM (E:=xOp (oGt) (xCB (yca) (yc (yf 0) (yi))) (xC (.int 6))) (f:=fun p:Nat×List (Str×List Rw)=>.loc p.1) (g:=fun _=>.bl false) hP (fun h a ha k=>⟨h,by
  have l1:=yeU (k a ha)
  have l2:((6:Int)<((a.2.map txV).length:Nat))=False:=eq_false (by have:=(hd _ ha).1;rw [length_map];omega)
  simp_all? only [l1,l2],fun _ A=>A⟩) e el (by omega)
 obtain ⟨h',q3,q4⟩:=ykM (E:=ybg ych (yc (yf 0) (yi))) (f:=fun p:Nat×List (Str×List Rw)=>.loc p.1) (g:=fun p=>.lst (p.2.map ymv)) hP (fun h a ha k=>yvl (hd a ha).2 (by have:=(hd a ha).1;omega) (k a ha)) (Fr.get q2 e) (hP _ _ q2 el) (by omega)
 have an:∀ h,yut [.lst (hs.map fun _=>PV.bl false)] h=some (.bl false,h):=fun h=>by
  unfold yut ybL
  simp only [ynB (fun _:Nat×List (Str×List Rw)=>false)]
  rw [show (hs.map fun _=>false).any id=false by simp]
 refine ⟨h',?_,fun m A=>q4 m (q2 m A)⟩
 have l1:((1:Int)<=((hs.map fun p=>PV.loc p.1).length:Nat))=True:=eq_true (by rw [length_map];omega)
 have l2:((((hs.map fun p=>PV.loc p.1).length:Nat):Int)<=8)=True:=eq_true (by rw [length_map];omega)
 unfold yci
 rw [yo]
 show ob (yl _ _ [.val (.loc n)] h) fnK=_
 simp_all? only [yeU e,l1,l2,q1,an,q3]
noncomputable def hv (k:Nat) (ds:List PV) (w:Int):Nd:=.ins 14 ((["deeds","width","nth","sleeps","before"]:List Str).take k) (([.lst ds,.int w,.int 0,.bl false,.lst (Z8.map .int)]:List PV).take k)
theorem ysA {ds rows:List PV}(hr:Due ds 0 rows):∃ h' c',ybu [.loc h.length,.lst ds,.int w] (h++[Nd.ins 14 [] []])=some (.non,h')/\∀ m,At h m->RR w rows ((h.length,ydl ds w 0 false Z8 c'.rn)::m) h' c' (S0 Z8):=by
 have N:∀ {k:AH}{d d':Nd},k[h.length]?=some d->(k.set h.length d')[h.length]?=some d':=fun e=>getElem?_set_self (List.getElem?_eq_some_iff.mp e).1
 have n0:(h++[Nd.ins 14 [] []])[h.length]?=some (hv 0 ds w):=by simp [hv]
 generalize hk0:h++[Nd.ins 14 [] []]=k0 at *
 have s1:∀ ρ,fL [14] "deeds" ρ (.lst ds) (.loc h.length) k0=some (.nx ρ,k0.set h.length (hv 1 ds w)):=fun ρ=>yfA n0 (by decide) (by kernel_rfl!)
 have n1:=N (d':=hv 1 ds w) n0
 have s2:∀ ρ,fL [12,14] "width" ρ (.int w) (.loc h.length) (k0.set h.length (hv 1 ds w))=some (.nx ρ,(k0.set h.length (hv 1 ds w)).set h.length (hv 2 ds w)):=fun ρ=>yfA n1 (by decide) (by kernel_rfl!)
 have n2:=N (d':=hv 2 ds w) n1
 rw [List.set_set] at s2 n2
 have s3:∀ ρ,fL [14] "nth" ρ (.int 0) (.loc h.length) (k0.set h.length (hv 2 ds w))=some (.nx ρ,(k0.set h.length (hv 2 ds w)).set h.length (hv 3 ds w)):=fun ρ=>yfA n2 (by decide) (by kernel_rfl!)
 have n3:=N (d':=hv 3 ds w) n2
 rw [List.set_set] at s3 n3
 have s4:∀ ρ,fL [14] "sleeps" ρ (.bl false) (.loc h.length) (k0.set h.length (hv 3 ds w))=some (.nx ρ,(k0.set h.length (hv 3 ds w)).set h.length (hv 4 ds w)):=fun ρ=>yfA n3 (by decide) (by kernel_rfl!)
 have n4:=N (d':=hv 4 ds w) n3
 rw [List.set_set] at s4 n4
 have s5:∀ ρ,fL [14] "before" ρ (.lst (Z8.map .int)) (.loc h.length) (k0.set h.length (hv 4 ds w))=some (.nx ρ,(k0.set h.length (hv 4 ds w)).set h.length (hv 5 ds w)):=fun ρ=>yfA n4 (by decide) (by kernel_rfl!)
 have n5:=N (d':=hv 5 ds w) n4
 rw [List.set_set] at s5 n5
 obtain ⟨h',c',q1,q2⟩:=yhc (rows:=rows) (nth:=0) (bf:=Z8) (w:=w) (ds:=ds) (fl 0 n5 (by decide) (by rfl') rfl) (fl 1 n5 (by decide) (by rfl') rfl) (fl 2 n5 (by decide) (by rfl') rfl) (fl 4 n5 (by decide) (by rfl') rfl) hr
 have R:∀ m,At h m->RR w rows ((h.length,hv 5 ds w)::m) h' c' (S0 Z8):=fun m A=>q2 _ (by
  have A1:=At.new (Nd.ins 14 [] []) (a:=[]) A
  rw [hk0] at A1
  exact At.upd (a:=[]) (hv 5 ds w) A1)
 have e0:At h []:=⟨List.nodup_nil,fun p hp=>by simp at hp⟩
 have n6:h'[h.length]?=some (hv 5 ds w):=(R [] e0).rest.get 0 rfl
 have s6:∀ ρ,fL [14] "run" ρ (.loc c'.rn) (.loc h.length) h'=some (.nx ρ,h'.set h.length (ydl ds w 0 false Z8 c'.rn)):=fun ρ=>yfA n6 (by decide) (by kernel_rfl!)
 refine ⟨_,c',?_,fun m A=>RR.urest (a:=[]) _ (R m A)⟩
 have l0:∀ k,yV [.lst ds] k=some (.lst ds,k):=fun _=>rfl
 unfold ybu
 rw [yo]
 show ob (yl _ _ [.val (.loc h.length),.val (.lst ds),.val (.int w)] k0) fnK=_
 simp_all? only [ysU,l0,s1,s2,s3,s4]
 rw [if_pos (by decide),show PV.lst (repL ((8:Nat):Int).toNat [PV.int 0])=.lst (Z8.map .int) from rfl]
 simp_all? only [ysU,s5,yef,yB (m:="new_run") n5 (by rfl'),q1,s6]
end
section
variable {h:AH}{w:Int}
theorem yBW {i:Int}(hi:0<=i/\i<B64):ycX [.int i] h=some (.bl true,h):=by
 have e1:yek [.int i] h=some (.bl true,h):=by kernel_rfl!
 have e2:(0<=i)=True:=eq_true hi.1
 have e3:(i<18446744073709551616)=True:=eq_true hi.2
 unfold ycX
 rw [yo]
 show ob (yP _ [.val (.int i)] h) fnK=_
 simp_all? only [e1,e2,e3]
theorem ysB {ρ:PSt}:∀ bx:List Int,(∀ i∈bx,0<=i/\i<B64)->yke (ybg ycX (yc (yf 0) (yi))) (yfw [] ρ) (bx.map .int) h=some (replicate bx.length (.bl true),h)
 | [],_=>rfl
 | i::bx,hb=>by
  show ob (ycX [.int i] h) _=_
  rw [yBW (hb i mem_cons_self),ybF]
  show ob (yke _ _ (bx.map .int) h) _=_
  rw [ysB bx fun j hj=>hb j (mem_cons_of_mem _ hj),ybF]
  rfl
theorem ysC:∀ n,yhP (replicate n (PV.bl true))=some (replicate n true)
 | 0=>rfl
 | n+1=>by
  rw [List.replicate_succ,List.replicate_succ]
  unfold yhP
  simp only [ysC n]
  try rfl
theorem yvn {bx:List Int}(h1:1<=bx.length) (h16:bx.length<=16) (hb:∀ i∈bx,0<=i/\i<B64):ydz [.lst (bx.map .int)] h=some (.non,h):=by
 have e1:=ysB (h:=h) (ρ:=[.val (.lst (bx.map .int))]) bx hb
 have e2:yvM [.lst (replicate bx.length (PV.bl true))] h=some (.bl true,h):=by
  unfold yvM ybL
  simp only [ysC]
  rw [List.all_eq_true.mpr fun x hx=>by rw [List.eq_of_mem_replicate hx];rfl]
 have i1:xIL (yf 0) [.val (.lst (bx.map .int))] h=some (bx.map .int,h):=rfl
 have l1:(((bx.map PV.int).length:Nat):Int)=bx.length:=by rw [length_map]
 have l2:((1:Int)<=(bx.length:Nat))=True:=eq_true (by omega)
 have l3:(((bx.length:Nat):Int)<=16)=True:=eq_true (by omega)
 have l4:((bx.map PV.int).length<=100000)=True:=eq_true (by rw [length_map];omega)
 unfold ydz
 rw [yo]
 show ob (yl _ _ [.val (.lst (bx.map .int))] h) fnK=_
 simp_all? only [l1,l2,l3,l4,i1,e1,e2]
end
noncomputable def av (k nu ma cr en:Nat):Nd:=.ins 15 ((["numbers","marks","crew","entries"]:List Str).take k) (([.loc nu,.loc ma,.loc cr,.loc en]:List PV).take k)
def hd0 (ds:List (Str×List Rw)):HD:=⟨ds.map ymv,0,false,Z8,match ds with|[]=>[]|d::_=>d.2.map yT,S0 Z8⟩
theorem yEF:∀ ds:List (Str×List Rw),Due (hd0 ds).ds 0 (hd0 ds).rows
 | []=>.inr ⟨rfl,rfl⟩
 | d::r=>.inl ⟨by simp [hd0],rfl⟩
section
variable {h:AH}{w:Int}
theorem yiD:∀ {as:List (Nat×Lc)}{xs:List HD}{m:List (Nat×Nd)},CR w as xs m=CR w as xs []++m
 | [],_,_=>by unfold CR;rfl
 | _::_,[],_=>by unfold CR;rfl
 | a::as,x::xs,m=>by
  show HN w a x (CR w as xs m)=HN w a x (CR w as xs [])++m
  rw [yhn,yhn (m:=CR w as xs []),yiD,append_assoc]
theorem yGg (n:Nat):repL ((n:Nat):Int).toNat [PV.int 0]=(replicate n (0:Int)).map .int:=by
 show (replicate n [PV.int 0]).flatten=_
 rw [List.map_replicate]
 induction n with
 | zero=>rfl
 | succ n ih=>rw [List.replicate_succ,List.replicate_succ,List.flatten_cons,ih];rfl
theorem ysD {bx:List Int}{ρ:PSt}(hρ:∀ x,yfw [1] ρ x=[.val x,.val (.lst (bx.map .int))]):∀ (hs:List (List (Str×List Rw))) (h:AH),∃ h' as,yke (yib 14 ybu (yc (yf 0) (yc (xCB (yca) (yc (yf 1) (yi))) (yi)))) (yfw [1] ρ) (hs.map fun ds=>.lst (ds.map ymv)) h=some ((as.map (·.1)).map .loc,h')/\LyOk as (hs.map hd0)/\∀ m,At h m->At h' (CR bx.length as (hs.map hd0) m)
 | [],h=>⟨h,[],rfl,trivial,fun _ A=>A⟩
 | ds::hs,h=>by
  obtain ⟨h1,c1,q1,q2⟩:=ysA (h:=h) (w:=bx.length) (yEF ds)
  obtain ⟨h',as,q3,q4,q5⟩:=ysD hρ hs h1
  have lw:(((bx.map PV.int).length:Nat):Int)=bx.length:=by rw [length_map]
  have e0:At h []:=⟨List.nodup_nil,fun p hp=>by simp at hp⟩
  refine ⟨h',(h.length,c1)::as,?_,⟨(q2 [] e0).len,q4⟩,fun m A=>?_⟩
  .show ob (yib 14 ybu _ (yfw [1] ρ (.lst (ds.map ymv))) h) _=_
   rw [hρ,yrx]
   have q1:ybu [.loc h.length,.lst (ds.map ymv),.int bx.length] (h++[Nd.ins 14 [] []])=some (.non,h1):=q1
   simp_all? only [lw,q1,q3]
   rfl
  .have R:=q2 m A
   have A1:At h1 (HN bx.length (h.length,c1) (hd0 ds) m):=by
    have A2:=R.at_
    rw [yiA] at A2
    show At h1 ((h.length,ydl (ds.map ymv) bx.length 0 false Z8 c1.rn)::RM _ _ _ _ _)
    rw [yiA]
    exact A2.perm List.perm_middle.symm
   have A3:=q5 _ A1
   rw [yiD,yhn] at A3
   show At h' (HN bx.length (h.length,c1) (hd0 ds) (CR bx.length as (hs.map hd0) m))
   rw [yhn,yiD]
   exact A3.perm (List.perm_append_comm_assoc _ _ _)
theorem ysE {bx:List Int}{n:Nat}{hs:List (Nat×List (Str×List Rw))}(h1:1<=bx.length) (h16:bx.length<=16) (hb:∀ i∈bx,0<=i/\i<B64) (hd:∀ p∈hs,p.2.length<=6/\∀ d∈p.2,Rdb d) (hh1:1<=hs.length) (hh8:hs.length<=8) (e:h[n]?=some (.lst (hs.map fun p=>.loc p.1))) (el:∀ p∈hs,h[p.1]?=some (.lst (p.2.map txV))) :
  ∃ h' g as,ycM [.loc h.length,.lst (bx.map .int),.loc n] (h++[Nd.ins 15 [] []])=some (.non,h')/\g.H=h.length/\∀ m,At h m->HH h' g bx.length bx (replicate bx.length 0) [] as (hs.map fun p=>hd0 p.2) m:=by
 have e0:At h []:=⟨List.nodup_nil,fun p hp=>by simp at hp⟩
 have A0:∀ m,At h m->At (h++[Nd.ins 15 [] []]) ((h.length,.ins 15 [] [])::m):=fun m A=>At.new _ (a:=[]) A
 have c0:=yvn (h:=h++[Nd.ins 15 [] []]) h1 h16 hb
 generalize h++[Nd.ins 15 [] []]=k0 at *
 have A1:∀ m,At h m->At (k0++[Nd.lst (bx.map .int)]) ((h.length,.ins 15 [] [])::(k0.length,.lst (bx.map .int))::m):=fun m A=>At.new _ (a:=[_]) (A0 m A)
 have s1:∀ ρ,fL [15] "numbers" ρ (.loc k0.length) (.loc h.length) (k0++[Nd.lst (bx.map .int)])=some (.nx ρ,(k0++[Nd.lst (bx.map .int)]).set h.length (av 1 k0.length 0 0 0)):=fun ρ=>yfA ((A1 [] e0).get 0 rfl) (by decide) (by kernel_rfl!)
 have A2:=fun m A=>At.upd (a:=[]) (av 1 k0.length 0 0 0) (A1 m A)
 generalize hnu:k0.length=nu at *
 generalize (k0++[Nd.lst (bx.map .int)]).set h.length (av 1 nu 0 0 0)=k1 at *
 have A3:∀ m,At h m->At (k1++[Nd.lst ((replicate bx.length (0:Int)).map .int)]) ((h.length,av 1 nu 0 0 0)::(nu,.lst (bx.map .int))::(k1.length,.lst ((replicate bx.length (0:Int)).map .int))::m):=fun m A=>At.new _ (a:=[_,_]) (A2 m A)
 have s2:∀ ρ,fL [15] "marks" ρ (.loc k1.length) (.loc h.length) (k1++[Nd.lst ((replicate bx.length (0:Int)).map .int)])=some (.nx ρ,(k1++[Nd.lst ((replicate bx.length (0:Int)).map .int)]).set h.length (av 2 nu k1.length 0 0)):=fun ρ=>yfA ((A3 [] e0).get 0 rfl) (by decide) (by kernel_rfl!)
 have A4:=fun m A=>At.upd (a:=[]) (av 2 nu k1.length 0 0) (A3 m A)
 generalize hma:k1.length=ma at *
 generalize (k1++[Nd.lst ((replicate bx.length (0:Int)).map .int)]).set h.length (av 2 nu ma 0 0)=k2 at *
 have F2:Fr h k2:=fun m A=>(A4 m A).sub (((List.Sublist.refl m).cons _).cons _ |>.cons _)
 obtain ⟨k3,q1,q2⟩:=yvm (h:=k2) hd hh1 hh8 (Fr.get F2 e) fun p hp=>Fr.get F2 (el p hp)
 obtain ⟨k4,as,q3,q4,q5⟩:=ysD (bx:=bx) (ρ:=[.val (.loc h.length),.val (.lst (bx.map .int)),.val (.loc n)]) (fun _=>rfl) (hs.map (·.2)) k3
 have R4:=fun m A=>q5 _ (q2 _ (A4 m A))
 have mm:(hs.map (·.2)).map hd0=hs.map fun p=>hd0 p.2:=by rw [map_map];rfl
 have mv:((hs.map (·.2)).map fun ds=>PV.lst (ds.map ymv))=hs.map fun p=>.lst (p.2.map ymv):=by rw [map_map];rfl
 rw [mm] at q4
 rw [mv] at q3
 have R4':∀ m,At h m->At k4 ((h.length,av 2 nu ma 0 0)::(nu,.lst (bx.map .int))::(ma,.lst ((replicate bx.length (0:Int)).map .int))::CR bx.length as (hs.map fun p=>hd0 p.2) m):=fun m A=>by
  have:=R4 m A
  rw [mm,yiD] at this
  rw [yiD]
  exact this.perm (show ([_,_,_]++(CR bx.length as (hs.map fun p:Nat×List (Str×List Rw)=>hd0 p.2) []++m)).Perm (CR bx.length as (hs.map fun p:Nat×List (Str×List Rw)=>hd0 p.2) []++([_,_,_]++m)) from List.perm_append_comm_assoc _ _ _)
 have R5:=fun m A=>At.new (Nd.lst ((as.map (·.1)).map .loc)) (a:=[_,_,_]) (R4' m A)
 have s3:∀ ρ,fL [15] "crew" ρ (.loc k4.length) (.loc h.length) (k4++[Nd.lst ((as.map (·.1)).map .loc)])=some (.nx ρ,(k4++[Nd.lst ((as.map (·.1)).map .loc)]).set h.length (av 3 nu ma k4.length 0)):=fun ρ=>yfA ((R5 [] e0).get 0 rfl) (by decide) (by kernel_rfl!)
 have R6:=fun m A=>At.upd (a:=[]) (av 3 nu ma k4.length 0) (R5 m A)
 generalize hcr:k4.length=cr at *
 generalize (k4++[Nd.lst ((as.map (·.1)).map .loc)]).set h.length (av 3 nu ma cr 0)=k6 at *
 have R7:=fun m A=>At.new (Nd.lst []) (a:=[_,_,_,_]) (R6 m A)
 have s4:∀ ρ,fL [15] "entries" ρ (.loc k6.length) (.loc h.length) (k6++[Nd.lst []])=some (.nx ρ,(k6++[Nd.lst []]).set h.length (av 4 nu ma cr k6.length)):=fun ρ=>yfA ((R7 [] e0).get 0 rfl) (by decide) (by kernel_rfl!)
 have R8:=fun m A=>At.upd (a:=[]) (av 4 nu ma cr k6.length) (R7 m A)
 refine ⟨_,⟨h.length,nu,ma,cr,k6.length⟩,as,?_,rfl,fun m A=>⟨R8 m A,q4⟩⟩
 have l0:∀ k,yV [.lst (bx.map .int)] k=some (.lst (bx.map .int),k):=fun _=>rfl
 have lw:(((bx.map PV.int).length:Nat):Int)=bx.length:=by rw [length_map]
 unfold ycM
 rw [yo]
 show ob (yl _ _ [.val (.loc h.length),.val (.lst (bx.map .int)),.val (.loc n)] k0) fnK=_
 simp_all? only [ysU,c0,l0,hnu,s1,lw]
 rw [if_pos (by omega),yGg]
 have i1:xIL (ybg yci (yc (yf 2) (yi))) [.val (.loc h.length),.val (.lst (bx.map .int)),.val (.loc n)] k2=some (hs.map fun p=>.lst (p.2.map ymv),k3):=by
  unfold xIL
  simp_all? only [q1]
 have l8:((hs.map fun p=>PV.lst (p.2.map ymv)).length<=100000)=True:=eq_true (by rw [length_map];omega)
 simp_all? only [ysU,hma,s2,i1,l8,q3,hcr,s3,s4]
end
def goN (w:Int) (bx sp:List Int) (rws:List Rw):Nat->RS->Option RS
 | 0,s=>some s
 | n+1,s=>match goT w bx sp rws s with|some s'=>goN w bx sp rws n s'|none=>none
theorem ysF {w:Int}{bx sp:List Int}{rws:List Rw}{b:Nat}{s2:RS}:∀ {a:Nat}{s s1:RS},goN w bx sp rws a s=some s1->goN w bx sp rws b s1=some s2->goN w bx sp rws (a+b) s=some s2
 | 0,s,s1,e1,e2=>by cases e1;rw [Nat.zero_add];exact e2
 | a+1,s,s1,e1,e2=>by
  rw [show a+1+b=(a+b)+1 by omega]
  unfold goN at e1 ⊢
  split at e1
  .exact ysF e1 e2
  .cases e1
section
variable {W:Int}{bx sp:List Int}{x y:Int}
theorem yEG {a0 a1 a2 a3 a4 a5 a6 a7:Int}:goN W bx sp (dR 5 x y) 3 (S0 [a0,a1,a2,a3,a4,a5,a6,a7])=some ⟨3,[x,y,bx.getD (x%W).toNat 0,a3,a4,a5,a6,a7],[],[([],[])],[((x%W).toNat,bx.getD (x%W).toNat 0,sp.getD (x%W).toNat 0)]⟩:=by kernel_rfl!
theorem yEH {a0 a1 a2 a3 a4 a5 a6 a7:Int}:goN W bx sp (dR 6 x y) 3 (S0 [a0,a1,a2,a3,a4,a5,a6,a7])=some ⟨3,[x,y,a2,a3,a4,a5,a6,a7],[],[([.inl (x%W)],[.int y])],[]⟩:=by kernel_rfl!
theorem yEI {a0 a1 a2 a3 a4 a5 a6 a7:Int}:goN W bx sp (dR 7 x y) 5 (S0 [a0,a1,a2,a3,a4,a5,a6,a7])=some ⟨7,[a0,a1,a2,a3,a4,a5,a6,a7],[],[([],[])],[]⟩:=by kernel_rfl!
theorem yEJ {a0 a1 a2 a3 a4 a5 a6 a7:Int}:goN W bx sp (dR 8 x y) 3 (S0 [a0,a1,a2,a3,a4,a5,a6,a7])=some ⟨3,[x,y,a2,a3,a4,a5,a6,a7],[],[([.inl (x%W)],[.int y])],[]⟩:=by kernel_rfl!
theorem yEK:goN W bx sp (dR 0 x y) 2 (S0 Z8)=some ⟨2,[x,bx.getD (x%W).toNat 0,0,0,0,0,0,0],[],[([],[])],[((x%W).toNat,bx.getD (x%W).toNat 0,sp.getD (x%W).toNat 0)]⟩:=by kernel_rfl!
theorem yEL:goN W bx sp (dR 1 x y) 6 (S0 Z8)=some ⟨8,[y,0,bx.getD (y%W).toNat 0,0,0,0,0,0],[],[([],[])],ydv [((x%W).toNat,bx.getD (x%W).toNat 0,sp.getD (x%W).toNat 0)] (y%W).toNat (bx.getD (y%W).toNat 0) (sp.getD (y%W).toNat 0)⟩:=by kernel_rfl!
theorem yEM:goN W bx sp (dR 3 x y) 4 (S0 Z8)=some ⟨4,[x,bx.getD (x%W).toNat 0,0,0,0,0,0,0],[(.guard "low" "c" 7,Z8)],[([],[]),([.inl (x%W)],[.int x])],[((x%W).toNat,bx.getD (x%W).toNat 0,sp.getD (x%W).toNat 0)]⟩:=by kernel_rfl!
theorem yEN:goN W bx sp (dR 4 x y) 6 (S0 Z8)=some ⟨8,[x,bx.getD (x%W).toNat 0,0,0,0,0,0,0],[],[([],[])],ydv [((x%W).toNat,bx.getD (x%W).toNat 0,sp.getD (x%W).toNat 0)] (y%W).toNat (bx.getD (y%W).toNat 0) (sp.getD (y%W).toNat 0)⟩:=by kernel_rfl!
def sw2 (x W:Int):RS:=⟨2,[x,0,0,0,0,0,0,0],[],[([.inl (x%W)],[.int 0])],[]⟩
theorem yEO:goN W bx sp (dR 2 x y) 3 (S0 Z8)=some { sw2 x W with t:=3 }:=by
 have e1:goN W bx sp (dR 2 x y) 2 (S0 Z8)=some (sw2 x W):=by kernel_rfl!
 refine ysF (b:=1) e1 ?_
 have o:ysV (sw2 x W) W "a" = .int 0:=by
  show (match (if (Sum.inl (x%W):Key)=.inl (x%W) then some (PV.int 0) else none) with|some z=>z|none=>PV.non)=_
  rw [if_pos rfl]
 have e2:goT W bx sp (dR 2 x y) (sw2 x W)=some { sw2 x W with t:=3 }:=by
  show (if (okS (sw2 x W) && okR (.take "c" "a"))=true then (if isN (ysV (sw2 x W) W "a")=true then _ else ynz W (.take "c" "a") (sw2 x W)) else none)=_
  rw [if_pos (by kernel_rfl!),o,if_neg (by decide)]
  show (if (okR (.take "c" "a") && okS (sw2 x W))=true then (match ysV (sw2 x W) W "a" with|.int v=>some (⟨3,(sw2 x W).hs.set (sx "c") v,[],(sw2 x W).dd,[]⟩:RS)|_=>none) else none)=_
  rw [if_pos (by kernel_rfl!),o]
  rfl
 unfold goN
 rw [e2]
 rfl
structure Saw (bx:List Int) (l:List Nat) (m:List (Nat×Int×Int)):Prop where
 val:∀ p∈m,bx.getD p.1 0=p.2.1
 key:∀ k,k∈m.map (·.1) ↔ k∈l
 len:m.length<3
theorem yBX {k:Nat}{v:Int}:Saw bx [k] [(k,bx.getD k 0,v)]:=⟨fun p hp=>by rw [List.mem_singleton.mp hp],fun j=>by simp,by simp⟩
theorem yBY {k j:Nat}{v u:Int}:Saw bx [k,j] (ydv [(k,bx.getD k 0,v)] j (bx.getD j 0) u):=by
 refine ⟨fun p hp=>?_,fun i=>?_,by unfold ydv;split<;>simp⟩
 .rcases ynF hp with rfl|hp
  .rfl
  .rw [List.mem_singleton.mp hp]
 .rw [ype]
  by_cases e:j=k
  .subst e;simp
  .rw [if_neg (by simpa using e)]
   simp
theorem ynG {Wn x y:Nat}(hx:x<Wn) (hy:y<Wn):∀ w,w<5->∃ n s',n<=8/\goN (Wn:Nat) bx sp (dR w (x:Nat) (y:Nat)) n (S0 Z8)=some s'/\(dR w (x:Nat) (y:Nat))[s'.t]?=some .wait/\okS s'=true/\yje (Wn:Nat) s' .wait=true/\s'.t=ykL w/\Saw bx (ygB w x y) s'.sn:=by
 have ex:(((x:Nat):Int)%(Wn:Nat)).toNat=x:=by rw [Int.emod_eq_of_lt (by omega) (by omega)];rfl
 have ey:(((y:Nat):Int)%(Wn:Nat)).toNat=y:=by rw [Int.emod_eq_of_lt (by omega) (by omega)];rfl
 intro w hw
 rcases (show w=0\/w=1\/w=2\/w=3\/w=4 by omega) with rfl|rfl|rfl|rfl|rfl
 .have r:=yEK (W:=(Wn:Nat)) (bx:=bx) (sp:=sp) (x:=(x:Nat)) (y:=(y:Nat))
  rw [ex] at r
  exact ⟨_,_,by decide,r,rfl,by kernel_rfl!,by kernel_rfl!,rfl,yBX⟩
 .have r:=yEL (W:=(Wn:Nat)) (bx:=bx) (sp:=sp) (x:=(x:Nat)) (y:=(y:Nat))
  rw [ex,ey] at r
  exact ⟨_,_,by decide,r,rfl,by kernel_rfl!,by kernel_rfl!,rfl,yBY⟩
 .exact ⟨_,_,by decide,yEO,rfl,by kernel_rfl!,by kernel_rfl!,rfl,⟨fun p hp=>(by cases hp),fun k=>Iff.rfl,by show 0<3;omega⟩⟩
 .have r:=yEM (W:=(Wn:Nat)) (bx:=bx) (sp:=sp) (x:=(x:Nat)) (y:=(y:Nat))
  rw [ex] at r
  exact ⟨_,_,by decide,r,rfl,by kernel_rfl!,by kernel_rfl!,rfl,yBX⟩
 .have r:=yEN (W:=(Wn:Nat)) (bx:=bx) (sp:=sp) (x:=(x:Nat)) (y:=(y:Nat))
  rw [ex,ey] at r
  exact ⟨_,_,by decide,r,rfl,by kernel_rfl!,by kernel_rfl!,rfl,yBY⟩
theorem yBZ {w:Nat}(hw:w<9) (hx:0<=x/\x<B64) (hy:0<=y/\y<B64):Rdb (dS w (toString x:String) (toString y:String),dR w x y):=by
 intro h
 have e1:=yyw (h:=h) (yGf hw hx hy)
 rw [<- yEE hx hy hw] at e1
 refine ⟨hR (h++[rdr (wdL (dT w x y)) 0]) h.length (wdL (dT w x y)) (0+(wdL (dT w x y)).length),?_,fun m A=>At.seen A⟩
 dsimp only
 simp_all? only [e1,ysd]
end
section
variable {h:AH}{w:Int}{g:HC}{bx sp:List Int}{en:List PV}{as as1 as2:List (Nat×Lc)}{xs xs1 xs2:List HD}{a:Nat×Lc}{own:List (Nat×Nd)}{n b0:Nat}{d:Nd}
theorem HH.own0 (X:HH h g w bx sp en as xs ((n,d)::own)):h[n]?=some d:=X.at_.2 (n,d) (by rw [yiD];simp)
theorem HH.uown (d':Nd) (X:HH h g w bx sp en as xs ((n,d)::own)):HH (h.set n d') g w bx sp en as xs ((n,d')::own):=by
 refine ⟨?_,X.ly⟩
 have A:=X.at_
 rw [yiD,<- append_assoc] at A ⊢
 exact At.upd d' A
theorem ywo {neg:Bool}{k:Nat}{l:List Nat}:ymt neg (.int (k:Nat)) (.lst (l.map fun j:Nat=>.int (j:Nat))) h=some (.bl (if neg then !decide (k∈l) else decide (k∈l)),h):=by
 have e1:∀ l:List Nat,svs (l.map fun j:Nat=>PV.int (j:Nat))=some (l.map fun j:Nat=>V.int (j:Nat)):=by
  intro l
  induction l with
  | nil=>rfl
  | cons a l ih =>
   show (match sv (PV.int (a:Nat)),svs (l.map fun j:Nat=>PV.int (j:Nat)) with|some v,some vs=>some (v::vs)|_,_=>none)=_
   rw [ih]
   rfl
 have e2:inV (.int (k:Nat)) (l.map fun j:Nat=>V.int (j:Nat))=decide (k∈l):=by
  unfold inV
  rw [List.any_map,Bool.eq_iff_iff,List.any_eq_true,decide_eq_true_iff]
  constructor
  .rintro ⟨j,hj,e⟩
   have:((j:Nat):Int)=(k:Nat):=by simpa [eqV] using e
   have:j=k:=by omega
   exact this ▸ hj
  .intro hk
   exact ⟨k,hk,by simp [eqV]⟩
 unfold ymt
 show (match some (V.int (k:Nat)),some (l.map fun j:Nat=>PV.int (j:Nat)) with|some v,some ys=>(match svs ys with|some us=>some (PV.bl (if neg then !inV v us else inV v us),h)|none=>none)|_,_=>none)=_
 simp only [e1,e2]
theorem yyU {xs:List PV}(e:yhr (eqP 40 h) xs xs=some true):yxF (.lst xs) (.lst xs) h=some (.bl false,h):=by
 unfold yxF pairE ybL
 simp only [e,if_true]
 rfl
theorem yph {n:Nat}:∀ l:List (Nat×Int),yhr (eqP (n+2) h) (l.map ydm) (l.map ydm)=some true
 | []=>rfl
 | _::l=>yiC (yyQ (yiC yvg (yiC yvg rfl))) (yph l)
theorem ysG {α:Type}{c:XT}{e:XE}{inn:PV->PSt}(f:α->PV) (P:α->Bool) (g:α->PV):∀ {ts:List α},(∀ t∈ts,c (inn (f t)) h=some (P t,h))->(∀ t∈ts,e (inn (f t)) h=some (g t,h))->yvY c e inn (ts.map f) h=some ((ts.filter P).map g,h)
 | [],_,_=>rfl
 | t::ts,k1,k2=>by
  have ih:=ysG f P g (fun y hy=>k1 y (mem_cons_of_mem _ hy)) (fun y hy=>k2 y (mem_cons_of_mem _ hy))
  show ob (c (inn (f t)) h) _=_
  rw [k1 t mem_cons_self,ybF]
  cases e:P t with
  | true =>
   rw [if_pos rfl,k2 t mem_cons_self,ybF,ih,ybF,List.filter_cons_of_pos e]
   rfl
  | false =>
   rw [if_neg (by decide),ih,List.filter_cons_of_neg (by simp [e])]
def slp (rows:List PV) (sl:Bool) (s:RS):HD:=⟨[.lst rows],0,sl,Z8,rows,s⟩
theorem yjh:(("asleep":Str) = "awake")=False:=eq_false (by rfl')
noncomputable def yze (bx:List Int) (l:List Nat):List PV:=((List.range bx.length).filter fun k=>decide (k∈l)).map fun k=>ydm (k,bx.getD k 0)
theorem yiE {rows:List PV}{s:RS}{l:List Nat}(X:HH h g bx.length bx sp en (a::as2) (slp rows true s::xs2) ((b0,.lst (bx.map .int))::own)) (F:NF bx.length s) (S:Saw bx l s.sn) (h16:bx.length<=16):ycO [.loc g.H,.lst (l.map fun j:Nat=>.int (j:Nat)),.loc b0] h=some (.bl true,h):=by
 have hL:sortI (sK s.sn) (sA s.sn)=some (yze bx l):=yyR F.nd F.hb S.val (fun k _=>by rw [S.key];simp) S.len
 have e1:=X.own0
 have st:ycj [.loc g.H,.int 0] h=some (.str "asleep",h):=ywm (as1:=[]) (xs1:=[]) X rfl
 have sw:yda [.loc g.H,.int 0] h=some (.lst (yze bx l),h):=yFF (as1:=[]) (xs1:=[]) X rfl hL
 have tn:yA [.loc g.H,.int 0] h=some (.tup [.str "idle"],h):=yEz (as1:=[]) (xs1:=[]) X rfl yjh
 have H0:h[g.H]?=some (yjd g.nu g.ma g.cr g.en):=X.at_.get 0 rfl
 have ne:=yyU (h:=h) (xs:=yze bx l) (by
  unfold yze
  rw [show (((List.range bx.length).filter fun k=>decide (k∈l)).map fun k=>ydm (k,bx.getD k 0))=(((List.range bx.length).filter fun k=>decide (k∈l)).map fun k=>(k,bx.getD k 0)).map ydm by rw [map_map];rfl]
  exact yph _)
 have eq:ypC (.tup [.str "idle"]) (.tup [.str "idle"]) h=some (.bl true,h):=ysu (yiC yBQ rfl) rfl
 have ln:yca [.loc b0] h=some (.int (bx.length:Nat),h):=by rw [yeU e1,length_map]
 have i1:ylH (yc (xCB (yca) (yc (yf 2) (yi))) (yi)) [.val (.loc g.H),.val (.lst (l.map fun j:Nat=>.int (j:Nat))),.val (.loc b0),.no] h=some (yeT 0 bx.length,h):=by
  show (match yca [.loc b0] h with|_=>_)=_
  unfold ylH
  simp_all? only [ln]
  rw [if_pos (by omega)]
  rfl
 have cm:yvY (yp (xOp (ymt false) (yf 0) (yf 2))) (yeg (yc (yf 0) (yc (xOp (ycs) (yf 1) (yf 0)) (yi)))) (yfw [2,1] [.val (.loc g.H),.val (.lst (l.map fun j:Nat=>.int (j:Nat))),.val (.loc b0),.no]) (yeT 0 bx.length) h=some (yze bx l,h):=by
  refine ysG (fun k:Nat=>PV.int (0+(k:Int))) (fun k=>decide (k∈l)) (fun k=>ydm (k,bx.getD k 0)) (fun k _=>?_) (fun k hk=>?_)
  .show yp (xOp (ymt false) (yf 0) (yf 2)) [.val (.int (0+(k:Int))),.val (.loc b0),.val (.lst (l.map fun j:Nat=>.int (j:Nat)))] h=_
   rw [show (0:Int)+(k:Int)=(k:Nat) by omega]
   have:=ywo (h:=h) (neg:=false) (k:=k) (l:=l)
   simp_all? only [this]
  .show yeg _ [.val (.int (0+(k:Int))),.val (.loc b0),.val (.lst (l.map fun j:Nat=>.int (j:Nat)))] h=_
   rw [show (0:Int)+(k:Int)=(k:Nat) by omega]
   have:=yeK e1 (List.mem_range.mp hk)
   simp_all? only [this]
   rfl
 have rl:((yeT 0 bx.length).length<100000)=True:=eq_true (by simp [yeT];omega)
 have ci:yfF (ylH (yc (xCB (yca) (yc (yf 2) (yi))) (yi))) [2,1] (yp (xOp (ymt false) (yf 0) (yf 2))) (yeg (yc (yf 0) (yc (xOp (ycs) (yf 1) (yf 0)) (yi)))) [.val (.loc g.H),.val (.lst (l.map fun j:Nat=>.int (j:Nat))),.val (.loc b0),.no] h=some (.lst (yze bx l),h):=by
  unfold yfF
  rw [i1,ybF,if_pos (of_eq_true rl),cm]
  rfl
 unfold ycO
 rw [yo]
 show ob (yl (ybG (xFz (yfF _ _ _ _)) _) _ [.val (.loc g.H),.val (.lst (l.map fun j:Nat=>.int (j:Nat))),.val (.loc b0),.no] h) fnK=_
 simp_all? only [ci,yef,yB (m:="state") H0 (by rfl'),st,yB (m:="saw") H0 (by rfl'),sw,ne,yB (m:="turn") H0 (by rfl'),tn,eq,yB (m:="boxes") H0 (by rfl'),yBR X,yvh e1]
theorem yCa {z:Str}{tl:List PV}{v:PV}{h':AH}{v1 v2 v3 v5:PVar}(hz:z = "gone"\/z = "seen") (H0:h[g.H]?=some (yjd g.nu g.ma g.cr g.en)) (e:yA [.loc g.H,.int 0] h=some (v,h')):tsB [.val (.loc g.H),v1,v2,v3,.val (.tup (.str z::tl)),v5] h=some (.nx [.val (.loc g.H),v1,v2,v3,.val v,v5],h'):=by
 have i0:yba (.tup (.str z::tl)) (.int 0) h=some (.str z,h):=by symm
 have i1:ymt true (.str z) (.lst [.str "asleep",.str "idle"]) h=some (.bl true,h):=by rcases hz with rfl|rfl<;>kernel_rfl!
 unfold tsB
 simp_all? only [i0,i1,yef,yB (m:="turn") H0 (by rfl'),e]
theorem ysH {t:Int}{v1 v2 v3:PVar}{v0:PVar}:∀ (xs:List PV) (v5:PVar),∃ v5',ygh (yq 5) tsB xs [v0,v1,v2,v3,.val (.tup [.str "asleep",.int t]),v5] h=some (.nx [v0,v1,v2,v3,.val (.tup [.str "asleep",.int t]),v5'],h)
 | [],v5=>⟨v5,rfl⟩
 | x::xs,v5=>by
  obtain ⟨v5',e⟩:=ysH xs (.val x)
  refine ⟨v5',?_⟩
  rw [ypN (ρ2:=[v0,v1,v2,v3,.val (.tup [.str "asleep",.int t]),.val x]) (h1:=h) rfl (by
   have i1:ymt true (.str "asleep") (.lst [.str "asleep",.str "idle"]) h=some (.bl false,h):=by kernel_rfl!
   unfold tsB
   simp_all? only [i1])]
  exact e
theorem ysI {rws:List Rw}{v1 v2 v3:PVar}(hbs:sp.length=bx.length) (h1:1<=bx.length) (h16:bx.length<=16) {s':RS}(er:rws[s'.t]?=some .wait) (ok:okS s'=true) (lk:yje bx.length s' .wait=true):∀ (ls:List PV) (n:Nat) (h:AH) (c:Lc) (s:RS) (z:Str) (tl:List PV) (v5:PVar),HH h g bx.length bx sp en ((n0,c)::as2) (slp (rws.map yT) false s::xs2) own->NF bx.length s->stB s.sn sp=false->goN bx.length bx sp rws n s=some s'->n<ls.length->(z = "gone"\/z = "seen") ->
  ∃ h' c' v5',ygh (yq 5) tsB ls [.val (.loc g.H),v1,v2,v3,.val (.tup (.str z::tl)),v5] h=some (.nx [.val (.loc g.H),v1,v2,v3,.val (.tup [.str "asleep",.int s'.t]),v5'],h')/\HH h' g bx.length bx sp en ((n0,c')::as2) (slp (rws.map yT) true s'::xs2) own/\NF bx.length s'/\stB s'.sn sp=false
 | [],n,h,c,s,z,tl,v5,X,F,fr,e,hn,hz=>by cases hn
 | l::ls,0,h,c,s,z,tl,v5,X,F,fr,e,hn,hz=>by
  cases e
  obtain ⟨h',q1,X'⟩:=yBP (as1:=[]) (xs1:=[]) X rfl hbs h1 rfl (by show 0<1;omega) rfl F fr er ok lk
  obtain ⟨v5',q2⟩:=ysH (h:=h') (t:=s'.t) (v0:=.val (.loc g.H)) (v1:=v1) (v2:=v2) (v3:=v3) ls (.val l)
  refine ⟨h',c,v5',?_,X',F,fr⟩
  rw [ypN rfl (yCa hz (X.at_.get 0 rfl) q1)]
  exact q2
 | l::ls,n+1,h,c,s,z,tl,v5,X,F,fr,e,hn,hz=>by
  unfold goN at e
  split at e
  .rename_i s1 e1
   obtain ⟨h2,c2,z2,tl2,q1,hz2,X2,F2,fr2⟩:=goH (as1:=[]) (xs1:=[]) X rfl hbs h1 h16 rfl (by show 0<1;omega) rfl F fr e1
   obtain ⟨h',c',v5',q2,r⟩:=ysI hbs h1 h16 er ok lk ls n h2 c2 s1 z2 tl2 (.val l) X2 F2 fr2 e (by simpa using hn) hz2
   refine ⟨h',c',v5',?_,r⟩
   rw [ypN rfl (yCa hz (X.at_.get 0 rfl) q1)]
   exact q2
  .cases e
theorem yiF {x y w0:Nat}(hw:w0<5) (hx:x<bx.length) (hy:y<bx.length) (X:HH h g bx.length bx sp en (a::as2) (slp ((dR w0 (x:Nat) (y:Nat)).map yT) false (S0 Z8)::xs2) ((b0,.lst (bx.map .int))::own)) (hbs:sp.length=bx.length) (h16:bx.length<=16) :
  ∃ h' c' s',ycl [.loc g.H,.lst ((ygB w0 x y).map fun j:Nat=>.int (j:Nat)),.loc b0,.int (ykL w0:Nat)] h=some (.bl true,h')/\HH h' g bx.length bx sp en ((a.1,c')::as2) (slp ((dR w0 (x:Nat) (y:Nat)).map yT) true s'::xs2) ((b0,.lst (bx.map .int))::own)/\NF bx.length s'/\stB s'.sn sp=false/\Saw bx (ygB w0 x y) s'.sn:=by
 obtain ⟨n,s',hn,e1,er,ok,lk,et,S⟩:=ynG (bx:=bx) (sp:=sp) hx hy w0 hw
 obtain ⟨h',c',v5',q1,X',F,fr⟩:=ysI (v1:=.val (.lst ((ygB w0 x y).map fun j:Nat=>.int (j:Nat)))) (v2:=.val (.loc b0)) (v3:=.val (.int (ykL w0:Nat))) hbs (by omega) h16 er ok lk (yeT 0 9) n h a.2 (S0 Z8) "gone" [.int 0] .no X ⟨List.nodup_nil,fun p hp=>(by cases hp),by show 0<=900;omega⟩ rfl e1 (by show n<9;omega) (.inl rfl)
 refine ⟨h',c',s',?_,X',F,fr,S⟩
 have H0:h[g.H]?=some (yjd g.nu g.ma g.cr g.en):=X.at_.get 0 rfl
 have st:ycj [.loc g.H,.int 0] h=some (.str "awake",h):=ywm (as1:=[]) (xs1:=[]) X rfl
 have sw:yda [.loc g.H,.int 0] h=some (.lst [],h):=yFF (as1:=[]) (xs1:=[]) X rfl rfl
 have sl:ydj [.loc g.H,.int 0] h=some (.lst (Z8.map .int),h):=yBT (as1:=[]) (xs1:=[]) X rfl
 have wh:ydi [.loc g.H,.int 0] h=some (.int 0,h):=yBS (as1:=[]) (xs1:=[]) X rfl
 have ne1:=yyU (h:=h) (xs:=Z8.map .int) (ykK Z8)
 have ne2:=yyU (h:=h) (xs:=[]) rfl
 have eq:ypC (.tup [.str "asleep",.int (s'.t:Nat)]) (.tup [.str "asleep",.int (ykL w0:Nat)]) h'=some (.bl true,h'):=by
  rw [et]
  exact ysu (yiC yBQ (yiC yvg rfl)) rfl
 have slp_:=yiE X' F S h16
 have i1:∀ ρ,ylH (yc (xC (.int 9)) (yi)) ρ h=some (yeT 0 9,h):=fun ρ=>rfl
 have rp:yqM yxp (xFz (ydY (yc (xC (.int 0)) (yi)))) (xC (.int 8))=fun (ρ:PSt) (h:AH)=>some (Nd.lst (Z8.map .int),h):=rfl
 unfold ycl
 rw [yo]
 show ob (yl _ (yl _ (yl (ymZ _ _ tsB) _)) [.val (.loc g.H),.val (.lst ((ygB w0 x y).map fun j:Nat=>.int (j:Nat))),.val (.loc b0),.val (.int (ykL w0:Nat)),.no,.no] h) fnK=_
 simp_all? only [rp,yef,yB (m:="state") H0 (by rfl'),st,yB (m:="slots") H0 (by rfl'),sl,ne1,yB (m:="saw") H0 (by rfl'),sw,ne2,yB (m:="which") H0 (by rfl'),wh,i1,q1,eq,slp_]
end
theorem yEP {xs:List Int}(h8:xs.length=8):∃ a0 a1 a2 a3 a4 a5 a6 a7,xs=[a0,a1,a2,a3,a4,a5,a6,a7]:=by
 match xs,h8 with
 | [a0,a1,a2,a3,a4,a5,a6,a7],_=>exact ⟨_,_,_,_,_,_,_,_,rfl⟩
def yyV (d:Dd):List Rw:=dR d.w (d.b:Nat) d.n
def Dd.ok (W:Nat) (d:Dd):Prop:=5<=d.w/\d.w<9/\d.b<W/\0<=d.n/\d.n<B64
def Shq (e:PV):Prop:=∃ (i:Nat) (b c:PV) (x y z:List PV),i≠0/\e=.tup [.int (i:Nat),b,c,.lst x,.lst y,.lst z]
section
variable {h:AH}{w:Int}{g:HC}{bx sp:List Int}{en:List PV}{as as1 as2:List (Nat×Lc)}{xs xs1 xs2:List HD}{a:Nat×Lc}{x:HD}{own:List (Nat×Nd)}{n b0:Nat}{d:Dd}
theorem yCb {i:Nat}{z:Str}{tl:List PV}{v:PV}{h':AH}{v2 v4:PVar}(hz:z = "gone"\/z = "seen") (H0:h[g.H]?=some (yjd g.nu g.ma g.cr g.en)) (e:yA [.loc g.H,.int (i:Nat)] h=some (v,h')):rnB [.val (.loc g.H),.val (.int (i:Nat)),v2,.val (.tup (.str z::tl)),v4] h=some (.nx [.val (.loc g.H),.val (.int (i:Nat)),v2,.val v,v4],h'):=by
 have i0:yba (.tup (.str z::tl)) (.int 0) h=some (.str z,h):=by symm
 have i1:ymt true (.str z) (.lst [.str "gone",.str "seen"]) h=some (.bl false,h):=by rcases hz with rfl|rfl<;>kernel_rfl!
 unfold rnB
 simp_all? only [i0,i1,yef,yB (m:="turn") H0 (by rfl'),e]
theorem ysJ {rws:List Rw}{v2:PVar}{rest:List PV}{s':RS}(l:as1.length=xs1.length) (hbs:sp.length=bx.length) (h1:1<=bx.length) (h16:bx.length<=16) (hr:x.rows=rws.map yT) (hn:x.nth<x.ds.length) (hs:x.sl=false):∀ (ls:List PV) (h:AH) (c:Lc) (s:RS) (z:Str) (tl:List PV) (v4:PVar),HH h g bx.length bx sp en (as1++(n,c)::as2) (xs1++{ x with s:=s }::xs2) own->NF bx.length s->stB s.sn sp=false->goN bx.length bx sp rws ls.length s=some s'->(z = "gone"\/z = "seen") ->
  ∃ h' c' z' tl' v4',ygh (yq 4) rnB (ls++rest) [.val (.loc g.H),.val (.int (as1.length:Nat)),v2,.val (.tup (.str z::tl)),v4] h=ygh (yq 4) rnB rest [.val (.loc g.H),.val (.int (as1.length:Nat)),v2,.val (.tup (.str z'::tl')),v4'] h'/\HH h' g bx.length bx sp en (as1++(n,c')::as2) (xs1++{ x with s:=s' }::xs2) own/\NF bx.length s'/\stB s'.sn sp=false/\(z' = "gone"\/z' = "seen")
 | [],h,c,s,z,tl,v4,X,F,fr,e,hz=>by
  cases e
  exact ⟨h,c,z,tl,v4,rfl,X,F,fr,hz⟩
 | p::ls,h,c,s,z,tl,v4,X,F,fr,e,hz=>by
  have e:goN bx.length bx sp rws (ls.length+1) s=some s':=e
  unfold goN at e
  split at e
  .rename_i s1 e1
   obtain ⟨h2,c2,z2,tl2,q1,hz2,X2,F2,fr2⟩:=goH X l hbs h1 h16 hr hn hs F fr e1
   obtain ⟨h',c',z',tl',v4',q2,r⟩:=ysJ l hbs h1 h16 hr hn hs ls h2 c2 s1 z2 tl2 (.val p) X2 F2 fr2 e hz2
   refine ⟨h',c',z',tl',v4',?_,r⟩
   show ygh _ _ (p::(ls++rest)) _ h=_
   rw [ypN rfl (yCb hz (X.at_.get 0 rfl) q1)]
   exact q2
  .cases e
theorem ykN {rws:List Rw}{s':RS}{k:Nat}{z:Str}{t:Int}(hd:ybd d=.tup [.str d.txt,.int ((k+1:Nat):Int),.str z,d.box,.int d.n]) (hk:k<=8) (X:HH h g bx.length bx sp en (as1++a::as2) (xs1++x::xs2) own) (l:as1.length=xs1.length) (hbs:sp.length=bx.length) (h1:1<=bx.length) (h16:bx.length<=16) (hr:x.rows=rws.map yT) (hn:x.nth<x.ds.length) (hs:x.sl=false) (F:NF bx.length x.s) (fr:stB x.s.sn sp=false) (e:goN bx.length bx sp rws k x.s=some s') {Q:AH->Prop}(fin:∀ h c,HH h g bx.length bx sp en (as1++(a.1,c)::as2) (xs1++{ x with s:=s' }::xs2) own->NF bx.length s'->stB s'.sn sp=false->∃ h',yA [.loc g.H,.int (as1.length:Nat)] h=some (.tup [.str z,.int t],h')/\Q h') :
  ∃ h',ydC [.loc g.H,.int (as1.length:Nat),ybd d] h=some (.bl true,h')/\Q h':=by
 obtain ⟨ls,y,er,el⟩:∃ ls y,yeT 0 (k+1)=ls++[y]/\ls.length=k:=⟨(List.range k).map fun j=>.int (0+(j:Int)),.int (0+((k:Nat):Int)),by unfold yeT;rw [List.range_succ,map_append];rfl,by simp⟩
 obtain ⟨h2,c2,z2,tl2,v4,q1,X2,F2,fr2,hz2⟩:=ysJ (v2:=.val (ybd d)) (rest:=[y]) l hbs h1 h16 hr hn hs ls h a.2 x.s "gone" [.int 0] .no X F fr (by rw [el];exact e) (.inl rfl)
 obtain ⟨h',q2,q3⟩:=fin h2 c2 X2 F2 fr2
 refine ⟨h',?_,q3⟩
 have lp:ygh (yq 4) rnB (yeT 0 (k+1)) [.val (.loc g.H),.val (.int (as1.length:Nat)),.val (ybd d),.val (.tup [.str "gone",.int 0]),.no] h=some (.nx [.val (.loc g.H),.val (.int (as1.length:Nat)),.val (ybd d),.val (.tup [.str z,.int t]),.val y],h'):=by
  rw [er,q1,ypN rfl (yCb hz2 (X2.at_.get 0 rfl) q2)]
  rfl
 have d1:yba (ybd d) (.int 1) h=some (.int ((k+1:Nat):Int),h):=by rw [hd];rfl
 have d2:yba (ybd d) (.int 2) h'=some (.str z,h'):=by rw [hd];rfl
 have i1:ylH (yc (xOp (yba) (yf 2) (xC (.int 1))) (yi)) [.val (.loc g.H),.val (.int (as1.length:Nat)),.val (ybd d),.val (.tup [.str "gone",.int 0]),.no] h=some (yeT 0 (k+1),h):=by
  unfold ylH
  simp_all? only [d1]
  rw [if_pos (by omega)]
  rfl
 unfold ydC
 rw [yo]
 show ob (yl _ (yl (ymZ _ _ rnB) _) [.val (.loc g.H),.val (.int (as1.length:Nat)),.val (ybd d),.no,.no] h) fnK=_
 simp_all? only [i1,lp,d2]
def nxD (x:HD) (bf:List Int) (rows':List PV):HD:=⟨x.ds,x.nth+1,x.sl,bf,rows',S0 bf⟩
theorem yfX (hs:x.sl=false):ydN sp x=x:=by unfold ydN asB;simp [hs]
theorem ysK {rows':List PV}(hd:d.ok bx.length) (X:HH h g bx.length bx sp en (as1++a::as2) (xs1++x::xs2) own) (l:as1.length=xs1.length) (hi:as1.length≠0) (hbs:sp.length=bx.length) (h16:bx.length<=16) (hr:x.rows=(yyV d).map yT) (hn:x.nth<x.ds.length) (hs:x.sl=false) (hx:x.s=S0 x.bf) (h8:x.bf.length=8) (hdu:Due x.ds (x.nth+1) rows') (hl:en.length<900) (ho:∀ y∈xs1++xs2,yvf bx.length y/\ydN sp y=y) :
  ∃ h',ydC [.loc g.H,.int (as1.length:Nat),ybd d] h=some (.bl true,h')/\∃ as' bf' e,as'.map (·.1)=(as1++a::as2).map (·.1)/\bf'.length=8/\Shq e/\HH h' g bx.length (if d.w=8 then bx.set d.b d.n else bx) (if d.w=8 then sp.set d.b (sp.getD d.b 0+1) else sp) (en++[e]) as' ((xs1++nxD x bf' rows'::xs2).map (ydN (if d.w=8 then sp.set d.b (sp.getD d.b 0+1) else sp))) own:=by
 obtain ⟨d1,d2,d3,d4,d5⟩:=hd
 obtain ⟨a0,a1,a2,a3,a4,a5,a6,a7,eb⟩:=yEP h8
 have hW:1<=bx.length:=by omega
 have ex:(((d.b:Nat):Int)%(bx.length:Nat))=(d.b:Nat):=Int.emod_eq_of_lt (by omega) (by omega)
 have F:NF bx.length x.s:=by rw [hx];exact ⟨List.nodup_nil,fun p hp=>(by cases hp),by show 0<=900;omega⟩
 have fr:stB x.s.sn sp=false:=by rw [hx];rfl
 have wo:∀ y∈xs1++xs2,yvf bx.length y:=fun y hy=>(ho y hy).1
 have no:∀ bf',(xs1++nxD x bf' rows'::xs2).map (ydN sp)=xs1++nxD x bf' rows'::xs2:=fun bf'=>(List.map_congr_left (g:=id) fun y hy=>by
  rcases List.mem_append.mp hy with z|z
  .exact (ho y (mem_append_left _ z)).2
  .rcases mem_cons.mp z with rfl|z
   .exact yfX hs
   .exact (ho y (mem_append_right _ z)).2).trans (List.map_id _)
 obtain ⟨w,b,n⟩:=d
 have hr:x.rows=(dR w (b:Nat) n).map yT:=hr
 dsimp only at d1 d2 d3 d4 d5 ex ⊢
 have hx':x.s=S0 [a0,a1,a2,a3,a4,a5,a6,a7]:=by rw [hx,eb]
 rcases (show w=5\/w=6\/w=7\/w=8 by omega) with rfl|rfl|rfl|rfl
 .refine ykN (k:=3) (z:="done") (t:=3) rfl (by omega) X l hbs hW h16 hr hn hs F fr (by rw [hx'];exact yEG) fun h c X F fr=>?_
  obtain ⟨h',as',q1,X',em⟩:=yyP (rws:=dR 5 (b:Nat) n) (rows':=rows') (ls:=[]) (d:=([],[])) X l hbs hW hr hn hs F fr rfl (by kernel_rfl!) rfl rfl (fun p hp=>by cases hp) rfl hdu (by omega) wo
  exact ⟨h',q1,as',_,_,em.trans (by simp),rfl,⟨as1.length,_,_,_,_,_,hi,rfl⟩,X'⟩
 .refine ykN (k:=3) (z:="fell") (t:=3) rfl (by omega) X l hbs hW h16 hr hn hs F fr (by rw [hx'];exact yEH) fun h c X F fr=>?_
  obtain ⟨h',c',q1,X'⟩:=yEA (rws:=dR 6 (b:Nat) n) (rows':=rows') (L:=[]) (p:="low") (q:="b") X l hbs hW hr hn hs F fr rfl (by kernel_rfl!) (by kernel_rfl!) (by kernel_rfl!) rfl hdu (by omega)
  have X2:HH h' g bx.length bx sp _ _ (xs1++nxD x x.bf rows'::xs2) own:=X'
  rw [<- no] at X2
  exact ⟨h',q1,as1++(a.1,c')::as2,x.bf,_,by simp,h8,⟨as1.length,_,_,_,_,_,hi,rfl⟩,X2⟩
 .refine ykN (k:=5) (z:="done") (t:=7) rfl (by omega) X l hbs hW h16 hr hn hs F fr (by rw [hx'];exact yEI) fun h c X F fr=>?_
  obtain ⟨h',as',q1,X',em⟩:=yyP (rws:=dR 7 (b:Nat) n) (rows':=rows') (ls:=[]) (d:=([],[])) X l hbs hW hr hn hs F fr rfl (by kernel_rfl!) rfl rfl (fun p hp=>by cases hp) rfl hdu (by omega) wo
  exact ⟨h',q1,as',_,_,em.trans (by simp),rfl,⟨as1.length,_,_,_,_,_,hi,rfl⟩,X'⟩
 .have r:=yEJ (W:=(bx.length:Nat)) (bx:=bx) (sp:=sp) (x:=(b:Nat)) (y:=n) (a0:=a0) (a1:=a1) (a2:=a2) (a3:=a3) (a4:=a4) (a5:=a5) (a6:=a6) (a7:=a7)
  rw [ex] at r
  refine ykN (k:=3) (z:="done") (t:=3) rfl (by omega) X l hbs hW h16 hr hn hs F fr (by rw [hx'];exact r) fun h c X F fr=>?_
  obtain ⟨h',as',q1,X',em⟩:=yyP (rws:=dR 8 (b:Nat) n) (rows':=rows') (ls:=[(b,n)]) (d:=([.inl (b:Nat)],[.int n])) X l hbs hW hr hn hs F fr rfl (by kernel_rfl!) rfl rfl (fun p hp=>by rw [List.mem_singleton.mp hp];exact d3) rfl hdu (by omega) wo
  exact ⟨h',q1,as',_,_,em.trans (by simp),rfl,⟨as1.length,_,_,_,_,_,hi,rfl⟩,X'⟩
end
def alt {α:Type}:Bool->List α->List α
 | _,[]=>[]
 | true,a::l=>a::alt false l
 | false,_::l=>alt true l
theorem ykO {α:Type}:∀ (l:List α) (n:Nat),(alt true l)[n]?=l[2*n]?/\(alt false l)[n]?=l[2*n+1]?
 | [],n=>by simp [alt]
 | a::l,n=>by
  refine ⟨?_,?_⟩
  .show (a::alt false l)[n]?=_
   cases n with
   | zero=>rfl
   | succ n =>
    rw [List.getElem?_cons_succ,(ykO l n).2,show 2*(n+1)=(2*n+1)+1 by omega,List.getElem?_cons_succ]
  .show (alt true l)[n]?=_
   rw [(ykO l n).1,List.getElem?_cons_succ]
theorem ykP {α:Type}(a:α):∀ (b:Bool) (l:List α),alt b (l++[a])=if (decide (l.length%2=0))=b then alt b l++[a] else alt b l
 | true,[]=>rfl
 | false,[]=>rfl
 | true,c::l=>by
  show c::alt false (l++[a])=_
  rw [ykP a false l,length_cons]
  by_cases e:l.length%2=0
  .rw [if_neg (by simp [e]),if_neg (by simp;omega)];rfl
  .rw [if_pos (by simp [e]),if_pos (by simp;omega)];rfl
 | false,c::l=>by
  show alt true (l++[a])=_
  rw [ykP a true l,length_cons]
  by_cases e:l.length%2=0
  .rw [if_pos (by simp [e]),if_pos (by simp;omega)];rfl
  .rw [if_neg (by simp [e]),if_neg (by simp;omega)];rfl
theorem ynH {α:Type}{a:α}:∀ (b:Bool) (l:List α),a∈alt b l->a∈l
 | true,[],h=>by cases h
 | false,[],h=>by cases h
 | true,c::l,h=>by
  rcases mem_cons.mp h with e|e
  .rw [e];exact mem_cons_self
  .exact mem_cons_of_mem _ (ynH false l e)
 | false,c::l,h=>mem_cons_of_mem _ (ynH true l h)
theorem ynI {α:Type}:∀ (l:List α),(alt true l).length<=(l.length+1)/2/\(alt false l).length<=l.length/2
 | []=>by simp [alt]
 | a::l=>by
  have:=ynI l
  refine ⟨?_,?_⟩
  .show (alt false l).length+1<=(l.length+1+1)/2
   omega
  .show (alt true l).length<=(l.length+1)/2
   omega
def Dd.pr (d:Dd):Str×List Rw:=(d.txt,yyV d)
def Dof (b:Bool) (ds:List Dd):List PV:=((alt b ds).map Dd.pr).map ymv
theorem yCc (l:List (Str×List Rw)) (n:Nat) (hn:n<=l.length):∃ rows,Due (l.map ymv) n rows:=by
 by_cases e:n<l.length
 .exact ⟨_,.inl ⟨by simpa using e,by rw [getElem?_map,List.getElem?_eq_getElem e];rfl⟩⟩
 .exact ⟨[],.inr ⟨by simp;omega,rfl⟩⟩
theorem ywp {b:Bool}{ds:List Dd}{n:Nat}{rows:List PV}{d:Dd}(h:Due (Dof b ds) n rows) (e:(alt b ds)[n]?=some d):rows=(yyV d).map yT/\n<(Dof b ds).length/\∃ rows',Due (Dof b ds) (n+1) rows':=by
 have lt:=(List.getElem?_eq_some_iff.mp e).1
 have l1:(Dof b ds).length=(alt b ds).length:=by unfold Dof;simp
 refine ⟨?_,by omega,yCc _ _ (by simp;omega)⟩
 rcases h with ⟨_,h2⟩|⟨h1,_⟩
 .unfold Dof at h2
  rw [getElem?_map,getElem?_map,e] at h2
  have:=Option.some.inj h2
  unfold ymv Dd.pr at this
  injection this with this
  exact this.symm
 .omega
structure Mid (h:AH) (g:HC) (b0:Nat) (own:List (Nat×Nd)) (ds:List Dd) (k:Nat) (bx sp:List Int) (en:List PV) (x0:HD) (bo:List Int):Prop where
 X:∃ a0 a1 a2 bf1 bf2 rows1 rows2,HH h g bx.length bx sp en [a0,a1,a2] [x0,⟨Dof true ds,(k+1)/2,false,bf1,rows1,S0 bf1⟩,⟨Dof false ds,k/2,false,bf2,rows2,S0 bf2⟩] ((b0,.lst (bo.map .int))::own)/\Due (Dof true ds) ((k+1)/2) rows1/\Due (Dof false ds) (k/2) rows2/\bf1.length=8/\bf2.length=8
 le:en.length=k
 shp:∀ e∈en,Shq e
 ls:sp.length=bx.length
theorem yCd {W:Nat}{ds rows:List PV}{n:Nat}{bf:List Int}(hd:Due ds n rows):yvf W ⟨ds,n,false,bf,rows,S0 bf⟩:=⟨hd,⟨List.nodup_nil,fun p hp=>(by cases hp),by show 0<=900;omega⟩⟩
section
variable {h:AH}{g:HC}{b0:Nat}{own:List (Nat×Nd)}{ds:List Dd}{k:Nat}{bx sp bo:List Int}{en:List PV}{x0:HD}{d:Dd}
theorem as3 {as:List (Nat×Lc)}{n0 n1 n2:Nat}(e:as.map (·.1)=[n0,n1,n2]):∃ a0 a1 a2,as=[a0,a1,a2]:=by
 match as,e with
 | [a0,a1,a2],_=>exact ⟨_,_,_,rfl⟩
theorem yvo (M:Mid h g b0 own ds k bx sp en x0 bo) (h16:bx.length<=16) (hk:k<800) (wx:yvf bx.length x0/\ydN sp x0=x0) (hd:ds[k]?=some d) (ok:d.ok bx.length) :
  ∃ h' en',ydC [.loc g.H,.int (1+(k:Int)%2),ybd d] h=some (.bl true,h')/\Mid h' g b0 own ds (k+1) (if d.w=8 then bx.set d.b d.n else bx) (if d.w=8 then sp.set d.b (sp.getD d.b 0+1) else sp) en' (ydN (if d.w=8 then sp.set d.b (sp.getD d.b 0+1) else sp) x0) bo:=by
 obtain ⟨⟨a0,a1,a2,bf1,bf2,rows1,rows2,X,D1,D2,l1,l2⟩,hen,shp,hsp⟩:=M
 have lb:(if d.w=8 then bx.set d.b d.n else bx).length=bx.length:=by split<;>simp
 have ls:(if d.w=8 then sp.set d.b (sp.getD d.b 0+1) else sp).length=(if d.w=8 then bx.set d.b d.n else bx).length:=by rw [lb];split<;>simp [hsp]
 have shp':∀ e',Shq e'->∀ e∈en++[e'],Shq e:=fun e' hs e he=>by
  rcases List.mem_append.mp he with z|z
  .exact shp e z
  .rw [List.mem_singleton.mp z];exact hs
 rcases (show k%2=0\/k%2=1 by omega) with e|e
 .have ei:(k+1)/2=k/2:=by omega
  have gd:(alt true ds)[(k+1)/2]?=some d:=by rw [(ykO ds _).1,ei,show 2*(k/2)=k by omega,hd]
  obtain ⟨er,hn,rows',hdu⟩:=ywp D1 gd
  obtain ⟨h',q1,as',bf',e',em,l8,hs,X'⟩:=ysK (as1:=[a0]) (xs1:=[x0]) (as2:=[a2]) (xs2:=[⟨Dof false ds,k/2,false,bf2,rows2,S0 bf2⟩]) ok X rfl (by simp) hsp h16 er hn rfl rfl l1 hdu (by omega) (fun y hy=>by
   rcases mem_cons.mp hy with rfl|hy
   .exact wx
   .rw [List.mem_singleton.mp hy]
    exact ⟨yCd D2,yfX rfl⟩)
  obtain ⟨p0,p1,p2,rfl⟩:=as3 (by simpa using em)
  rw [<- lb] at X'
  refine ⟨h',en++[e'],?_,⟨p0,p1,p2,bf',bf2,rows',rows2,?_,?_,?_,l8,l2⟩,by simp [hen],shp' _ hs,ls⟩
  .rw [show (1:Int)+(k:Int)%2=((1:Nat):Int) by omega]
   exact q1
  .have e1:(k+1+1)/2=(k+1)/2+1:=by omega
   have e2:(k+1)/2=k/2:=ei
   have w1:=yfX (sp:=if d.w=8 then sp.set d.b (sp.getD d.b 0+1) else sp) (x:=⟨Dof true ds,(k+1)/2+1,false,bf',rows',S0 bf'⟩) rfl
   have w2:=yfX (sp:=if d.w=8 then sp.set d.b (sp.getD d.b 0+1) else sp) (x:=⟨Dof false ds,k/2,false,bf2,rows2,S0 bf2⟩) rfl
   rw [e1]
   conv at X'=>arg 8;simp only [List.singleton_append,map_cons,map_nil,nxD,w1,w2]
   rw [<- ei] at X'
   exact X'
  .rw [show (k+1+1)/2=(k+1)/2+1 by omega];exact hdu
  .rw [ei];exact D2
 .have ei:(k+1)/2=k/2+1:=by omega
  have gd:(alt false ds)[k/2]?=some d:=by rw [(ykO ds _).2,show 2*(k/2)+1=k by omega,hd]
  obtain ⟨er,hn,rows',hdu⟩:=ywp D2 gd
  obtain ⟨h',q1,as',bf',e',em,l8,hs,X'⟩:=ysK (as1:=[a0,a1]) (xs1:=[x0,⟨Dof true ds,(k+1)/2,false,bf1,rows1,S0 bf1⟩]) (as2:=[]) (xs2:=[]) ok X rfl (by simp) hsp h16 er hn rfl rfl l2 hdu (by omega) (fun y hy=>by
   rcases mem_cons.mp hy with rfl|hy
   .exact wx
   .rw [List.mem_singleton.mp hy]
    exact ⟨yCd D1,yfX rfl⟩)
  obtain ⟨p0,p1,p2,rfl⟩:=as3 (by simpa using em)
  rw [<- lb] at X'
  refine ⟨h',en++[e'],?_,⟨p0,p1,p2,bf1,bf',rows1,rows',?_,?_,?_,l1,l8⟩,by simp [hen],shp' _ hs,ls⟩
  .rw [show (1:Int)+(k:Int)%2=((2:Nat):Int) by omega]
   exact q1
  .have e1:(k+1+1)/2=(k+1)/2:=by omega
   have w1:=yfX (sp:=if d.w=8 then sp.set d.b (sp.getD d.b 0+1) else sp) (x:=⟨Dof true ds,(k+1)/2,false,bf1,rows1,S0 bf1⟩) rfl
   have w2:=yfX (sp:=if d.w=8 then sp.set d.b (sp.getD d.b 0+1) else sp) (x:=⟨Dof false ds,k/2+1,false,bf',rows',S0 bf'⟩) rfl
   rw [e1]
   conv at X'=>arg 8;simp only [List.cons_append,List.nil_append,map_cons,map_nil,nxD,w1,w2]
   rw [show (k+1)/2=k/2+1 from ei] at X' ⊢
   exact X'
  .rw [show (k+1+1)/2=(k+1)/2 by omega];exact D1
  .rw [ei];exact hdu
end
def slV (w x y:Nat):PV:=.tup [.str (dS w (toString (x:Int):String) (toString (y:Int):String)),.lst ((ygB w x y).map fun k:Nat=>.int (k:Nat)),.int (ykL w:Nat)]
structure LS (h:AH) (g:HC) (b0:Nat) (own:List (Nat×Nd)) (ds:List Dd) (w0 x y W k:Nat):Prop where
 ex:∃ bx sp en s0,bx.length=W/\Mid h g b0 own ds k bx sp en (slp ((dR w0 (x:Nat) (y:Nat)).map yT) true s0) bx/\NF W s0/\stB s0.sn sp=false/\Saw bx (ygB w0 x y) s0.sn
theorem yCe {m:List (Nat×Int×Int)}{sp:List Int}{b:Nat}(fr:stB m sp=false) (hb:b<sp.length):stB m (sp.set b (sp.getD b 0+1))=decide (b∈m.map (·.1)):=by
 rw [ykJ] at fr
 have g1:(sp.set b (sp.getD b 0+1)).getD b 0=sp.getD b 0+1:=by simp [hb]
 by_cases e:b∈m.map (·.1)
 .rw [decide_eq_true e,<- Bool.not_eq_false,ykJ]
  obtain ⟨p,hp,rfl⟩:=List.mem_map.mp e
  intro z
  have h1:=z p hp
  have h2:=fr p hp
  rw [g1] at h1
  omega
 .rw [decide_eq_false e,ykJ]
  intro p hp
  have ne:b≠p.1:=fun z=>e (z ▸ List.mem_map_of_mem hp)
  rw [<- fr p hp]
  simp [getD_eq_getElem?_getD,getElem?_set_ne ne]
theorem Saw.set {bx:List Int}{l:List Nat}{m:List (Nat×Int×Int)}{b:Nat}{v:Int}(S:Saw bx l m) (hb:b∉l):Saw (bx.set b v) l m:=by
 refine ⟨fun p hp=>?_,S.key,S.len⟩
 have ne:b≠p.1:=fun z=>hb (z ▸ (S.key _).mp (List.mem_map_of_mem hp))
 rw [<- S.val p hp]
 simp [getD_eq_getElem?_getD,getElem?_set_ne ne]
theorem yCf {e:PV}(h:Shq e):Shp e:=by
 obtain ⟨i,b,c,x,y,z,_,rfl⟩:=h
 exact ⟨_,_,_,_,_,_,rfl⟩
section
variable {h:AH}{ns:List Int}{g:HC}{b0:Nat}{own:List (Nat×Nd)}{ds:List Dd}{w0 x y W k:Nat}{v3 v4 v7 v8 v9 v10 v13:PVar}{d:Dd}
theorem yEQ (L:LS h g b0 own ds w0 x y W k) (hw:w0<5) (hx:x<W) (hy:y<W) (h16:W<=16) (hk:k<100) (hd:ds[k]?=some d) (ok:d.ok W) :
  ∃ h' v13',mlB [.val (.scr ns),.val (.int (W:Nat)),.val (.loc b0),v3,v4,.val (slV w0 x y),.val (.lst (ds.map ybd)),v7,v8,v9,v10,.val (.int (k:Nat)),.val (.loc g.H),v13] h=some (.nx [.val (.scr ns),.val (.int (W:Nat)),.val (.loc b0),v3,v4,.val (slV w0 x y),.val (.lst (ds.map ybd)),v7,v8,v9,v10,.val (.int (k:Nat)),.val (.loc g.H),v13'],h')/\LS h' g b0 own ds w0 x y W (k+1):=by
 obtain ⟨bx,sp,en,s0,hW,M,F,fr,S⟩:=L
 subst hW
 have wx:yvf bx.length (slp ((dR w0 (x:Nat) (y:Nat)).map yT) true s0)/\ydN sp (slp ((dR w0 (x:Nat) (y:Nat)).map yT) true s0)=slp ((dR w0 (x:Nat) (y:Nat)).map yT) true s0:=⟨⟨.inl ⟨by show 0<1;omega,rfl⟩,F⟩,if_neg (by show ¬ (asB _ && stB s0.sn sp)=true;rw [fr];simp)⟩
 obtain ⟨h1,en',q1,M1⟩:=yvo M h16 (by omega) wx hd ok
 have H0:h1[g.H]?=some (yjd g.nu g.ma g.cr g.en):=by obtain ⟨a0,a1,a2,bf1,bf2,r1,r2,X,_⟩:=M1.X;exact X.at_.get 0 rfl
 have jr:ybq [.loc g.H] h1=some (.lst en',h1):=by
  obtain ⟨a0,a1,a2,bf1,bf2,r1,r2,X,_⟩:=M1.X
  exact ypg X (fun e he=>yCf (M1.shp e he)) (by rw [M1.le];omega)
 have ln:((en'.length:Nat):Int)=(k:Int)+1:=by rw [M1.le];rfl
 have i2':atI (ds.map ybd) (k:Nat)=some (ybd d):=ydn (by rw [getElem?_map,hd];rfl)
 have i2:∀ h,ycs (.lst (ds.map ybd)) (.int (k:Nat)) h=some (ybd d,h):=fun h=>by
  unfold ycs
  simp only [i2']
 have d3:∀ h,yba (ybd d) (.int 3) h=some (d.box,h):=fun _=>rfl
 have d4:∀ h,yba (ybd d) (.int 4) h=some (.int d.n,h):=fun _=>rfl
 have s1:∀ h,yba (slV w0 x y) (.int 1) h=some (.lst ((ygB w0 x y).map fun k:Nat=>.int (k:Nat)),h):=fun _=>rfl
 have s2:∀ h,yba (slV w0 x y) (.int 2) h=some (.int (ykL w0:Nat),h):=fun _=>rfl
 by_cases e8:d.w=8
 .have eb:d.box=.int (d.b:Nat):=if_pos e8
  have nn:isN (PV.int (d.b:Nat))=false:=rfl
  rw [eb] at d3
  simp only [if_pos e8] at M1
  have hb:=ok.2.2.1
  obtain ⟨⟨a0,a1,a2,bf1,bf2,r1,r2,X,D1,D2,l1,l2⟩,le,shp,ls⟩:=M1
  have X2:=HH.uown (.lst ((bx.set d.b d.n).map .int)) X
  have se:=ykH (h:=h1) (xs:=bx) (k:=d.b) (v:=d.n) (eo:=yf 2) (ei:=yf 13) (ev:=xOp (yba) (xOp (ycs) (yf 6) (yf 11)) (xC (.int 4))) (ρ:=[.val (.scr ns),.val (.int (bx.length:Nat)),.val (.loc b0),v3,v4,.val (slV w0 x y),.val (.lst (ds.map ybd)),v7,v8,v9,v10,.val (.int (k:Nat)),.val (.loc g.H),.val (.int (d.b:Nat))]) (by simp_all? only [i2,i2',d4]) rfl rfl X.own0 hb
  have ls':(sp.set d.b (sp.getD d.b 0+1)).length=(bx.set d.b d.n).length:=ls
  have lb:(bx.set d.b d.n).length=bx.length:=by simp
  have st:=yCe (b:=d.b) fr (by rw [M.ls];exact hb)
  have inn:=fun h=>ywo (h:=h) (neg:=false) (k:=d.b) (l:=ygB w0 x y)
  generalize h1.set b0 (.lst ((bx.set d.b d.n).map .int))=h2 at *
  by_cases ei:d.b∈ygB w0 x y
  .rw [decide_eq_true ((S.key _).mpr ei)] at st
   have ex0:ydN (sp.set d.b (sp.getD d.b 0+1)) (slp ((dR w0 (x:Nat) (y:Nat)).map yT) true s0)=slp ((dR w0 (x:Nat) (y:Nat)).map yT) false (S0 Z8):=if_pos (by show (asB _ && stB s0.sn _)=true;rw [st];rfl)
   rw [ex0] at X2
   obtain ⟨h',c',s',q2,X3,F3,fr3,S3⟩:=yiF hw (by rw [lb];exact hx) (by rw [lb];exact hy) X2 ls' (by rw [lb];exact h16)
   have inn':∀ h,ymt false (.int (d.b:Nat)) (.lst ((ygB w0 x y).map fun k:Nat=>.int (k:Nat))) h=some (.bl true,h):=fun h=>by rw [inn,decide_eq_true ei];rfl
   refine ⟨h',.val (.int (d.b:Nat)),?_,⟨_,_,_,s',lb,⟨⟨_,_,_,_,_,_,_,X3,D1,D2,l1,l2⟩,le,shp,ls⟩,by rw [<- lb];exact F3,fr3,S3⟩⟩
   unfold mlB
   simp_all? only [i2,i2',q1,yef,yB (m:="journal") H0 (by rfl'),jr,ln,d3,nn,se,s1,s2,inn',q2]
  .rw [decide_eq_false (fun z=>ei ((S.key _).mp z))] at st
   have ex0:ydN (sp.set d.b (sp.getD d.b 0+1)) (slp ((dR w0 (x:Nat) (y:Nat)).map yT) true s0)=slp ((dR w0 (x:Nat) (y:Nat)).map yT) true s0:=if_neg (by show ¬ (asB _ && stB s0.sn _)=true;rw [st];simp)
   rw [ex0] at X2
   have S3:=S.set (v:=d.n) ei
   have q2:=yiE X2 (by rw [lb];exact F) S3 (by rw [lb];exact h16)
   have inn':∀ h,ymt false (.int (d.b:Nat)) (.lst ((ygB w0 x y).map fun k:Nat=>.int (k:Nat))) h=some (.bl false,h):=fun h=>by rw [inn,decide_eq_false ei];rfl
   refine ⟨h2,.val (.int (d.b:Nat)),?_,⟨_,_,_,s0,lb,⟨⟨_,_,_,_,_,_,_,X2,D1,D2,l1,l2⟩,le,shp,ls⟩,F,st,S3⟩⟩
   unfold mlB
   simp_all? only [i2,i2',q1,yef,yB (m:="journal") H0 (by rfl'),jr,ln,d3,nn,se,s1,s2,inn',q2]
 .have eb:d.box=.non:=if_neg e8
  have nn:isN PV.non=true:=rfl
  rw [eb] at d3
  simp only [if_neg e8,wx.2] at M1
  obtain ⟨⟨a0,a1,a2,bf1,bf2,r1,r2,X,D1,D2,l1,l2⟩,le,shp,ls⟩:=M1
  have q2:=yiE X F S h16
  refine ⟨h1,.val .non,?_,⟨_,_,_,s0,rfl,⟨⟨_,_,_,_,_,_,_,X,D1,D2,l1,l2⟩,le,shp,ls⟩,F,fr,S⟩⟩
  unfold mlB
  simp_all? only [i2,i2',q1,yef,yB (m:="journal") H0 (by rfl'),jr,ln,d3,nn,s1,q2]
theorem yER {v0 v1 v2 v5 v6 v11:PVar}(L:LS h g b0 own ds w0 x y W k) (hk:k<100):ob (fiB [v0,v1,v2,v3,v4,v5,v6,v7,v8,v9,v10,v11,.val (.loc g.H),v13] h) fnK=some (.bl true,h):=by
 obtain ⟨bx,sp,en,s0,hW,M,F,fr,S⟩:=L
 obtain ⟨⟨a0,a1,a2,bf1,bf2,r1,r2,X,D1,D2,l1,l2⟩,le,shp,ls⟩:=M
 have H0:h[g.H]?=some (yjd g.nu g.ma g.cr g.en):=X.at_.get 0 rfl
 have jr:=ypg X (fun e he=>yCf (shp e he)) (by rw [le];omega)
 have i1:xIL (yh 15 "journal" ybq (yf 12) (yi)) [v0,v1,v2,v3,v4,v5,v6,v7,v8,v9,v10,v11,.val (.loc g.H),v13] h=some (en,h):=by
  unfold xIL
  simp_all? only [yef,yB (m:="journal") H0 (by rfl'),jr]
 have cm:∀ l:List PV,(∀ e∈l,Shq e)->yvY (yp (xOp (oEq) (xOp (yba) (yf 0) (xC (.int 0))) (xC (.int 0)))) (xOp (yba) (yf 0) (xC (.int 0))) (yfw [] [v0,v1,v2,v3,v4,v5,v6,v7,v8,v9,v10,v11,.val (.loc g.H),v13]) l h=some ([],h):=by
  intro l
  induction l with
  | nil=>exact fun _=>rfl
  | cons e l ih =>
   intro hl
   obtain ⟨i,b,c,xx,yy,zz,hi,rfl⟩:=hl e mem_cons_self
   have e0:(((i:Nat):Int)=0)=False:=eq_false (by omega)
   show ob (yp _ [.val (.tup [.int (i:Nat),b,c,.lst xx,.lst yy,.lst zz])] h) _=_
   have:yp (xOp (oEq) (xOp (yba) (yf 0) (xC (.int 0))) (xC (.int 0))) [.val (.tup [.int (i:Nat),b,c,.lst xx,.lst yy,.lst zz])] h=some (false,h):=by
    simp_all? only [e0]
   rw [this,ybF,if_neg (by decide)]
   exact ih fun e he=>hl e (mem_cons_of_mem _ he)
 have ci:yfF (xIL (yh 15 "journal" ybq (yf 12) (yi))) [] (yp (xOp (oEq) (xOp (yba) (yf 0) (xC (.int 0))) (xC (.int 0)))) (xOp (yba) (yf 0) (xC (.int 0))) [v0,v1,v2,v3,v4,v5,v6,v7,v8,v9,v10,v11,.val (.loc g.H),v13] h=some (.lst [],h):=by
  unfold yfF
  rw [i1,ybF,if_pos (by omega),cm en shp]
  rfl
 have eq:ypC (.lst []) (.lst []) h=some (.bl true,h):=rfl
 unfold fiB
 simp_all? only [ci,eq]
end
section
variable {h:AH}{ns:List Int}{W b0 st:Nat}
theorem ywq (m:Int):5<=wOf m/\wOf m<9:=by
 unfold wOf
 repeat' split
 all_goals omega
theorem yCg {sl:List Int}{b:Nat}{v:Int}(hs:∀ i∈sl,0<=i/\i<B64) (hv:0<=v/\v<B64):∀ i∈sl.set b v,0<=i/\i<B64:=fun i hi=>by
 rcases List.mem_or_eq_of_mem_set hi with z|z
 .exact hs i z
 .rw [z];exact hv
theorem yES {c:Int}{sl:List Int}{xs:List PV}{m:List (Nat×Nd)}{v1 v2 v3 v4 v5 v9:PVar}{tl:PSt}(A:At h ((st,.lst (sl.map .int))::m)) (hW:sl.length=W) (h1:1<=W) (h16:W<=16) (hs:∀ i∈sl,0<=i/\i<B64) (hx:xs.length<100) :
  ∃ (h':AH) (sl':List Int),deB (.val (.scr ns)::v1::v2::v3::v4::v5::.own (.lst xs)::.val (.loc st)::.val (.int c)::v9::tl) h=some (.nx (.val (.scr ns)::v1::v2::v3::v4::v5::.own (.lst (xs++[ybd (ddV sl c)]))::.val (.loc st)::.val (.int c)::.val (ybd (ddV sl c))::tl),h')/\At h' ((st,.lst (sl'.map .int))::m)/\sl'.length=W/\(∀ i∈sl',0<=i/\i<B64)/\(ddV sl c).ok W:=by
 subst hW
 obtain ⟨e1,e2,e3,e4⟩:=ywn (c:=c) h1 h16 hs
 have ok:(ddV sl c).ok sl.length:=⟨by rw [e1];exact (ywq _).1,by rw [e1];exact (ywq _).2,e2,e3.1,e3.2⟩
 have q1:=yyT (c:=c) (A.get 0 rfl) h1 h16 hs
 generalize ddV sl c=d at *
 have d3:∀ h,yba (ybd d) (.int 3) h=some (d.box,h):=fun _=>rfl
 have d4:∀ h,yba (ybd d) (.int 4) h=some (.int d.n,h):=fun _=>rfl
 have ap:∀ h,ykd 6 (yf 9) (.val (.scr ns)::v1::v2::v3::v4::v5::.own (.lst xs)::.val (.loc st)::.val (.int c)::.val (ybd d)::tl) h=some (.nx (.val (.scr ns)::v1::v2::v3::v4::v5::.own (.lst (xs++[ybd d]))::.val (.loc st)::.val (.int c)::.val (ybd d)::tl),h):=fun h=>by
  rw [yvU (xs:=xs) rfl]
  symm
  rw [if_pos (by omega)]
 by_cases e8:d.w=8
 .have eb:d.box=.int (d.b:Nat):=if_pos e8
  have nn:isN (PV.int (d.b:Nat))=false:=rfl
  rw [eb] at d3
  have se:=ykH (h:=h) (xs:=sl) (k:=d.b) (v:=d.n) (eo:=yf 7) (ei:=xOp (yba) (yf 9) (xC (.int 3))) (ev:=xOp (yba) (yf 9) (xC (.int 4))) (ρ:=.val (.scr ns)::v1::v2::v3::v4::v5::.own (.lst xs)::.val (.loc st)::.val (.int c)::.val (ybd d)::tl) rfl rfl (by simp_all? only [d3]) (A.get 0 rfl) e2
  refine ⟨_,sl.set d.b d.n,?_,At.upd (a:=[]) _ A,by simp,yCg hs e3,ok⟩
  unfold deB
  simp_all? only [q1,d3,nn,se,ap]
 .have eb:d.box=.non:=if_neg e8
  have nn:isN PV.non=true:=rfl
  rw [eb] at d3
  refine ⟨h,sl,?_,A,rfl,hs,ok⟩
  unfold deB
  simp_all? only [q1,d3,nn,ap]
theorem ypQ {cs bx:List Int}{v3 v4 v5:PVar}(A:At h [(st,.lst (bx.map .int)),(b0,.lst (bx.map .int))]) (hW:bx.length=W) (h1:1<=W) (h16:W<=16) (hb:∀ i∈bx,0<=i/\i<B64) (hc:cs.length<=12) :
  ∃ (h':AH) (ds:List Dd) (v8 v9:PVar),ygh (yq 8) deB (cs.map .int) [.val (.scr ns),.val (.int (W:Nat)),.val (.loc b0),v3,v4,v5,.own (.lst []),.val (.loc st),.no,.no,.no,.no,.no,.no] h=some (.nx [.val (.scr ns),.val (.int (W:Nat)),.val (.loc b0),v3,v4,v5,.own (.lst (ds.map ybd)),.val (.loc st),v8,v9,.no,.no,.no,.no],h')/\h'[b0]?=some (.lst (bx.map .int))/\ds.length=cs.length/\∀ d∈ds,d.ok W:=by
 obtain ⟨ρ',h',e,ds,sl,v8,v9,rfl,A',_,_,l3,l4⟩:=ynj (g:=yq 8) (s:=deB) (xs:=cs.map PV.int) (h:=h) (ρ:=[.val (.scr ns),.val (.int (W:Nat)),.val (.loc b0),v3,v4,v5,.own (.lst []),.val (.loc st),.no,.no,.no,.no,.no,.no]) (fun i ρ h'=>∃ (ds:List Dd) (sl:List Int) (v8 v9:PVar),ρ=[.val (.scr ns),.val (.int (W:Nat)),.val (.loc b0),v3,v4,v5,.own (.lst (ds.map ybd)),.val (.loc st),v8,v9,.no,.no,.no,.no]/\At h' [(st,.lst (sl.map .int)),(b0,.lst (bx.map .int))]/\sl.length=W/\(∀ i∈sl,0<=i/\i<B64)/\ds.length=i/\∀ d∈ds,d.ok W) ⟨[],bx,_,_,rfl,A,hW,hb,rfl,by simp⟩ (by
  rintro i x ρ h' hx ⟨ds,sl,v8,v9,rfl,A,l1,l2,l3,l4⟩
  rw [getElem?_map] at hx
  cases hc':cs[i]? with
  | none=>rw [hc'] at hx;cases hx
  | some c =>
   rw [hc'] at hx
   cases hx
   have hi:=(List.getElem?_eq_some_iff.mp hc').1
   obtain ⟨h2,sl',q1,A2,r1,r2,r3⟩:=yES (ns:=ns) (c:=c) (xs:=ds.map ybd) (v1:=.val (.int (W:Nat))) (v2:=.val (.loc b0)) (v3:=v3) (v4:=v4) (v5:=v5) (v9:=v9) (tl:=[.no,.no,.no,.no]) A l1 h1 h16 l2 (by rw [length_map];omega)
   refine ⟨_,_,h2,rfl,.inl q1,ds++[ddV sl c],sl',.val (.int c),.val (ybd (ddV sl c)),by simp,A2,r1,r2,by simp [l3],fun d hd=>?_⟩
   rcases List.mem_append.mp hd with z|z
   .exact l4 d z
   .rw [List.mem_singleton.mp z];exact r3)
 exact ⟨h',ds,v8,v9,e,A'.get 1 rfl,by simpa using l3,l4⟩
def txD (d:Dd):PV:=.str d.txt
theorem ypR {ds:List Dd}{hn l0 l1 l2:Nat}{bx:List Int}{L0:List PV}{v0 v1 v2 v3 v4 v5 v7 v8 v9 v12 v13:PVar}(A:At h [(hn,.lst [.loc l0,.loc l1,.loc l2]),(l0,.lst L0),(l1,.lst []),(l2,.lst []),(b0,.lst (bx.map .int))]) (hd:ds.length<=12) :
  ∃ h' v11,ygh (yq 11) haB (yeT 0 ds.length) [v0,v1,v2,v3,v4,v5,.val (.lst (ds.map ybd)),v7,v8,v9,.val (.loc hn),.no,v12,v13] h=some (.nx [v0,v1,v2,v3,v4,v5,.val (.lst (ds.map ybd)),v7,v8,v9,.val (.loc hn),v11,v12,v13],h')/\At h' [(hn,.lst [.loc l0,.loc l1,.loc l2]),(l0,.lst L0),(l1,.lst ((alt true ds).map txD)),(l2,.lst ((alt false ds).map txD)),(b0,.lst (bx.map .int))]:=by
 obtain ⟨ρ',h',e,v11,rfl,A'⟩:=ynj (g:=yq 11) (s:=haB) (xs:=yeT 0 ds.length) (h:=h) (ρ:=[v0,v1,v2,v3,v4,v5,.val (.lst (ds.map ybd)),v7,v8,v9,.val (.loc hn),.no,v12,v13]) (fun i ρ h'=>∃ v11,ρ=[v0,v1,v2,v3,v4,v5,.val (.lst (ds.map ybd)),v7,v8,v9,.val (.loc hn),v11,v12,v13]/\At h' [(hn,.lst [.loc l0,.loc l1,.loc l2]),(l0,.lst L0),(l1,.lst ((alt true (ds.take i)).map txD)),(l2,.lst ((alt false (ds.take i)).map txD)),(b0,.lst (bx.map .int))]) ⟨_,rfl,A⟩ (by
  rintro i x ρ h' hx ⟨v11,rfl,A⟩
  have hi:i<ds.length:=by
   have:=(List.getElem?_eq_some_iff.mp hx).1
   simpa [yeT] using this
  have ex:x=.int (i:Nat):=by
   unfold yeT at hx
   rw [getElem?_map,List.getElem?_range hi] at hx
   have:=Option.some.inj hx
   rw [<- this]
   simp
  subst ex
  obtain ⟨d,hd'⟩:∃ d,ds[i]?=some d:=⟨ds[i],List.getElem?_eq_getElem hi⟩
  have et:ds.take (i+1)=ds.take i++[d]:=by rw [List.take_add_one,hd'];rfl
  have tl:(ds.take i).length=i:=by rw [length_take];omega
  have i2':atI (ds.map ybd) (i:Nat)=some (ybd d):=ydn (by rw [getElem?_map,hd'];rfl)
  have i2:∀ h,ycs (.lst (ds.map ybd)) (.int (i:Nat)) h=some (ybd d,h):=fun h=>by
   unfold ycs
   simp only [i2']
  have d0:∀ h,yba (ybd d) (.int 0) h=some (txD d,h):=fun _=>rfl
  have eh:h'[hn]?=some (.lst [.loc l0,.loc l1,.loc l2]):=A.get 0 rfl
  have la:=ynI (ds.take i)
  rw [et,ykP,ykP,tl]
  rcases (show i%2=0\/i%2=1 by omega) with e|e
  .have ik:(1:Int)+(i:Int)%2=1:=by omega
   have ih:ycs (.loc hn) (.int 1) h'=some (.loc l1,h'):=by unfold ycs;simp only [eh];rfl
   have el:h'[l1]?=some (.lst ((alt true (ds.take i)).map txD)):=A.get 2 rfl
   have ap:=yhW (y:=txD d) el (by rw [length_map];omega)
   refine ⟨_,[v0,v1,v2,v3,v4,v5,.val (.lst (ds.map ybd)),v7,v8,v9,.val (.loc hn),.val (.int (i:Nat)),v12,v13],h'.set l1 (.lst ((alt true (ds.take i)).map txD++[txD d])),rfl,.inl ?_,_,rfl,?_⟩
   .unfold haB
    simp_all? only [ik,ih,ycJ el,i2,i2',d0,ap]
   .rw [if_pos (by simp [e]),if_neg (by simp [e]),map_append]
    exact At.upd (a:=[_,_]) _ A
  .have ik:(1:Int)+(i:Int)%2=2:=by omega
   have ih:ycs (.loc hn) (.int 2) h'=some (.loc l2,h'):=by unfold ycs;simp only [eh];rfl
   have el:h'[l2]?=some (.lst ((alt false (ds.take i)).map txD)):=A.get 3 rfl
   have ap:=yhW (y:=txD d) el (by rw [length_map];omega)
   refine ⟨_,[v0,v1,v2,v3,v4,v5,.val (.lst (ds.map ybd)),v7,v8,v9,.val (.loc hn),.val (.int (i:Nat)),v12,v13],h'.set l2 (.lst ((alt false (ds.take i)).map txD++[txD d])),rfl,.inl ?_,_,rfl,?_⟩
   .unfold haB
    simp_all? only [ik,ih,ycJ el,i2,i2',d0,ap]
   .rw [if_neg (by simp [e]),if_pos (by simp [e]),map_append]
    exact At.upd (a:=[_,_,_]) _ A)
 refine ⟨h',v11,e,?_⟩
 have:(yeT 0 ds.length).length=ds.length:=by simp [yeT]
 rw [this,List.take_length] at A'
 exact A'
end
def laT:XS:=(yl (ybG (ygd (ydY (yc (ygd (ydY (yc (xOp (yba) (yf 5) (xC (.int 0))) (yi)))) (yc (ygd (ydY (yi))) (yc (ygd (ydY (yi))) (yi)))))) (yq 10)) (ypX 6 (yl (ymZ (ylH (yc (xCB (yca) (yc (yf 6) (yi))) (yi))) (yq 11) haB) laU)))
def bxV (W:Nat) (c:Int):List Int:=(List.range W).map fun (k:Nat)=>ysX (c+31*(k:Int)*k)
theorem ypi (cs:List Int) (lo hi:Option Int):ysQ (cs.map PV.int) lo hi=(ysQ cs lo hi).map .int:=by
 unfold ysQ
 rw [length_map,List.map_take,List.map_drop]
theorem ywr (cs:List Int):(ysQ cs (some 5) (some 17)).length<=12:=by
 unfold ysQ
 rw [show (5:Int)=((5:Nat):Int) from rfl,show (17:Int)=((17:Nat):Int) from rfl,HT.sIx_nat,HT.sIx_nat,length_take]
 omega
section
variable {h:AH}{ns:List Int}{W b0:Nat}{bx:List Int}{ds:List Dd}{w0 x y:Nat}
theorem yET {ρ:PSt}(hρ:ρ[0]?=some (.val (.scr ns))) (h16:W<=16):yke bxE (yfw [0] ρ) (yeT 0 W) h=some ((bxV W (ns.getD 1 0)).map .int,h):=by
 have c1:yM [.scr ns,.int 1] h=some (.int (ns.getD 1 0),h):=yeq 1
 have hi:∀ x,yfw [0] ρ x=[.val x,.val (.scr ns)]:=fun x=>by
  unfold yfw yqU
  simp [hρ]
 unfold yeT bxV
 rw [map_map]
 refine (ykn (fun k:Nat=>PV.int (0+(k:Int))) _ fun k hk=>?_)
 have hk:=List.mem_range.mp hk
 rw [hi]
 have m1:PX.MulOk 31 (k:Int)=True:=yoo (by omega) (by omega)
 have m2:PX.MulOk (31*(k:Int)) (k:Int)=True:=yoo (by omega) (by omega)
 have z:(0:Int)+(k:Int)=k:=by omega
 rw [z]
 unfold bxE
 simp_all? only [c1,m1,m2,yfg]
 rfl
theorem yEU {k:Nat}(hk:k<16):(0:Int)<=(k:Nat)/\((k:Nat):Int)<B64:=by unfold B64;omega
theorem yCh {h:AH}{v0 v1 v2 v3 v4 v5 v7 v8 v9 v10 v11 v12 v13:PVar}(h12:ds.length<=12):ylH (yc (xCB (yca) (yc (yf 6) (yi))) (yi)) [v0,v1,v2,v3,v4,v5,.val (.lst (ds.map ybd)),v7,v8,v9,v10,v11,v12,v13] h=some (yeT 0 ds.length,h):=by
 show (if -1000000000<=(((ds.map ybd).length:Nat):Int)/\(((ds.map ybd).length:Nat):Int)<=1000000000 then some (yeT 0 (((ds.map ybd).length:Nat):Int).toNat,h) else none)=_
 rw [length_map,if_pos (by omega)]
 rfl
theorem yCi {v3 v4 v7 v8 v9 v11:PVar}{hn l0 l1 l2:Nat}(A:At h [(hn,.lst [.loc l0,.loc l1,.loc l2]),(l0,.lst [.str (dS w0 (toString (x:Int):String) (toString (y:Int):String))]),(l1,.lst ((alt true ds).map txD)),(l2,.lst ((alt false ds).map txD)),(b0,.lst (bx.map .int))]) (h1:1<=bx.length) (h16:bx.length<=16) (hb':∀ i∈bx,0<=i/\i<B64) (hw:w0<5) (hx:x<bx.length) (hy:y<bx.length) (h12:ds.length<=12) (hd:∀ d∈ds,d.ok bx.length) :
  ∃ h',ob (laU [.val (.scr ns),.val (.int (bx.length:Nat)),.val (.loc b0),v3,v4,.val (slV w0 x y),.val (.lst (ds.map ybd)),v7,v8,v9,.val (.loc hn),v11,.no,.no] h) fnK=some (.bl true,h'):=by
 have s1:∀ h,yba (slV w0 x y) (.int 1) h=some (.lst ((ygB w0 x y).map fun k:Nat=>.int (k:Nat)),h):=fun _=>rfl
 have s2:∀ h,yba (slV w0 x y) (.int 2) h=some (.int (ykL w0:Nat),h):=fun _=>rfl
 have la:=ynI ds
 have rd:∀ b:Bool,∀ d∈(alt b ds).map Dd.pr,Rdb d:=fun b d hd'=>by
  obtain ⟨d0,hd0,rfl⟩:=List.mem_map.mp hd'
  have ok:=hd d0 (ynH b ds hd0)
  exact yBZ ok.2.1 (yEU (by have:=ok.2.2.1;omega)) ⟨ok.2.2.2.1,ok.2.2.2.2⟩
 have tx:∀ b:Bool,(alt b ds).map txD=((alt b ds).map Dd.pr).map txV:=fun b=>by rw [map_map];rfl
 obtain ⟨h3,g,as,q2,hg,q3⟩:=ysE (h:=h) (bx:=bx) (n:=hn) (hs:=[(l0,[(dS w0 (toString (x:Int):String) (toString (y:Int):String),dR w0 (x:Nat) (y:Nat))]),(l1,(alt true ds).map Dd.pr),(l2,(alt false ds).map Dd.pr)]) h1 h16 hb' (fun p hp=>by
  simp only [mem_cons,not_mem_nil,or_false] at hp
  rcases hp with rfl|rfl|rfl
  .exact ⟨by show 1<=6;omega,fun d hd'=>by rw [List.mem_singleton.mp hd'];exact yBZ (by omega) (yEU (by omega)) (yEU (by omega))⟩
  .exact ⟨by rw [length_map];omega,rd true⟩
  .exact ⟨by rw [length_map];omega,rd false⟩) (by simp) (by simp) (A.get 0 rfl) (fun p hp=>by
  simp only [mem_cons,not_mem_nil,or_false] at hp
  rcases hp with rfl|rfl|rfl
  .exact A.get 1 rfl
  .show _=some (Nd.lst (((alt true ds).map Dd.pr).map txV))
   rw [<- tx];exact A.get 2 rfl
  .show _=some (Nd.lst (((alt false ds).map Dd.pr).map txV))
   rw [<- tx];exact A.get 3 rfl)
 have X:=q3 [(b0,.lst (bx.map .int))] (A.sub ((((((List.nil_sublist _).cons₂ _).cons _).cons _).cons _).cons _))
 obtain ⟨a0,a1,a2,rfl⟩:∃ a0 a1 a2,as=[a0,a1,a2]:=by
  have l3:=X.ly.len
  match as,l3 with
  | [a0,a1,a2],_=>exact ⟨_,_,_,rfl⟩
 obtain ⟨h4,c',s',q4,X4,F4,fr4,S4⟩:=yiF (a:=a0) (as2:=[a1,a2]) (xs2:=[hd0 ((alt true ds).map Dd.pr),hd0 ((alt false ds).map Dd.pr)]) hw hx hy X (by simp) h16
 have L:LS h4 g b0 [] ds w0 x y bx.length 0:=⟨⟨bx,_,[],s',rfl,⟨⟨(a0.1,c'),a1,a2,Z8,Z8,_,_,X4,yEF _,yEF _,rfl,rfl⟩,rfl,by simp,by simp⟩,F4,fr4,S4⟩⟩
 obtain ⟨ρ',h5,q5,v11',v13',rfl,L'⟩:=ynj (g:=yq 11) (s:=mlB) (xs:=yeT 0 ds.length) (h:=h4) (ρ:=[.val (.scr ns),.val (.int (bx.length:Nat)),.val (.loc b0),v3,v4,.val (slV w0 x y),.val (.lst (ds.map ybd)),v7,v8,v9,.val (.loc hn),v11,.val (.loc g.H),.no]) (fun i ρ h=>∃ v11 v13,ρ=[.val (.scr ns),.val (.int (bx.length:Nat)),.val (.loc b0),v3,v4,.val (slV w0 x y),.val (.lst (ds.map ybd)),v7,v8,v9,.val (.loc hn),v11,.val (.loc g.H),v13]/\LS h g b0 [] ds w0 x y bx.length i) ⟨_,_,rfl,L⟩ (by
  rintro i z ρ h hz ⟨v11,v13,rfl,L⟩
  have hi:i<ds.length:=by
   have:=(List.getElem?_eq_some_iff.mp hz).1
   simpa [yeT] using this
  have ez:z=.int (i:Nat):=by
   unfold yeT at hz
   rw [getElem?_map,List.getElem?_range hi] at hz
   have:=Option.some.inj hz
   rw [<- this]
   simp
  subst ez
  obtain ⟨d,hd'⟩:∃ d,ds[i]?=some d:=⟨ds[i],List.getElem?_eq_getElem hi⟩
  obtain ⟨h',v13',e1,e2⟩:=yEQ (ns:=ns) (v3:=v3) (v4:=v4) (v7:=v7) (v8:=v8) (v9:=v9) (v10:=.val (.loc hn)) (v13:=v13) L hw hx hy h16 (by omega) hd' (hd d (mem_of_getElem? hd'))
  exact ⟨_,_,h',rfl,.inl e1,_,_,rfl,e2⟩)
 have L5:LS h5 g b0 [] ds w0 x y bx.length ds.length:=by simpa [yeT] using L'
 refine ⟨h5,?_⟩
 have f5:=yER (v0:=.val (.scr ns)) (v1:=.val (.int (bx.length:Nat))) (v2:=.val (.loc b0)) (v3:=v3) (v4:=v4) (v5:=.val (slV w0 x y)) (v6:=.val (.lst (ds.map ybd))) (v7:=v7) (v8:=v8) (v9:=v9) (v10:=.val (.loc hn)) (v11:=v11') (v13:=v13') L5 (by omega)
 have lb:yV [.loc b0] h=some (.lst (bx.map .int),h):=yfo (A.get 4 rfl)
 have i2:=fun h v12 v13=>yCh (h:=h) (v0:=.val (.scr ns)) (v1:=.val (.int (bx.length:Nat))) (v2:=.val (.loc b0)) (v3:=v3) (v4:=v4) (v5:=.val (slV w0 x y)) (v7:=v7) (v8:=v8) (v9:=v9) (v10:=.val (.loc hn)) (v11:=v11) (v12:=v12) (v13:=v13) h12
 have eh:length h=g.H:=hg.symm
 rw [eh] at q2
 unfold laU
 simp_all? only [yrx,lb,eh,q2,s1,s2,q4,i2]
 rw [q5]
 exact f5
theorem yEV {v3 v4 v7 v8 v9:PVar}(e:h[b0]?=some (.lst (bx.map .int))) (h1:1<=bx.length) (h16:bx.length<=16) (hb':∀ i∈bx,0<=i/\i<B64) (hw:w0<5) (hx:x<bx.length) (hy:y<bx.length) (h12:ds.length<=12) (hd:∀ d∈ds,d.ok bx.length) :
  ∃ h',ob (laT [.val (.scr ns),.val (.int (bx.length:Nat)),.val (.loc b0),v3,v4,.val (slV w0 x y),.own (.lst (ds.map ybd)),v7,v8,v9,.no,.no,.no,.no] h) fnK=some (.bl true,h'):=by
 have A0:=At.one e
 have s0:∀ h,yba (slV w0 x y) (.int 0) h=some (.str (dS w0 (toString (x:Int):String) (toString (y:Int):String)),h):=fun _=>rfl
 have fin:∀ {h:AH}{hn l0 l1 l2:Nat},At h [(hn,.lst [.loc l0,.loc l1,.loc l2]),(l0,.lst [.str (dS w0 (toString (x:Int):String) (toString (y:Int):String))]),(l1,.lst []),(l2,.lst []),(b0,.lst (bx.map .int))]->∃ h',ob (ygh (yq 11) haB (yeT 0 ds.length) [.val (.scr ns),.val (.int (bx.length:Nat)),.val (.loc b0),v3,v4,.val (slV w0 x y),.val (.lst (ds.map ybd)),v7,v8,v9,.val (.loc hn),.no,.no,.no] h) (fun o h1=>ob (sqK laU o h1) fnK)=some (.bl true,h'):=fun {h hn l0 l1 l2} A=>by
  obtain ⟨h2,v11,q1,A5⟩:=ypR (ds:=ds) (v0:=.val (.scr ns)) (v1:=.val (.int (bx.length:Nat))) (v2:=.val (.loc b0)) (v3:=v3) (v4:=v4) (v5:=.val (slV w0 x y)) (v7:=v7) (v8:=v8) (v9:=v9) (v12:=.no) (v13:=.no) A h12
  rw [q1,ybF]
  exact yCi A5 h1 h16 hb' hw hx hy h12 hd
 have A1:=At.new (Nd.lst [.str (dS w0 (toString (x:Int):String) (toString (y:Int):String))]) (a:=[]) A0
 have A3:=At.new (Nd.lst []) (a:=[_,_]) (At.new (Nd.lst []) (a:=[_]) A1)
 have A4:=At.new (Nd.lst [.loc h.length,.loc (h++[Nd.lst [.str (dS w0 (toString (x:Int):String) (toString (y:Int):String))]]).length,.loc ((h++[Nd.lst [.str (dS w0 (toString (x:Int):String) (toString (y:Int):String))]])++[Nd.lst []]).length]) (a:=[]) A3
 have i2:=fun h v10=>yCh (h:=h) (v0:=.val (.scr ns)) (v1:=.val (.int (bx.length:Nat))) (v2:=.val (.loc b0)) (v3:=v3) (v4:=v4) (v5:=.val (slV w0 x y)) (v7:=v7) (v8:=v8) (v9:=v9) (v10:=v10) (v11:=.no) (v12:=.no) (v13:=.no) h12
 obtain ⟨h',q⟩:=fin A4
 refine ⟨h',?_⟩
 unfold laT
 simp_all? only [s0,i2]
 exact q
theorem yCj (ns:List Int) (hl:ns.length<=63):∃ h',yuD [.scr ns] h=some (.bl true,h'):=by
 obtain ⟨W,hW⟩:∃ W:Nat,3+ns.getD 0 0%14=(W:Nat):=⟨(3+ns.getD 0 0%14).toNat,by omega⟩
 have h1:1<=W:=by omega
 have h16:W<=16:=by omega
 obtain ⟨x,ex⟩:∃ x:Nat,ns.getD 2 0%(W:Nat)=(x:Nat):=⟨(ns.getD 2 0%(W:Nat)).toNat,by have:=Int.emod_nonneg (ns.getD 2 0) (show (W:Int)≠0 by omega);omega⟩
 obtain ⟨y,ey⟩:∃ y:Nat,ns.getD 3 0%(W:Nat)=(y:Nat):=⟨(ns.getD 3 0%(W:Nat)).toNat,by have:=Int.emod_nonneg (ns.getD 3 0) (show (W:Int)≠0 by omega);omega⟩
 obtain ⟨w0,ew⟩:∃ w:Nat,ns.getD 4 0%5=(w:Nat):=⟨(ns.getD 4 0%5).toNat,by omega⟩
 have hx:x<W:=by have:=Int.emod_lt_of_pos (ns.getD 2 0) (show (0:Int)<W by omega);omega
 have hy:y<W:=by have:=Int.emod_lt_of_pos (ns.getD 3 0) (show (0:Int)<W by omega);omega
 have c0:yM [.scr ns,.int 0] h=some (.int (ns.getD 0 0),h):=yeq 0
 have c2:∀ h,yM [.scr ns,.int 2] h=some (.int (ns.getD 2 0),h):=fun _=>yeq 2
 have c3:∀ h,yM [.scr ns,.int 3] h=some (.int (ns.getD 3 0),h):=fun _=>yeq 3
 have c4:∀ h,yM [.scr ns,.int 4] h=some (.int (ns.getD 4 0),h):=fun _=>yeq 4
 have m2:∀ h,oMod (.int (ns.getD 2 0)) (.int (W:Nat)) h=some (.int (x:Nat),h):=fun h=>by
  symm
  rw [if_pos (by omega),ex]
 have m3:∀ h,oMod (.int (ns.getD 3 0)) (.int (W:Nat)) h=some (.int (y:Nat),h):=fun h=>by
  symm
  rw [if_pos (by omega),ey]
 have sl:∀ h,ycw [.int (w0:Nat),.int (x:Nat),.int (y:Nat)] h=some (slV w0 x y,h):=fun h=>ypP (by omega) (by omega) w0 (by omega)
 have i1:ylH (yc (yf 1) (yi)) [.val (.scr ns),.val (.int (W:Nat)),.no,.no,.no,.no,.no,.no,.no,.no,.no,.no,.no,.no] h=some (yeT 0 W,h):=by
  show (if -1000000000<=((W:Nat):Int)/\((W:Nat):Int)<=1000000000 then some (yeT 0 ((W:Nat):Int).toNat,h) else none)=_
  rw [if_pos (by omega)]
  rfl
 have l1:((yeT 0 W).length<=100000)=True:=eq_true (by simp [yeT];omega)
 have b1:=yET (h:=h) (ns:=ns) (W:=W) (ρ:=[.val (.scr ns),.val (.int (W:Nat)),.no,.no,.no,.no,.no,.no,.no,.no,.no,.no,.no,.no]) rfl h16
 have bl:(bxV W (ns.getD 1 0)).length=W:=by simp [bxV]
 have bb:∀ i∈bxV W (ns.getD 1 0),0<=i/\i<B64:=fun i hi=>by
  obtain ⟨k,_,rfl⟩:=List.mem_map.mp hi
  exact ysx _
 generalize bxV W (ns.getD 1 0)=bx at *
 have e0:At h []:=⟨List.nodup_nil,fun p hp=>by simp at hp⟩
 have A1:=At.new (Nd.lst (bx.map .int)) (a:=[]) e0
 have A2:=At.new (Nd.lst (bx.map .int)) (a:=[]) A1
 have lb:yV [.loc h.length] (h++[Nd.lst (bx.map .int)])=some (.lst (bx.map .int),h++[Nd.lst (bx.map .int)]):=yfo (A1.get 0 rfl)
 have fin:∀ {h:AH}{b0 st:Nat},At h [(st,.lst (bx.map .int)),(b0,.lst (bx.map .int))]->∃ h',ob (ygh (yq 8) deB ((ysQ ns (some 5) (some 17)).map .int) [.val (.scr ns),.val (.int (W:Nat)),.val (.loc b0),.val (.int (x:Nat)),.val (.int (y:Nat)),.val (slV w0 x y),.own (.lst []),.val (.loc st),.no,.no,.no,.no,.no,.no] h) (fun o h1=>ob (sqK laT o h1) fnK)=some (.bl true,h'):=fun {h b0 st} A=>by
  obtain ⟨h2,ds,v8,v9,q1,q2,q3,q4⟩:=ypQ (ns:=ns) (v3:=.val (.int (x:Nat))) (v4:=.val (.int (y:Nat))) (v5:=.val (slV w0 x y)) A bl h1 h16 bb (ywr ns)
  rw [q1,ybF]
  subst bl
  exact yEV q2 h1 h16 bb (by omega) hx hy (by rw [q3];exact ywr ns) q4
 obtain ⟨h',q⟩:=fin A2
 refine ⟨h',?_⟩
 unfold yuD
 rw [yo]
 show ob (yl _ (yl (ybG (ygd (yiY _ _ bxE)) _) (yl _ (yl _ (yl _ (yl _ (yl _ (yl (ymZ _ (yq 8) deB) laT))))))) [.val (.scr ns),.no,.no,.no,.no,.no,.no,.no,.no,.no,.no,.no,.no,.no] h) fnK=_
 simp_all? only [c0,hW,i1,l1,b1,c2,c3,c4,m2,m3,ew,sl,lb,ypi]
 have i5:∀ (ρ:PSt) (h:AH),xIL (xFz (yzP yAe (yf 0) (ymV (xC (.int 5))) (ymV (xC (.int 17))))) (.val (.scr ns)::ρ) h=some ((ysQ ns (some 5) (some 17)).map .int,h):=fun ρ h=>by
  unfold xIL
  simp_all? only [ypi]
 rw [i5,ybF]
 exact q
end
end
def top (i:Nat):Stmt:=PySem.Challenge.pw_retryhall_k24_sleep_and_wake.main.body.getD i (.Pass ⟨0,0,0,0⟩)
abbrev FR:=Str×Str×Stmt×Nat×List Str
abbrev fRw (x q:Str) (s:Stmt) (k:Nat) (n:List Str):FR:=(x,q,s,k,n)
abbrev mRw (k:Nat) (x:Str) (n:Nat):Nat×Str×Nat:=(k,x,n)
def r0:FR:=fRw "__init__" "Log.__init__" (inClass (top 8) 0) 1 ["self"]
def r1:FR:=fRw "write" "Log.write" (inClass (top 8) 1) 3 ["self","box","number","top"]
def r2:FR:=fRw "own" "Log.own" (inClass (top 8) 2) 2 ["self","box","layer"]
def r3:FR:=fRw "begin" "Log.begin" (inClass (top 8) 3) 1 ["self"]
def r4:FR:=fRw "settle" "Log.settle" (inClass (top 8) 4) 1 ["self","top","beneath"]
def r5:FR:=fRw "drop" "Log.drop" (inClass (top 8) 5) 1 ["self"]
def r6:FR:=fRw "see" "Log.see" (inClass (top 8) 7) 3 ["self","box","number"]
def r7:FR:=fRw "saw" "Log.saw" (inClass (top 8) 8) 1 ["self"]
def r8:FR:=fRw "wrote" "Log.wrote" (inClass (top 8) 9) 1 ["self","lowest"]
def r9:FR:=fRw "is_whole" "is_whole" (top 16) 1 ["value"]
def r10:FR:=fRw "is_number" "is_number" (top 17) 1 ["value"]
def r11:FR:=fRw "is_made_of" "is_made_of" (top 23) 2 ["text","signs"]
def r12:FR:=fRw "number_of" "number_of" (top 18) 1 ["text","number"]
def r13:FR:=fRw "is_slot" "is_slot" (top 20) 1 ["text"]
def r14:FR:=fRw "slot_index" "slot_index" (top 21) 1 ["slot"]
def r15:FR:=fRw "is_name" "is_name" (top 22) 1 ["text"]
def r16:FR:=fRw "__init__" "Doer.__init__" (inClass (top 25) 0) 3 ["self","slots","width"]
def r17:FR:=fRw "held_in" "Doer.held_in" (inClass (top 25) 1) 2 ["self","slot"]
def r18:FR:=fRw "hold" "Doer.hold" (inClass (top 25) 2) 3 ["self","slot","number"]
def r19:FR:=fRw "box_at" "Doer.box_at" (inClass (top 25) 3) 2 ["self","place"]
def r20:FR:=fRw "do_put" "Doer.do_put" (inClass (top 25) 5) 3 ["self","place","slot"]
def r21:FR:=fRw "sees_at" "Doer.sees_at" (inClass (top 25) 6) 2 ["self","place"]
def r22:FR:=fRw "take_own" "Doer.take_own" (inClass (top 25) 7) 3 ["self","slot","place"]
def r23:FR:=fRw "take_seen" "Doer.take_seen" (inClass (top 25) 8) 4 ["self","slot","place","numbers","box"]
def r24:FR:=fRw "takes" "takes" (top 27) 2 ["begun_by","row"]
def r25:FR:=fRw "__init__" "Run.__init__" (inClass (top 28) 0) 4 ["self","rows","slots","width"]
def r26:FR:=fRw "row" "Run.row" (inClass (top 28) 1) 1 ["self"]
def r27:FR:=fRw "is_stale" "Run.is_stale" (inClass (top 28) 2) 2 ["self","stamps"]
def r28:FR:=fRw "taker_layer" "Run.taker_layer" (inClass (top 28) 3) 2 ["self","row","layer"]
def r29:FR:=fRw "is_looked_over" "Run.is_looked_over" (inClass (top 28) 4) 1 ["self","row"]
def r30:FR:=fRw "see_next" "Run.see_next" (inClass (top 28) 5) 3 ["self","numbers","stamps","row","box"]
def r31:FR:=fRw "go_plain" "Run.go_plain" (inClass (top 28) 7) 2 ["self","row"]
def r32:FR:=fRw "lead" "Run.lead" (inClass (top 28) 8) 2 ["self","row"]
def r33:FR:=fRw "leave" "Run.leave" (inClass (top 28) 10) 2 ["self","row","layer","side","begun_by"]
def r34:FR:=fRw "throw" "Run.throw" (inClass (top 28) 9) 2 ["self","row","number","begun_by"]
def r35:FR:=fRw "go" "Run.go" (inClass (top 28) 6) 1 ["self","row"]
def r36:FR:=fRw "state" "Hand.state" (inClass (top 29) 1) 1 ["self"]
def r37:FR:=fRw "new_run" "Hand.new_run" (inClass (top 29) 2) 1 ["self","rows"]
def r38:FR:=fRw "begin_anew" "Hand.begin_anew" (inClass (top 29) 3) 1 ["self"]
def r39:FR:=fRw "fall_asleep" "Hand.fall_asleep" (inClass (top 29) 4) 1 ["self"]
def r40:FR:=fRw "go_on" "Hand.go_on" (inClass (top 29) 5) 2 ["self","slots"]
def r41:FR:=fRw "__init__" "Hand.__init__" (inClass (top 29) 0) 3 ["self","deeds","width"]
def r42:FR:=fRw "__init__" "Let.__init__" (inClass (top 33) 0) 3 ["self","slot","number"]
def r43:FR:=fRw "__init__" "Take.__init__" (inClass (top 35) 0) 3 ["self","slot","place"]
def r44:FR:=fRw "__init__" "Put.__init__" (inClass (top 36) 0) 3 ["self","place","slot"]
def r45:FR:=fRw "__init__" "Either.__init__" (inClass (top 38) 0) 3 ["self","parts","others"]
def r46:FR:=fRw "__init__" "Try.__init__" (inClass (top 39) 0) 5 ["self","parts","name","slot","others"]
def r47:FR:=fRw "__init__" "Throw.__init__" (inClass (top 40) 0) 3 ["self","name","slot"]
def r48:FR:=fRw "long" "Let.long" (inClass (top 33) 2) 1 ["self"]
def r49:FR:=fRw "long" "Take.long" (inClass (top 35) 2) 1 ["self"]
def r50:FR:=fRw "long" "Put.long" (inClass (top 36) 2) 1 ["self"]
def r51:FR:=fRw "long" "Throw.long" (inClass (top 40) 2) 1 ["self"]
def r52:FR:=fRw "long" "Wait.long" (inClass (top 41) 1) 1 ["self"]
def r53:FR:=fRw "list_long" "list_long" (top 31) 1 ["parts"]
def r54:FR:=fRw "long" "Either.long" (inClass (top 38) 2) 1 ["self"]
def r55:FR:=fRw "long" "Try.long" (inClass (top 39) 2) 1 ["self"]
def r56:FR:=fRw "plain_rows" "plain_rows" (top 46) 1 ["part"]
def r57:FR:=fRw "first_row" "first_row" (top 48) 2 ["part","second"]
def r58:FR:=fRw "rows_between" "rows_between" (top 49) 2 ["part","behind"]
def r59:FR:=fRw "list_rows" "list_rows" (top 44) 2 ["parts","first","rows","part"]
def r60:FR:=fRw "part_rows" "part_rows" (top 45) 2 ["part","first"]
def r61:FR:=fRw "sided_rows" "sided_rows" (top 47) 2 ["part","first","behind","second","inner","outer"]
def r62:FR:=fRw "rows_of" "rows_of" (top 43) 1 ["deed"]
def r63:FR:=fRw "__init__" "Reader.__init__" (inClass (top 55) 0) 2 ["self","words"]
def r64:FR:=fRw "words_of" "words_of" (top 54) 1 ["text"]
def r65:FR:=fRw "ahead" "Reader.ahead" (inClass (top 55) 1) 1 ["self"]
def r66:FR:=fRw "taken" "Reader.taken" (inClass (top 55) 2) 1 ["self","word"]
def r67:FR:=fRw "pass_over" "Reader.pass_over" (inClass (top 55) 3) 2 ["self","wanted","word"]
def r68:FR:=fRw "slot_taken" "Reader.slot_taken" (inClass (top 55) 4) 1 ["self","word"]
def r69:FR:=fRw "name_taken" "Reader.name_taken" (inClass (top 55) 5) 1 ["self","word"]
def r70:FR:=fRw "number_taken" "Reader.number_taken" (inClass (top 55) 6) 1 ["self","word","number"]
def r71:FR:=fRw "plain_taken" "Reader.plain_taken" (inClass (top 55) 13) 2 ["self","word","slot","place","name"]
def r72:FR:=fRw "list_taken" "Reader.list_taken" (inClass (top 55) 7) 2 ["self","around","parts"]
def r73:FR:=fRw "side_taken" "Reader.side_taken" (inClass (top 55) 8) 2 ["self","around","parts"]
def r74:FR:=fRw "part_taken" "Reader.part_taken" (inClass (top 55) 9) 2 ["self","around","word"]
def r75:FR:=fRw "either_taken" "Reader.either_taken" (inClass (top 55) 11) 2 ["self","around","parts","others"]
def r76:FR:=fRw "try_taken" "Reader.try_taken" (inClass (top 55) 12) 2 ["self","around","parts","name","slot","others"]
def r77:FR:=fRw "read" "read" (top 53) 1 ["text","reader","deed"]
def r78:FR:=fRw "check_boxes" "check_boxes" (top 60) 1 ["boxes"]
def r79:FR:=fRw "rows_of_deeds" "rows_of_deeds" (top 62) 1 ["texts"]
def r80:FR:=fRw "rows_of_hands" "rows_of_hands" (top 61) 1 ["hands"]
def r81:FR:=fRw "__init__" "Hall.__init__" (inClass (top 63) 0) 3 ["self","boxes","hands"]
def r82:FR:=fRw "boxes" "Hall.boxes" (inClass (top 63) 1) 1 ["self"]
def r83:FR:=fRw "stamps" "Hall.stamps" (inClass (top 63) 2) 1 ["self"]
def r84:FR:=fRw "hand_at" "Hall.hand_at" (inClass (top 63) 4) 2 ["self","hand"]
def r85:FR:=fRw "state" "Hall.state" (inClass (top 63) 5) 2 ["self","hand"]
def r86:FR:=fRw "which" "Hall.which" (inClass (top 63) 6) 2 ["self","hand"]
def r87:FR:=fRw "slots" "Hall.slots" (inClass (top 63) 7) 2 ["self","hand"]
def r88:FR:=fRw "saw" "Hall.saw" (inClass (top 63) 8) 2 ["self","hand"]
def r89:FR:=fRw "journal" "Hall.journal" (inClass (top 63) 9) 1 ["self"]
def r90:FR:=fRw "wake_stale" "Hall.wake_stale" (inClass (top 63) 13) 1 ["self","member"]
def r91:FR:=fRw "end_deed" "Hall.end_deed" (inClass (top 63) 14) 5 ["self","hand","end","laid","slots","member"]
def r92:FR:=fRw "lay_down" "Hall.lay_down" (inClass (top 63) 12) 2 ["self","hand","run","laid","pair","box"]
def r93:FR:=fRw "looked_over_told" "Hall.looked_over_told" (inClass (top 63) 11) 3 ["self","hand","row_number","member","row","box"]
def r94:FR:=fRw "turn" "Hall.turn" (inClass (top 63) 10) 2 ["self","hand","member","row_number"]
def r95:FR:=fRw "_law_cell_at" "_law_cell_at" (top 65) 2 ["_law_script","_law_k"]
def r96:FR:=fRw "_law_number_by" "_law_number_by" (top 66) 1 ["_law_cell","_law_part"]
def r97:FR:=fRw "_law_sleeper" "_law_sleeper" (top 67) 3 ["_law_way","_law_one","_law_other","_law_first","_law_second"]
def r98:FR:=fRw "_law_sleeps" "_law_sleeps" (top 69) 3 ["_law_hall","_law_seen","_law_boxes","_law_due"]
noncomputable def r99:FR:=fRw "_law_to_sleep" "_law_to_sleep" (top 68) 4 ["_law_hall","_law_seen","_law_boxes","_law_last","_law_told","_law_k"]
noncomputable def r100:FR:=fRw "_law_deed" "_law_deed" (top 70) 2 ["_law_cell","_law_boxes","_law_mixed","_law_box","_law_number","_law_start","_law_way"]
def r101:FR:=fRw "_law_run" "_law_run" (top 71) 3 ["_law_hall","_law_hand","_law_deed_here","_law_told","_law_k"]
noncomputable def r102:FR:=fRw "law" "law" (top 72) 1 ["_law_script","_law_many","_law_boxes","_law_first","_law_second","_law_sleeper_here","_law_deeds","_law_stand","_law_cell","_law_deed_here","_law_hands","_law_k","_law_hall","_law_box"]
def fT:List FR:=[r0,r1,r2,r3,r4,r5,r6,r7,r8,r9,r10,r11,r12,r13,r14,r15,r16,r17,r18,r19,r20,r21,r22,r23,r24,r25,r26,r27,r28,r29,r30,r31,r32,r33,r34,r35,r36,r37,r38,r39,r40,r41,r42,r43,r44,r45,r46,r47,r48,r49,r50,r51,r52,r53,r54,r55,r56,r57,r58,r59,r60,r61,r62,r63,r64,r65,r66,r67,r68,r69,r70,r71,r72,r73,r74,r75,r76,r77,r78,r79,r80,r81,r82,r83,r84,r85,r86,r87,r88,r89,r90,r91,r92,r93,r94,r95,r96,r97,r98,r99,r100,r101,r102]
def fR (n:Nat):FR:=fT.getD n r0
def FR.ps (r:FR):List Str:=r.2.2.2.2.take r.2.2.2.1
abbrev fP (n:Nat):List Str:=FR.ps (fR n)
def AllP {α:Type}(p:α->Prop):List α->Prop
 | []=>True
 | c::cs=>p c/\AllP p cs
theorem AllP.get {α:Type}{p:α->Prop}{d:α}(hd:p d):∀ {cs:List α},AllP p cs->∀ k:Nat,p (cs.getD k d)
 | [],_,_=>hd
 | _::_,a,0=>a.1
 | _::_,a,k+1=>AllP.get hd a.2 k
theorem AllP.mem {α:Type}{p:α->Prop}:∀ {cs:List α},AllP p cs->∀ i∈cs,p i
 | c::cs,a,i,hi=>by
  rcases mem_cons.mp hi with rfl|hi
  .exact a.1
  .exact AllP.mem a.2 i hi
theorem yws:AllP (fun r:FR=>yev r.2.2.2.2 r.ps (ybz r.2.2.1)) fT:=by
 repeat' first|exact True.intro|refine And.intro ?_ ?_|exact ⟨rfl,rfl,rfl,by rfl',rfl,by rfl',by rfl'⟩
theorem sc (n:Nat) {r:FR}(h:fR n=r:=by rfl):yev r.2.2.2.2 r.ps (ybz r.2.2.1):=h ▸ AllP.get (p:=fun r:FR=>yev r.2.2.2.2 r.ps (ybz r.2.2.1)) yws.1 yws n
def mT:List (Nat×Str×Nat):=[mRw 1 "long" 48,mRw 3 "long" 49,mRw 4 "long" 50,mRw 6 "long" 54,mRw 7 "long" 55,mRw 8 "long" 51,mRw 9 "long" 52,mRw 11 "write" 1,mRw 11 "own" 2,mRw 11 "begin" 3,mRw 11 "settle" 4,mRw 11 "drop" 5,mRw 11 "see" 6,mRw 11 "saw" 7,mRw 11 "wrote" 8,mRw 12 "held_in" 17,mRw 12 "hold" 18,mRw 12 "box_at" 19,mRw 12 "do_put" 20,mRw 12 "sees_at" 21,mRw 12 "take_own" 22,mRw 12 "take_seen" 23,mRw 12 "row" 26,mRw 12 "is_stale" 27,mRw 12 "taker_layer" 28,mRw 12 "is_looked_over" 29,mRw 12 "see_next" 30,mRw 12 "go" 35,mRw 12 "go_plain" 31,mRw 12 "lead" 32,mRw 12 "throw" 34,mRw 12 "leave" 33,mRw 14 "state" 36,mRw 14 "new_run" 37,mRw 14 "begin_anew" 38,mRw 14 "fall_asleep" 39,mRw 14 "go_on" 40,mRw 15 "boxes" 82,mRw 15 "stamps" 83,mRw 15 "hand_at" 84,mRw 15 "state" 85,mRw 15 "which" 86,mRw 15 "slots" 87,mRw 15 "saw" 88,mRw 15 "journal" 89,mRw 15 "wake_stale" 90,mRw 15 "end_deed" 91,mRw 15 "lay_down" 92,mRw 15 "looked_over_told" 93,mRw 15 "turn" 94,mRw 10 "ahead" 65,mRw 10 "taken" 66,mRw 10 "pass_over" 67,mRw 10 "slot_taken" 68,mRw 10 "name_taken" 69,mRw 10 "number_taken" 70,mRw 10 "list_taken" 72,mRw 10 "side_taken" 73,mRw 10 "part_taken" 74,mRw 10 "either_taken" 75,mRw 10 "try_taken" 76,mRw 10 "plain_taken" 71]
noncomputable def gT:List (Str×Nat):=[("is_whole",9),("is_number",10),("is_made_of",11),("number_of",12),("is_slot",13),("slot_index",14),("is_name",15),("takes",24),("list_long",53),("plain_rows",56),("first_row",57),("rows_between",58),("list_rows",59),("part_rows",60),("sided_rows",61),("rows_of",62),("words_of",64),("read",77),("check_boxes",78),("rows_of_deeds",79),("rows_of_hands",80),("_law_cell_at",95),("_law_number_by",96),("_law_sleeper",97),("_law_sleeps",98),("_law_to_sleep",99),("_law_deed",100),("_law_run",101),("law",102)]
def kT:List (Nat×Nat):=[(1,42),(3,43),(4,44),(6,45),(7,46),(8,47),(10,63),(11,0),(12,25),(13,16),(14,41),(15,81)]
def cT:List Str:=["Part","Let","Reckon","Take","Put","If","Either","Try","Throw","Wait","Reader","Log","Run","Doer","Hand","Hall"]
def zT:List Str:=["all","any","bool","int","isinstance","len","list","range","reversed","sorted","str","sum"]
noncomputable def nT:List (Str×List Nat):=[("stack",[11]),("last_seen",[11]),("held",[12]),("width",[12,14]),("log",[12]),("rows",[12]),("at",[10,12]),("seen_stamps",[12]),("sides",[12]),("deeds",[14]),("nth",[14]),("sleeps",[14]),("before",[14]),("run",[14]),("numbers",[15]),("marks",[15]),("crew",[15]),("entries",[15]),("words",[10]),("slot",[1,3,4,7,8]),("number",[1]),("place",[3,4]),("parts",[6,7]),("others",[6,7]),("name",[7,8])]
theorem ml1 {α:Type}{P:List α->Prop}(h:∀ a,P [a]):∀ us:List α,us.length=1->P us
 | [_],_=>h _
theorem ml2 {α:Type}{P:List α->Prop}(h:∀ a b,P [a,b]):∀ us:List α,us.length=2->P us
 | [_,_],_=>h _ _
theorem ml3 {α:Type}{P:List α->Prop}(h:∀ a b c,P [a,b,c]):∀ us:List α,us.length=3->P us
 | [_,_,_],_=>h _ _ _
theorem ml4 {α:Type}{P:List α->Prop}(h:∀ a b c d,P [a,b,c,d]):∀ us:List α,us.length=4->P us
 | [_,_,_,_],_=>h _ _ _ _
theorem ml5 {α:Type}{P:List α->Prop}(h:∀ a b c d e,P [a,b,c,d,e]):∀ us:List α,us.length=5->P us
 | [_,_,_,_,_],_=>h _ _ _ _ _
set_option genInjectivity false in
set_option genSizeOf false in
structure Ads where
 A:Nat->Addr
 fl:Nat->Addr×FuncData
 k_FIGURES:Tok
 k_LETTERS:Tok
 k_MOST_AROUND:Tok
 k_MOST_BOXES:Tok
 k_MOST_DEEDS:Tok
 k_MOST_HANDS:Tok
 k_MOST_ROWS:Tok
 k_SLOTS:Tok
 k_WIDE:Tok
abbrev Ads.a (t:Ads) (n:Nat):Addr:=(t.fl n).1
abbrev Ads.d (t:Ads) (n:Nat):FuncData:=(t.fl n).2
abbrev yqc (K:PySem.W.Frag) (t:Ads):Ck:=⟨K,t.A⟩
structure Txt (K:PySem.W.Frag) (mg:Str->Option Value) (t:Ads):Prop where
 f:∀ n,Fun K (fR n).1 (fR n).2.1 (fR n).2.2.1 (t.a n) (t.d n)
 b:∀ n,Binds K (t.d n) (fP n) []
 G:∀ n,mg (gT.getD n ("is_whole",9)).1=some (.ref (t.a (gT.getD n ("is_whole",9)).2))
 C:∀ n,mg (cT.getD n "Part")=some (.ref (t.A n))
 J:∀ n,Mk K (t.A (kT.getD n (1,42)).1) (t.a (kT.getD n (1,42)).2)
 M:∀ n,Meth K (t.A (mT.getD n (mRw 1 "long" 48)).1) (mT.getD n (mRw 1 "long" 48)).2.1 (t.a (mT.getD n (mRw 1 "long" 48)).2.2)
 mk_Part:makesIn K (t.A 0)=true
 io_Part:findIn K (.ref (t.A 0)) "__init__" = some (some (.builtin "object.__init__"))
 kp_Part:keepIn K (.ref (t.A 0))=true
 mk_Wait:makesIn K (t.A 9)=true
 io_Wait:findIn K (.ref (t.A 9)) "__init__" = some (some (.builtin "object.__init__"))
 kp_Wait:keepIn K (.ref (t.A 9))=true
 cf_Doer:yuA K (t.A 13) "__init__" (t.a 16)
 cl:∀ k,Cls K (t.A k)
 N:∀ n,∀ k∈(nT.getD n ("stack",[11])).2,Cls K (t.A k)/\NoAttr K (t.A k) (nT.getD n ("stack",[11])).1
 isa:∀ r∈yfS,∀ (H:Hp) (a dx:Addr) (fs:List (Str×V)),H a=some (.ins (t.A r.1) dx fs)->IsI K H (.ref a) (.ref (t.A r.2.1)) r.2.2
 Z:∀ n,mg (zT.getD n "all")=none
 m_FIGURES:mg "FIGURES" = some (.str "0123456789" t.k_FIGURES)
 m_LETTERS:mg "LETTERS" = some (.str "abcdefghijklmnopqrstuvwxyz" t.k_LETTERS)
 m_MOST_AROUND:mg "MOST_AROUND" = some (.int 8 t.k_MOST_AROUND)
 m_MOST_BOXES:mg "MOST_BOXES" = some (.int 16 t.k_MOST_BOXES)
 m_MOST_DEEDS:mg "MOST_DEEDS" = some (.int 6 t.k_MOST_DEEDS)
 m_MOST_HANDS:mg "MOST_HANDS" = some (.int 8 t.k_MOST_HANDS)
 m_MOST_ROWS:mg "MOST_ROWS" = some (.int 80 t.k_MOST_ROWS)
 m_SLOTS:mg "SLOTS" = some (.str "abcdefgh" t.k_SLOTS)
 m_WIDE:mg "WIDE" = some (.int 18446744073709551616 t.k_WIDE)
theorem Txt.F {K:PySem.W.Frag}{mg:Str->Option Value}{t:Ads}(T:Txt K mg t) (n:Nat) (r:FR) (h:fR n=r:=by rfl):Fun K r.1 r.2.1 r.2.2.1 (t.a n) (t.d n):=h ▸ T.f n
theorem Txt.k {K:PySem.W.Frag}{mg:Str->Option Value}{t:Ads}(T:Txt K mg t) (n:Nat):keepIn K (.ref (t.a n))=true:=(T.f n).kp
section
variable {P:Program}{w:World}{K:PySem.W.Frag}{mg:Str->Option Value}{base:Heap}{t:Ads}
theorem ydb {n:Nat}{ck:Ck}{vs:List V}{H:Hp}{Q:VK}{E:XK}(h:spE ck n (fun _ _=>none) vs H Q E):False:=by
 obtain ⟨_,_,_,_,_,_,_,_,q,_⟩:=h
 cases q
theorem ydJ {f:Addr}{fd:FuncData}{ps:List Str}{k n:Nat}{ck:Ck}:FnOk P w K mg base CX0 k f fd ps (spE ck n fun _ _=>none):=⟨fun vs H Q E h=>(ydb h).elim,fun A outer s H args us vs Q E _ _ _ _ h=>(ydb h).elim⟩
local macro_rules | `(‹($n,$i,$r,$k,$p)›)=>`(FnOk $(Lean.mkIdent `P) $(Lean.mkIdent `w) $(Lean.mkIdent `K) $(Lean.mkIdent `mg) $(Lean.mkIdent `base) CX0 $n ($(Lean.mkIdent `t).a $i) ($(Lean.mkIdent `t).d $i) (FR.ps $r) (spE (yqc $(Lean.mkIdent `K) $(Lean.mkIdent `t)) $k $p))
structure yGh (P:Program) (w:World) (K:PySem.W.Frag) (mg:Str->Option Value) (base:Heap) (t:Ads) (n:Nat):Prop where
 yfY:‹(n+1,53,r53,1,(ybO n))›
 ygC:‹(n+1,54,r54,1,(ydy n))›
 yjK:‹(n+1,55,r55,1,(yfr n))›
 m_long:ymL P w K mg base (n+1) t.A "long" (fun k=>spE (yqc K t) 1 (ygr n k))
structure yGi (P:Program) (w:World) (K:PySem.W.Frag) (mg:Str->Option Value) (base:Heap) (t:Ads) (n:Nat):Prop where
 yiG:‹(n+47,59,r59,2,(yeD n))›
 ynJ:‹(n+47,60,r60,2,(yil n))›
 yme:‹(n+47,61,r61,2,(yhj n))›
structure yGj (P:Program) (w:World) (K:PySem.W.Frag) (mg:Str->Option Value) (base:Heap) (t:Ads) (n:Nat):Prop where
 ydK:‹(n+6,72,r72,2,(ybw n))›
 yfZ:‹(n+6,73,r73,2,(yU n))›
 yga:‹(n+6,74,r74,2,(yJ n))›
 yfh:‹(n+6,75,r75,2,(ybD n))›
 ygD:‹(n+6,76,r76,2,(ybY n))›
variable (T:Txt K mg t)
include T
theorem yiH:FnOk P w K mg base CX0 (0+1) (t.a 42) (t.d 42) (FR.ps r42) (spI (yqc K t) 2 1 yeb):=zin (T.F 42 r42) (sc 42) rfl (by decide) fun cdv Ar outer sh H E hr=>(ybH (ybR (T.N 19) z_v) (ydZ (ybR (T.N 20) z_v)))
theorem yhu:FnOk P w K mg base CX0 (0+1) (t.a 43) (t.d 43) (FR.ps r43) (spI (yqc K t) 2 3 ydH):=zin (T.F 43 r43) (sc 43) rfl (by decide) fun cdv Ar outer sh H E hr=>(ybH (ybR (T.N 19) z_v) (ydZ (ybR (T.N 21) z_v)))
theorem yiI:FnOk P w K mg base CX0 (0+1) (t.a 44) (t.d 44) (FR.ps r44) (spI (yqc K t) 2 4 yec):=zin (T.F 44 r44) (sc 44) rfl (by decide) fun cdv Ar outer sh H E hr=>(ybH (ybR (T.N 21) z_v) (ydZ (ybR (T.N 19) z_v)))
theorem ygE:FnOk P w K mg base CX0 (0+1) (t.a 45) (t.d 45) (FR.ps r45) (spI (yqc K t) 2 6 ycY):=zin (T.F 45 r45) (sc 45) rfl (by decide) fun cdv Ar outer sh H E hr=>(ybH (ybR (T.N 22) (ycu (ycK yC ybn (T.Z 6) (ya z_v yd)))) (ydZ (ybR (T.N 23) (ycu (ycK yC ybn (T.Z 6) (ya z_v yd))))))
theorem yiJ:FnOk P w K mg base CX0 (0+1) (t.a 46) (t.d 46) (FR.ps r46) (spI (yqc K t) 4 7 yed):=zin (T.F 46 r46) (sc 46) rfl (by decide) fun cdv Ar outer sh H E hr=>(ybH (ybR (T.N 22) (ycu (ycK yC ybn (T.Z 6) (ya z_v yd)))) (ybH (ybR (T.N 24) z_v) (ybH (ybR (T.N 19) z_v) (ydZ (ybR (T.N 23) (ycu (ycK yC ybn (T.Z 6) (ya z_v yd))))))))
theorem yhd:FnOk P w K mg base CX0 (0+1) (t.a 47) (t.d 47) (FR.ps r47) (spI (yqc K t) 2 8 ydr):=zin (T.F 47 r47) (sc 47) rfl (by decide) fun cdv Ar outer sh H E hr=>(ybH (ybR (T.N 24) z_v) (ydZ (ybR (T.N 19) z_v)))
theorem ynK:‹(0+1,48,r48,1,yjx)›:=zfn (T.F 48 r48) (sc 48) fun cdv Ar outer sh H E hr=>(ye (yk yj))
theorem ymf:‹(0+1,49,r49,1,yii)›:=zfn (T.F 49 r49) (sc 49) fun cdv Ar outer sh H E hr=>(ye (yk yj))
theorem ynL:‹(0+1,50,r50,1,yjy)›:=zfn (T.F 50 r50) (sc 50) fun cdv Ar outer sh H E hr=>(ye (yk yj))
theorem ykQ:‹(0+1,51,r51,1,yhh)›:=zfn (T.F 51 r51) (sc 51) fun cdv Ar outer sh H E hr=>(ye (yk yj))
theorem ymg:‹(0+1,52,r52,1,yij)›:=zfn (T.F 52 r52) (sc 52) fun cdv Ar outer sh H E hr=>(ye (yk yj))
theorem ykR:∀ n,yGh P w K mg base t n
 | 0=>⟨ydJ,ydJ,ydJ,fun c=>⟨T.cl c,.inl fun _ _ _ _ h=>ydb h⟩⟩
 | n+1=>by
  have I:=ykR n
  have yeL:=I.yfY
  have yvp:=I.ygC
  have yzf:=I.yjK
  have G_long:=I.m_long
  exact ⟨zfn (T.F 53 r53) (sc 53) fun cdv Ar outer sh H E hr=>(ye (yk (yeu (ytu rfl) yDa (T.Z 11) (ya (ycu (yoG [] (yfQ z_v) (fun _ _ _ _ _ _=>(yrF z_v G_long)))) yd)))),
   zfn (T.F 54 r54) (sc 54) fun cdv Ar outer sh H E hr=>(ye (yk (ybW ycG yeh (ybW ycG yeh yj (yR yeL (T.G 8) (T.k 53) (T.b 53) (ya (yw (T.N 22) z_v) yd))) (yR yeL (T.G 8) (T.k 53) (T.b 53) (ya (yw (T.N 23) z_v) yd))))),
   zfn (T.F 55 r55) (sc 55) fun cdv Ar outer sh H E hr=>(ye (yk (ybW ycG yeh (ybW ycG yeh yj (yR yeL (T.G 8) (T.k 53) (T.b 53) (ya (yw (T.N 22) z_v) yd))) (yR yeL (T.G 8) (T.k 53) (T.b 53) (ya (yw (T.N 23) z_v) yd))))),
   fun c=>⟨T.cl c,match c with|0=>.inl fun _ _ _ _ h=>ydb h|1=>.inr ⟨_,_,_,(T.M 0),(ynK T).mono (by omega),(T.b 48)⟩|2=>.inl fun _ _ _ _ h=>ydb h|3=>.inr ⟨_,_,_,(T.M 1),(ymf T).mono (by omega),(T.b 49)⟩|4=>.inr ⟨_,_,_,(T.M 2),(ynL T).mono (by omega),(T.b 50)⟩|5=>.inl fun _ _ _ _ h=>ydb h|6=>.inr ⟨_,_,_,(T.M 3),I.ygC.mono (by omega),(T.b 54)⟩|7=>.inr ⟨_,_,_,(T.M 4),I.yjK.mono (by omega),(T.b 55)⟩|8=>.inr ⟨_,_,_,(T.M 5),(ykQ T).mono (by omega),(T.b 51)⟩|9=>.inr ⟨_,_,_,(T.M 6),(ymg T).mono (by omega),(T.b 52)⟩|10=>.inl fun _ _ _ _ h=>ydb h|11=>.inl fun _ _ _ _ h=>ydb h|12=>.inl fun _ _ _ _ h=>ydb h|13=>.inl fun _ _ _ _ h=>ydb h|14=>.inl fun _ _ _ _ h=>ydb h|15=>.inl fun _ _ _ _ h=>ydb h|c+16=>.inl fun _ _ _ _ h=>ydb h⟩⟩
theorem ykS:‹(0+1,56,r56,1,yhi)›:=zfn (T.F 56 r56) (sc 56) fun cdv Ar outer sh H E hr=>(yb (yI (ybM (yeu yX (ygl (K:=ckX _ _) T.isa) (T.Z 4) (ya z_v (ya (yeN (T.C 1)) yd)))) (ye (yk (ycu (ycb (ya (ycc (ya yz (ya (yw (T.N 19) z_v) (ya (yw (T.N 20) z_v) yd)))) yd))))) ym) (yb (yI (ybM (yeu yX (ygl (K:=ckX _ _) T.isa) (T.Z 4) (ya z_v (ya (yeN (T.C 2)) yd)))) (ye yZ) ym) (yb (yI (ybM (yeu yX (ygl (K:=ckX _ _) T.isa) (T.Z 4) (ya z_v (ya (yeN (T.C 3)) yd)))) (ye (yk (ycu (ycb (ya (ycc (ya yz (ya (yw (T.N 19) z_v) (ya (yw (T.N 21) z_v) yd)))) yd))))) ym) (yb (yI (ybM (yeu yX (ygl (K:=ckX _ _) T.isa) (T.Z 4) (ya z_v (ya (yeN (T.C 4)) yd)))) (ye (yk (ycu (ycb (ya (ycc (ya yz (ya (yw (T.N 21) z_v) (ya (yw (T.N 19) z_v) yd)))) yd))))) ym) (yb (yI (ybM (yeu yX (ygl (K:=ckX _ _) T.isa) (T.Z 4) (ya z_v (ya (yeN (T.C 8)) yd)))) (ye (yk (ycu (ycb (ya (ycc (ya yz (ya (yw (T.N 24) z_v) (ya (yw (T.N 19) z_v) yd)))) yd))))) ym) (yb (yI (ybM (yeu yX (ygl (K:=ckX _ _) T.isa) (T.Z 4) (ya z_v (ya (yeN (T.C 9)) yd)))) (ye (yk (ycu (ycb (ya (ycc (ya yz yd)) yd))))) ym) (ye (yk (ycu (ycb yd))))))))))
theorem ymh:‹(0+1,57,r57,2,yik)›:=zfn (T.F 57 r57) (sc 57) fun cdv Ar outer sh H E hr=>(yb (yI (ybM (yeu yX (ygl (K:=ckX _ _) T.isa) (T.Z 4) (ya z_v (ya (yeN (T.C 5)) yd)))) (ye yZ) ym) (yb (yI (ybM (yeu yX (ygl (K:=ckX _ _) T.isa) (T.Z 4) (ya z_v (ya (yeN (T.C 6)) yd)))) (ye (yk (ycc (ya yz (ya z_v yd))))) ym) (ye (yk (ycc (ya yz (ya (yw (T.N 24) z_v) (ya (yw (T.N 19) z_v) (ya z_v yd)))))))))
theorem yiK:‹(0+1,58,r58,2,yfI)›:=zfn (T.F 58 r58) (sc 58) fun cdv Ar outer sh H E hr=>(yb (yI (ybM (yeu yX (ygl (K:=ckX _ _) T.isa) (T.Z 4) (ya z_v (ya (yeN (T.C 5)) yd)))) (ye yZ) ym) (ye (yk (ycu (ycb (ya (ycc (ya yz yd)) (ya (ycc (ya yz (ya z_v yd))) yd)))))))
theorem ysL:∀ n,yGi P w K mg base t n
 | 0=>⟨ydJ,ydJ,ydJ⟩
 | n+1=>by
  have I:=ysL n
  have yiL:=I.yiG
  have ynM:=I.ynJ
  have ymi:=I.yme
  exact ⟨zfn (T.F 59 r59) (sc 59) fun cdv Ar outer sh H E hr=>have nd:=(sc 59 (r:=r59)).nd;(yb (ynp (ycb yd)) (yb (yid (yfQ z_v) yex (ye (yAP (yR ynM (T.G 13) (T.k 60) (T.b 60) (ya z_v (ya (ybW ycG yeh z_v (yAQ (T.Z 5))) yd)))))) (yeW (ye (yk z_v))))),
   zfn (T.F 60 r60) (sc 60) fun cdv Ar outer sh H E hr=>(yb (yI (yoE (ygU (ybM (yeu yX (ygl (K:=ckX _ _) T.isa) (T.Z 4) (ya z_v (ya (yeN (T.C 5)) yd)))) (ygU (ybM (yeu yX (ygl (K:=ckX _ _) T.isa) (T.Z 4) (ya z_v (ya (yeN (T.C 6)) yd)))) (yfG (ybM (yeu yX (ygl (K:=ckX _ _) T.isa) (T.Z 4) (ya z_v (ya (yeN (T.C 7)) yd)))))))) (ye (yk (yR ymi (T.G 14) (T.k 61) (T.b 61) (ya z_v (ya z_v yd))))) ym) (ye (yk (yR (ykS T) (T.G 9) (T.k 56) (T.b 56) (ya z_v yd))))),
   zfn (T.F 61 r61) (sc 61) fun cdv Ar outer sh H E hr=>have nd:=(sc 61 (r:=r61)).nd;(yb (yt (ybW ycG yeh z_v (yrF z_v (ykR T 45).m_long))) (yb (yt (ybW yjl ypy z_v (yR (ykR T 45).yfY (T.G 8) (T.k 53) (T.b 53) (ya (yw (T.N 23) z_v) yd)))) (yb (yt (yR yiL (T.G 12) (T.k 59) (T.b 59) (ya (yw (T.N 22) z_v) (ya (ybW ycG yeh z_v yj) yd)))) (yb (yt (yR yiL (T.G 12) (T.k 59) (T.b 59) (ya (yw (T.N 23) z_v) (ya z_v yd)))) (ye (yk (ycu (ynm yob ytP (ycu (ynm yob ytP (ycu (ynm yob ytP (ycu (ycb (ya (yR (ymh T) (T.G 10) (T.k 57) (T.b 57) (ya z_v (ya z_v yd))) yd))) z_v)) (yR (yiK T) (T.G 11) (T.k 58) (T.b 58) (ya z_v (ya z_v yd))))) z_v))))))))⟩
theorem ypS:‹(92+1,62,r62,1,ygs)›:=zfn (T.F 62 r62) (sc 62) fun cdv Ar outer sh H E hr=>(ye (yk (ycu (ynm yob ytP (yR (ysL T 45).yiG (T.G 12) (T.k 59) (T.b 59) (ya z_v (ya yj yd))) (ycu (ycb (ya (ycc (ya yz yd)) yd)))))))
theorem ygF:‹(0+1,11,r11,2,ydh)›:=zfn (T.F 11 r11) (sc 11) fun cdv Ar outer sh H E hr=>(ye (yk (yeu (yoc rfl) yAh (T.Z 0) (ya (ycu (yoG ["signs"] (yAN z_v) (fun _ _ _ _ _ _=>(yfz ylo yAb z_v z_v)))) yd))))
theorem ymj:‹(1+1,12,r12,1,yeC)›:=zfn (T.F 12 r12) (sc 12) fun cdv Ar outer sh H E hr=>have nd:=(sc 12 (r:=r12)).nd;(yb (yI (yoE (ygU (ydF (yhE yiW yiW ysP ysP yj (yeu ydO yoi (T.Z 5) (ya z_v yd)) yj)) (yfG (ydF (ybM (yR (ygF T) (T.G 2) (T.k 11) (T.b 11) (ya z_v (ya (ylU T.m_FIGURES) yd)))))))) (ye (yk yfy)) ym) (yb (yI (yoE (yoF (yu ybl ydt (ybo yzI yCY z_v yj) yz) (ykv (yu ykZ yvL z_v yz)))) (ye (yk yfy)) ym) (yb (yt (ypE ylp yAf (T.Z 3) (ya z_v yd))) (ye (yk (yxP (yu ypl yyZ z_v (yic T.m_WIDE)) z_v yfy))))))
theorem ypT:‹(0+1,13,r13,1,ygp)›:=zfn (T.F 13 r13) (sc 13) fun cdv Ar outer sh H E hr=>(ye (yk (yno (yfz ybl ydt (yeu ydO yoi (T.Z 5) (ya z_v yd)) yj) (ynn (yfz ylo yAb z_v (ylU T.m_SLOTS))))))
theorem ypU:‹(1+1,15,r15,1,ygq)›:=zfn (T.F 15 r15) (sc 15) fun cdv Ar outer sh H E hr=>(ye (yk (yno (yrD yiW yiW ysP ysP yj (yeu ydO yoi (T.Z 5) (ya z_v yd)) yj) (ynn (yR (ygF T) (T.G 2) (T.k 11) (T.b 11) (ya z_v (ya (ylU T.m_LETTERS) yd)))))))
theorem yiM:‹(0+1,9,r9,1,yek)›:=zfn (T.F 9 r9) (sc 9) fun cdv Ar outer sh H E hr=>(ye (yk (yno (yeu yX (ygl (K:=ckX _ _) T.isa) (T.Z 4) (ya z_v (ya (yAM (T.Z 3)) yd))) (ynn (yDY (yeu yX (ygl (K:=ckX _ _) T.isa) (T.Z 4) (ya z_v (ya (yAM (T.Z 2)) yd))))))))
theorem ymk:‹(1+1,10,r10,1,ycX)›:=zfn (T.F 10 r10) (sc 10) fun cdv Ar outer sh H E hr=>(ye (yk (yno (yR (yiM T) (T.G 0) (T.k 9) (T.b 9) (ya z_v yd)) (ynn (yrD yiW ypl ysP yyZ yj z_v (yic T.m_WIDE))))))
theorem ygG:FnOk P w K mg base CX0 (0+1) (t.a 63) (t.d 63) (FR.ps r63) (spI (yqc K t) 1 10 ycZ):=zin (T.F 63 r63) (sc 63) rfl (by decide) fun cdv Ar outer sh H E hr=>(ybH (ybR (T.N 18) (ycu (ycK yC ybn (T.Z 6) (ya z_v yd)))) (ydZ (ybR (T.N 6) yj)))
theorem ynN:‹(0+1,64,r64,1,yfs)›:=zfn (T.F 64 r64) (sc 64) fun cdv Ar outer sh H E hr=>(yb (yI (yu ybl ydt z_v yz) (ye (yk (ycu (ycb yd)))) ym) (ye (yk (yxR PySem.F.plainAttrs_str PySem.F.slot_str_split PySem.F.type_str_split yuB m_split z_v (ya yz yd)))))
theorem ycn:‹(0+1,65,r65,1,yW)›:=zfn (T.F 65 r65) (sc 65) fun cdv Ar outer sh H E hr=>(yb (yI (yu ypl yyZ (yw (T.N 6) z_v) (yeu yG ydg (T.Z 5) (ya (yw (T.N 18) z_v) yd))) (ye (yk (ybo ybe ycV (yw (T.N 18) z_v) (yw (T.N 6) z_v)))) ym) (ye (yk yfy)))
theorem yco:‹(1+1,66,r66,1,ybp)›:=zfn (T.F 66 r66) (sc 66) fun cdv Ar outer sh H E hr=>have nd:=(sc 66 (r:=r66)).nd;(yb (yt (yr z_v (T.M 50) (ycn T) (T.b 65))) (yb (yI (yu ynV ytO z_v yfy) (ye yZ) ym) (yb (ybA (T.N 6) z_v (ybW ycG yeh (yw (T.N 6) z_v) yj)) (ye (yk z_v)))))
theorem yby:‹(2+1,67,r67,2,yN)›:=zfn (T.F 67 r67) (sc 67) fun cdv Ar outer sh H E hr=>have nd:=(sc 67 (r:=r67)).nd;(yb (yt (yr z_v (T.M 51) (yco T) (T.b 66))) (ye (yI (yu ykZ yvL z_v z_v) (ye yZ) ym)))
theorem yS:‹(2+1,68,r68,1,yD)›:=zfn (T.F 68 r68) (sc 68) fun cdv Ar outer sh H E hr=>have nd:=(sc 68 (r:=r68)).nd;(yb (yt (yr z_v (T.M 51) (yco T) (T.b 66))) (yb (yI (ydF (ybM (yR (ypT T) (T.G 4) (T.k 13) (T.b 13) (ya z_v yd)))) (ye yZ) ym) (ye (yk z_v))))
theorem ydw:‹(2+1,69,r69,1,ybv)›:=zfn (T.F 69 r69) (sc 69) fun cdv Ar outer sh H E hr=>have nd:=(sc 69 (r:=r69)).nd;(yb (yt (yr z_v (T.M 51) (yco T) (T.b 66))) (yb (yI (ydF (ybM (yR (ypU T) (T.G 6) (T.k 15) (T.b 15) (ya z_v yd)))) (ye yZ) ym) (ye (yk z_v))))
theorem yeR:‹(2+1,70,r70,1,ybC)›:=zfn (T.F 70 r70) (sc 70) fun cdv Ar outer sh H E hr=>have nd:=(sc 70 (r:=r70)).nd;(yb (yt (yr z_v (T.M 51) (yco T) (T.b 66))) (yb (yt (yR (ymj T) (T.G 3) (T.k 12) (T.b 12) (ya z_v yd))) (yb (yI (yu ynV ytO z_v yfy) (ye yZ) ym) (ye (yk z_v)))))
theorem yfi:‹(3+1,71,r71,2,ybI)›:=zfn (T.F 71 r71) (sc 71) fun cdv Ar outer sh H E hr=>have nd:=(sc 71 (r:=r71)).nd;(yb (yI (yu ybl ydt z_v yz) (yb (yt (yr z_v (T.M 53) (yS T) (T.b 68))) (ye (yk (ycu (yhg (T.J 0) (yiH T) (T.C 1) (T.b 42) (ya z_v (ya (yr z_v (T.M 55) (yeR T) (T.b 70)) yd))))))) ym) (yb (yI (yu ybl ydt z_v yz) (yb (yt (yr z_v (T.M 53) (yS T) (T.b 68))) (ye (yk (ycu (yhg (T.J 1) (yhu T) (T.C 3) (T.b 43) (ya z_v (ya (yr z_v (T.M 53) (yS T) (T.b 68)) yd))))))) ym) (yb (yI (yu ybl ydt z_v yz) (yb (yt (yr z_v (T.M 53) (yS T) (T.b 68))) (ye (yk (ycu (yhg (T.J 2) (yiI T) (T.C 4) (T.b 44) (ya z_v (ya (yr z_v (T.M 53) (yS T) (T.b 68)) yd))))))) ym) (yb (yI (yu ybl ydt z_v yz) (yb (yt (yr z_v (T.M 54) (ydw T) (T.b 69))) (ye (yk (ycu (yhg (T.J 5) (yhd T) (T.C 8) (T.b 47) (ya z_v (ya (yr z_v (T.M 53) (yS T) (T.b 68)) yd))))))) ym) (yb (yI (yu ybl ydt z_v yz) (ye (yk (ycu (yxQ T.mk_Wait T.io_Wait T.kp_Wait (T.C 9))))) ym) (yb yZ (ye yZ)))))))
theorem ysM:∀ n,yGj P w K mg base t n
 | 0=>⟨ydJ,ydJ,ydJ,ydJ,ydJ⟩
 | n+1=>by
  have I:=ysM n
  have ygb:=I.ydK
  have ybQ:=I.yfZ
  have ydL:=I.yga
  have yfj:=I.yfh
  have ygH:=I.ygD
  exact ⟨zfn (T.F 72 r72) (sc 72) fun cdv Ar outer sh H E hr=>have nd:=(sc 72 (r:=r72)).nd;(yb (yI (yoE (ygU (yu ynV ytO (yr z_v (T.M 50) (ycn T) (T.b 65)) yfy) (yfG (yu ybl ydt (yr z_v (T.M 50) (ycn T) (T.b 65)) yz)))) (ye (yk (ycu (ycb yd)))) ym) (yb (ynp (ycb (ya (yn z_v (T.M 58) ydL (T.b 74) (ya z_v yd)) yd))) (yb (ykw (yu ybl ydt (yr z_v (T.M 50) (ycn T) (T.b 65)) yz) (yb (yL (yn z_v (T.M 52) (yby T) (T.b 67) (ya yz yd))) (ye (ywb (yn z_v (T.M 58) ydL (T.b 74) (ya z_v yd)))))) (yeW (ye (yk z_v)))))),
   zfn (T.F 73 r73) (sc 73) fun cdv Ar outer sh H E hr=>have nd:=(sc 73 (r:=r73)).nd;(yb (yL (yn z_v (T.M 52) (yby T) (T.b 67) (ya yz yd))) (yb (yt (yn z_v (T.M 56) ygb (T.b 72) (ya z_v yd))) (yb (yL (yn z_v (T.M 52) (yby T) (T.b 67) (ya yz yd))) (ye (yk z_v))))),
   zfn (T.F 74 r74) (sc 74) fun cdv Ar outer sh H E hr=>have nd:=(sc 74 (r:=r74)).nd;(yb (yI (yu ytg yCp z_v (yic T.m_MOST_AROUND)) (ye yZ) ym) (yb (yt (yr z_v (T.M 51) (yco T) (T.b 66))) (yb (yI (yu ybl ydt z_v yz) (ye yZ) ym) (yb (yI (yu ybl ydt z_v yz) (ye (yk (yn z_v (T.M 59) yfj (T.b 75) (ya (ybW ycG yeh z_v yj) yd)))) ym) (yb (yI (yu ybl ydt z_v yz) (ye (yk (yn z_v (T.M 60) ygH (T.b 76) (ya (ybW ycG yeh z_v yj) yd)))) ym) (ye (yk (yn z_v (T.M 61) (yfi T) (T.b 71) (ya z_v yd))))))))),
   zfn (T.F 75 r75) (sc 75) fun cdv Ar outer sh H E hr=>have nd:=(sc 75 (r:=r75)).nd;(yb (yt (yn z_v (T.M 57) ybQ (T.b 73) (ya z_v yd))) (yb (yL (yn z_v (T.M 52) (yby T) (T.b 67) (ya yz yd))) (yb (yt (yn z_v (T.M 57) ybQ (T.b 73) (ya z_v yd))) (ye (yk (ycu (yhg (T.J 3) (ygE T) (T.C 6) (T.b 45) (ya z_v (ya z_v yd))))))))),
   zfn (T.F 76 r76) (sc 76) fun cdv Ar outer sh H E hr=>have nd:=(sc 76 (r:=r76)).nd;(yb (yt (yn z_v (T.M 57) ybQ (T.b 73) (ya z_v yd))) (yb (yL (yn z_v (T.M 52) (yby T) (T.b 67) (ya yz yd))) (yb (yt (yr z_v (T.M 54) (ydw T) (T.b 69))) (yb (yt (yr z_v (T.M 53) (yS T) (T.b 68))) (yb (yt (yn z_v (T.M 57) ybQ (T.b 73) (ya z_v yd))) (ye (yk (ycu (yhg (T.J 4) (yiJ T) (T.C 7) (T.b 46) (ya z_v (ya z_v (ya z_v (ya z_v yd)))))))))))))⟩
theorem yyW:‹(51+1,77,r77,1,ylX)›:=zfn (T.F 77 r77) (sc 77) fun cdv Ar outer sh H E hr=>have nd:=(sc 77 (r:=r77)).nd;(yb (yt (yei (yhg (T.J 6) (ygG T) (T.C 10) (T.b 63) (ya (yR (ynN T) (T.G 16) (T.k 64) (T.b 64) (ya z_v yd)) yd)))) (yb (yt (yn z_v (T.M 56) (ysM T 45).ydK (T.b 72) (ya yj yd))) (yb (yI (yu yjP yog (yr z_v (T.M 50) (ycn T) (T.b 65)) yfy) (ye yZ) ym) (yb (yI (yu ytg yCp (ybW ycG yeh (yR (ykR T 45).yfY (T.G 8) (T.k 53) (T.b 53) (ya z_v yd)) yj) (yic T.m_MOST_ROWS)) (ye yZ) ym) (ye (yk z_v))))))
theorem yiN:FnOk P w K mg base CX0 (0+1) (t.a 0) (t.d 0) (FR.ps r0) (spI (yqc K t) 0 11 yfH):=zin (T.F 0 r0) (sc 0) rfl (by decide) fun cdv Ar outer sh H E hr=>(ybH (ybR (T.N 0) (yei (ycb (ya (yei yoH) yd)))) (ydZ (ybR (T.N 1) (yei yoH))))
theorem yml:‹(0+1,1,r1,3,yez)›:=zfn (T.F 1 r1) (sc 1) fun cdv Ar outer sh H E hr=>have nd:=(sc 1 (r:=r1)).nd;(yb (yt (ybo ybe ycV (yw (T.N 0) z_v) (yDX yqq yxn yj))) (ye (ynq z_v z_v z_v)))
theorem yjL:‹(0+1,2,r2,2,yej)›:=zfn (T.F 2 r2) (sc 2) fun cdv Ar outer sh H E hr=>have nd:=(sc 2 (r:=r2)).nd;(yb (yxW (T.Z 8) (yw (T.N 0) z_v) yex (ye (yI (yAO z_v z_v) (ye (yk (ywc z_v z_v))) ym))) (ye (yk yfy)))
theorem ymm:‹(0+1,3,r3,1,yeA)›:=zfn (T.F 3 r3) (sc 3) fun cdv Ar outer sh H E hr=>(ye (yL (yxR plainAttrs_list PySem.F.slot_list_append PySem.F.type_list_append ydD yos (yw (T.N 0) z_v) (ya (yei yoH) yd))))
theorem ykT:‹(0+1,4,r4,1,ydR)›:=zfn (T.F 4 r4) (sc 4) fun cdv Ar outer sh H E hr=>have nd:=(sc 4 (r:=r4)).nd;(yb (yt (yuu plainAttrs_list slot_list_pop type_list_pop yoa yot (yw (T.N 0) z_v))) (yb (yt (ybo ybe ycV (yw (T.N 0) z_v) (yDX yqq yxn yj))) (ye (yL (yxR PySem.F.plainAttrs_dict PySem.F.slot_dict_update PySem.F.type_dict_update yAT yDU z_v (ya z_v yd))))))
theorem ynO:‹(0+1,5,r5,1,yfq)›:=zfn (T.F 5 r5) (sc 5) fun cdv Ar outer sh H E hr=>(ye (yL (yuu plainAttrs_list slot_list_pop type_list_pop yoa yot (yw (T.N 0) z_v))))
theorem ypV:‹(0+1,6,r6,3,ygo)›:=zfn (T.F 6 r6) (sc 6) fun cdv Ar outer sh H E hr=>(ye (ynq (yw (T.N 1) z_v) z_v z_v))
theorem yjM:‹(0+1,7,r7,1,yeX)›:=zfn (T.F 7 r7) (sc 7) fun cdv Ar outer sh H E hr=>(ye (yk (ycu (PXS.z_sortI (yw (T.N 1) z_v) (T.Z 9)))))
theorem ymn:‹(0+1,8,r8,1,yeB)›:=zfn (T.F 8 r8) (sc 8) fun cdv Ar outer sh H E hr=>have nd:=(sc 8 (r:=r8)).nd;(yb (yt (ybo ybe ycV (yw (T.N 0) z_v) yj)) (ye (yk (ycu (PXS.z_sortI z_v (T.Z 9))))))
theorem ygI:‹(0+1,14,r14,1,ydS)›:=zfn (T.F 14 r14) (sc 14) fun cdv Ar outer sh H E hr=>(ye (yk (yxR PySem.F.plainAttrs_str PySem.F.slot_str_find PySem.F.type_str_find yya ytQ (ylU T.m_SLOTS) (ya z_v yd))))
theorem ycR:‹(1+1,17,r17,2,ybE)›:=zfn (T.F 17 r17) (sc 17) fun cdv Ar outer sh H E hr=>(ye (yk (ybo ybe ycV (yw (T.N 2) z_v) (yR (ygI T) (T.G 5) (T.k 14) (T.b 14) (ya z_v yd)))))
theorem ydW:‹(1+1,18,r18,3,ycd)›:=zfn (T.F 18 r18) (sc 18) fun cdv Ar outer sh H E hr=>(ye (yie z_v (yw (T.N 2) z_v) (yR (ygI T) (T.G 5) (T.k 14) (T.b 14) (ya z_v yd))))
theorem ycy:‹(2+1,19,r19,2,ybB)›:=zfn (T.F 19 r19) (sc 19) fun cdv Ar outer sh H E hr=>(ye (yk (ybW yds yfx (yn z_v (T.M 15) (ycR T) (T.b 17) (ya z_v yd)) (yw (T.N 3) z_v))))
theorem yhv:FnOk P w K mg base CX0 (2+1) (t.a 16) (t.d 16) (FR.ps r16) (spJ (yqc K t) 2 12 yeY):=yFY (T.F 16 r16) (sc 16) rfl (by decide) fun cdv Ar outer sh H E hr=>(ybH (ybR (T.N 2) (yei (ycK yC ybn (T.Z 6) (ya z_v yd)))) (ybH (ybR (T.N 3) z_v) (ydZ (ybR (T.N 4) (yei (yxY (T.J 7) (yiN T) (T.C 11) (T.b 0)))))))
theorem yji:‹(3+1,20,r20,3,ycL)›:=zfn (T.F 20 r20) (sc 20) fun cdv Ar outer sh H E hr=>(ye (yL (yn (yw (T.N 4) z_v) (T.M 7) (yml T) (T.b 1) (ya (yn z_v (T.M 17) (ycy T) (T.b 19) (ya z_v yd)) (ya (yn z_v (T.M 15) (ycR T) (T.b 17) (ya z_v yd)) yd)))))
theorem yiO:‹(3+1,21,r21,2,ydc)›:=zfn (T.F 21 r21) (sc 21) fun cdv Ar outer sh H E hr=>(ye (yk (yfz ynV ytO (yn (yw (T.N 4) z_v) (T.M 8) (yjL T) (T.b 2) (ya (yn z_v (T.M 17) (ycy T) (T.b 19) (ya z_v yd)) yd)) yfy)))
theorem yhw:‹(3+1,22,r22,3,yce)›:=zfn (T.F 22 r22) (sc 22) fun cdv Ar outer sh H E hr=>(ye (yL (yn z_v (T.M 16) (ydW T) (T.b 18) (ya z_v (ya (yn (yw (T.N 4) z_v) (T.M 8) (yjL T) (T.b 2) (ya (yn z_v (T.M 17) (ycy T) (T.b 19) (ya z_v yd)) yd)) yd)))))
theorem yhe:‹(3+1,23,r23,4,ycz)›:=zfn (T.F 23 r23) (sc 23) fun cdv Ar outer sh H E hr=>have nd:=(sc 23 (r:=r23)).nd;(yb (yt (yn z_v (T.M 17) (ycy T) (T.b 19) (ya z_v yd))) (yb (yL (yn (yw (T.N 4) z_v) (T.M 12) (ypV T) (T.b 6) (ya z_v (ya (ybo ybe ycV z_v z_v) yd)))) (ye (yL (yn z_v (T.M 16) (ydW T) (T.b 18) (ya z_v (ya (ybo ybe ycV z_v z_v) yd)))))))
theorem yvq:‹(0+1,24,r24,2,yih)›:=zfn (T.F 24 r24) (sc 24) fun cdv Ar outer sh H E hr=>(yb (yI (yu ybl ydt (ybo yv yQ z_v yj) yz) (ye (yk (yfz ybl ydt (ybo yv yQ z_v yj) yz))) ym) (ye (yk (yno (yfz ybl ydt (ybo yv yQ z_v yj) yz) (ynn (yfz ybl ydt (ybo yv yQ z_v yj) (ybo yv yQ z_v yj)))))))
theorem yiP:FnOk P w K mg base CX0 (4+1) (t.a 25) (t.d 25) (FR.ps r25) (spI (yqc K t) 3 12 yea):=zin (T.F 25 r25) (sc 25) rfl (by decide) fun cdv Ar outer sh H E hr=>(ybH (yyc T.cf_Doer (T.C 13) (yhv T) (T.b 16) (ya z_v (ya z_v yd))) (ybH (ybR (T.N 5) z_v) (ybH (ybR (T.N 6) yj) (ybH (ybR (T.N 7) (yei yoH)) (ydZ (ybR (T.N 8) (yei (ycb yd))))))))
theorem yfv:‹(0+1,26,r26,1,ydG)›:=zfn (T.F 26 r26) (sc 26) fun cdv Ar outer sh H E hr=>(ye (yk (ybo ybe ycV (yw (T.N 5) z_v) (yw (T.N 6) z_v))))
theorem yfk:‹(0+1,27,r27,2,ycv)›:=zfn (T.F 27 r27) (sc 27) fun cdv Ar outer sh H E hr=>(ye (yk (yeu (yoN rfl) yAL (T.Z 1) (ya (ycu (yyd ["stamps","self"] (yw (T.N 7) z_v) (fun _ _ _ _ _ _=>(yfz ykZ yvL (ybo ybe ycV z_v z_v) (ywc (yw (T.N 7) z_v) z_v))))) yd))))
theorem ydX:‹(1+1,28,r28,2,ybf)›:=zfn (T.F 28 r28) (sc 28) fun cdv Ar outer sh H E hr=>have nd:=(sc 28 (r:=r28)).nd;(yb (yt (yeu yG ydg (T.Z 5) (ya (yw (T.N 8) z_v) yd))) (yb (ykw (yoE (yoF (yu ytg yCp z_v yj) (ykv (ydF (ybM (yR (yvq T) (T.G 7) (T.k 24) (T.b 24) (ya (ybo yv yQ (ybo ybe ycV (yw (T.N 8) z_v) (ybW yjl ypy z_v yj)) yj) (ya z_v yd)))))))) (ye (yt (ybW yjl ypy z_v yj)))) (ye (yk z_v))))
theorem yfl:‹(4+1,29,r29,1,ybm)›:=zfn (T.F 29 r29) (sc 29) fun cdv Ar outer sh H E hr=>have nd:=(sc 29 (r:=r29)).nd;(yb (yt (yr z_v (T.M 22) (yfv T) (T.b 26))) (yb (yI (yu ybl ydt (ybo yv yQ z_v yj) yz) (ye (yk (yn z_v (T.M 19) (yiO T) (T.b 21) (ya (ybo yv yQ z_v yj) yd)))) ym) (yb (yI (yoE (ygU (yu ybl ydt (ybo yv yQ z_v yj) yz) (yfG (yu ybl ydt (ybo yv yQ z_v yj) yz)))) (ye (yk (yfz ybl ydt (yn z_v (T.M 24) (ydX T) (T.b 28) (ya z_v yd)) yj))) ym) (ye (yk (yfz ybl ydt (ybo yv yQ z_v yj) yz))))))
theorem yiQ:‹(4+1,30,r30,3,ydd)›:=zfn (T.F 30 r30) (sc 30) fun cdv Ar outer sh H E hr=>have nd:=(sc 30 (r:=r30)).nd;(yb (yt (yr z_v (T.M 22) (yfv T) (T.b 26))) (yb (yt (yn z_v (T.M 17) (ycy T) (T.b 19) (ya (ybo yv yQ z_v yj) yd))) (yb (ynq (yw (T.N 7) z_v) z_v (ybo ybe ycV z_v z_v)) (yb (yL (yn z_v (T.M 21) (yhe T) (T.b 23) (ya (ybo yv yQ z_v yj) (ya (ybo yv yQ z_v yj) (ya z_v yd))))) (yb (ybA (T.N 6) z_v (ybW ycG yeh (yw (T.N 6) z_v) yj)) (ye (yk z_v)))))))
theorem yiR:‹(4+1,31,r31,2,yH)›:=zfn (T.F 31 r31) (sc 31) fun cdv Ar outer sh H E hr=>(ye (yI (yu ybl ydt (ybo yv yQ z_v yj) yz) (ye (yL (yn z_v (T.M 16) (ydW T) (T.b 18) (ya (ybo yv yQ z_v yj) (ya (ybo yv yQ z_v yj) yd))))) (ye (yI (yu ybl ydt (ybo yv yQ z_v yj) yz) (ye (yL (yn z_v (T.M 20) (yhw T) (T.b 22) (ya (ybo yv yQ z_v yj) (ya (ybo yv yQ z_v yj) yd))))) (ye (yI (yu ybl ydt (ybo yv yQ z_v yj) yz) (ye (yL (yn z_v (T.M 18) (yji T) (T.b 20) (ya (ybo yv yQ z_v yj) (ya (ybo yv yQ z_v yj) yd))))) (ye yZ)))))))
theorem ynP:‹(0+1,32,r32,2,ydB)›:=zfn (T.F 32 r32) (sc 32) fun cdv Ar outer sh H E hr=>(ye (yI (yu ybl ydt (ybo yv yQ z_v yj) yz) (ye (ybA (T.N 6) z_v (ybo yv yQ z_v yj))) (ye yZ)))
theorem yhp:‹(2+1,33,r33,2,ycf)›:=zfn (T.F 33 r33) (sc 33) fun cdv Ar outer sh H E hr=>have nd:=(sc 33 (r:=r33)).nd;(yb (yt (yn z_v (T.M 24) (ydX T) (T.b 28) (ya z_v yd))) (yb (yt (ybo ybe ycV (yw (T.N 8) z_v) (ybW yjl ypy z_v yj))) (yb (ykw (yu yCD yFP (yeu yG ydg (T.Z 5) (ya (yw (T.N 8) z_v) yd)) z_v) (yb (yL (yuu plainAttrs_list slot_list_pop type_list_pop yoa yot (yw (T.N 8) z_v))) (ye (yL (yr (yw (T.N 4) z_v) (T.M 11) (ynO T) (T.b 5)))))) (yb (yt (ybo yv yQ z_v yj)) (yb (ybA (T.N 2) z_v (yei (ycK yC ybn (T.Z 6) (ya (ybo yv yQ z_v yj) yd)))) (yb (ybA (T.N 6) z_v (ybo yv yQ z_v (yDX yqq yxn yj))) (ye (yk z_v))))))))
theorem ymo:‹(3+1,34,r34,2,ycD)›:=zfn (T.F 34 r34) (sc 34) fun cdv Ar outer sh H E hr=>have nd:=(sc 34 (r:=r34)).nd;(yb (yt (yn z_v (T.M 15) (ycR T) (T.b 17) (ya (ybo yv yQ z_v yj) yd))) (yb (yt (yn z_v (T.M 31) (yhp T) (T.b 33) (ya z_v yd))) (ye (yL (yn z_v (T.M 16) (ydW T) (T.b 18) (ya (ybo yv yQ z_v yj) (ya z_v yd)))))))
theorem ysN:‹(5+1,35,r35,1,ycA)›:=zfn (T.F 35 r35) (sc 35) fun cdv Ar outer sh H E hr=>have nd:=(sc 35 (r:=r35)).nd;(yb (yt (yr z_v (T.M 22) (yfv T) (T.b 26))) (yb (ybA (T.N 6) z_v (ybW ycG yeh (yw (T.N 6) z_v) yj)) (ye (yI (yu ybl ydt (ybo yv yQ z_v yj) yz) (ye (yL (yn z_v (T.M 31) (yhp T) (T.b 33) (ya z_v yd)))) (ye (yI (yu ybl ydt (ybo yv yQ z_v yj) yz) (ye (yL (yn z_v (T.M 30) (ymo T) (T.b 34) (ya z_v yd)))) (ye (yI (yoE (ygU (yu ybl ydt (ybo yv yQ z_v yj) yz) (yfG (yu ybl ydt (ybo yv yQ z_v yj) yz)))) (ye (yL (yn z_v (T.M 29) (ynP T) (T.b 32) (ya z_v yd)))) (ye (yI (yoE (ygU (yu ybl ydt (ybo yv yQ z_v yj) yz) (yfG (yu ybl ydt (ybo yv yQ z_v yj) yz)))) (yb (yL (yxR plainAttrs_list PySem.F.slot_list_append PySem.F.type_list_append ydD yos (yw (T.N 8) z_v) (ya (ycc (ya z_v (ya (ycu (ycK yC ybn (T.Z 6) (ya (yw (T.N 2) z_v) yd))) yd))) yd))) (ye (yL (yr (yw (T.N 4) z_v) (T.M 9) (ymm T) (T.b 3))))) (ye (yI (yu ybl ydt (ybo yv yQ z_v yj) yz) (yb (yL (yuu plainAttrs_list slot_list_pop type_list_pop yoa yot (yw (T.N 8) z_v))) (ye (yL (yr (yw (T.N 4) z_v) (T.M 10) (ykT T) (T.b 4))))) (ye (yL (yn z_v (T.M 28) (yiR T) (T.b 31) (ya z_v yd))))))))))))))))
theorem yeM:‹(0+1,36,r36,1,ycg)›:=zfn (T.F 36 r36) (sc 36) fun cdv Ar outer sh H E hr=>(yb (yI (yu ybl ydt (yw (T.N 10) z_v) (yeu yG ydg (T.Z 5) (ya (yw (T.N 9) z_v) yd))) (ye (yk yz)) ym) (ye (yk (yxP (ybM (yw (T.N 11) z_v)) yz yz))))
theorem ydM:‹(6+1,37,r37,1,ybT)›:=zfn (T.F 37 r37) (sc 37) fun cdv Ar outer sh H E hr=>have nd:=(sc 37 (r:=r37)).nd;(yb (yt (yxP (yu ypl yyZ (yw (T.N 10) z_v) (yeu yG ydg (T.Z 5) (ya (yw (T.N 9) z_v) yd))) (ybo ybe ycV (yw (T.N 9) z_v) (yw (T.N 10) z_v)) (ycu (ycb yd)))) (ye (yk (yei (yhg (T.J 8) (yiP T) (T.C 12) (T.b 25) (ya z_v (ya (yw (T.N 12) z_v) (ya (yw (T.N 3) z_v) yd))))))))
theorem ygJ:‹(7+1,38,r38,1,ycr)›:=zfn (T.F 38 r38) (sc 38) fun cdv Ar outer sh H E hr=>(yb (ybA (T.N 11) z_v ysS) (ye (ybA (T.N 13) z_v (yr z_v (T.M 33) (ydM T) (T.b 37)))))
theorem ygc:‹(0+1,39,r39,1,ybX)›:=zfn (T.F 39 r39) (sc 39) fun cdv Ar outer sh H E hr=>(ye (ybA (T.N 11) z_v ysS))
theorem ykU:‹(7+1,40,r40,2,ydT)›:=zfn (T.F 40 r40) (sc 40) fun cdv Ar outer sh H E hr=>(yb (ybA (T.N 10) z_v (ybW ycG yeh (yw (T.N 10) z_v) yj)) (yb (ybA (T.N 12) z_v (ycu (ycK yC ybn (T.Z 6) (ya z_v yd)))) (ye (ybA (T.N 13) z_v (yr z_v (T.M 33) (ydM T) (T.b 37))))))
theorem yhx:‹(7+1,41,r41,3,ybu)›:=zfn (T.F 41 r41) (sc 41) fun cdv Ar outer sh H E hr=>(yb (ybA (T.N 9) z_v (ycu (ycK yC ybn (T.Z 6) (ya z_v yd)))) (yb (ybA (T.N 3) z_v z_v) (yb (ybA (T.N 10) z_v yj) (yb (ybA (T.N 11) z_v ysS) (yb (ybA (T.N 12) z_v (ycu (ynm yqF yxq (ycu (ycb (ya yj yd))) (yeu ydO yoi (T.Z 5) (ya (ylU T.m_SLOTS) yd))))) (ye (ybA (T.N 13) z_v (yr z_v (T.M 33) (ydM T) (T.b 37)))))))))
theorem yjj:‹(2+1,78,r78,1,ydz)›:=zfn (T.F 78 r78) (sc 78) fun cdv Ar outer sh H E hr=>(yb (yI (ydF (yhE yiW yiW ysP ysP yj (yeu yG ydg (T.Z 5) (ya z_v yd)) (yic T.m_MOST_BOXES))) (ye yZ) ym) (ye (yI (ydF (ybM (yeu (yoc rfl) yAh (T.Z 0) (ya (ycu (yoG [] (yfQ z_v) (fun _ _ _ _ _ _=>(yR (ymk T) (T.G 1) (T.k 10) (T.b 10) (ya z_v yd))))) yd)))) (ye yZ) ym)))
theorem yhy:‹(93+1,79,r79,1,ych)›:=zfn (T.F 79 r79) (sc 79) fun cdv Ar outer sh H E hr=>(ye (yk (ycu (ykx [] z_v (fun _ _ _ _ _ _=>(yR (ypS T) (T.G 15) (T.k 62) (T.b 62) (ya (yR (yyW T) (T.G 17) (T.k 77) (T.b 77) (ya z_v yd)) yd)))))))
theorem yhz:‹(94+1,80,r80,1,yci)›:=zfn (T.F 80 r80) (sc 80) fun cdv Ar outer sh H E hr=>(yb (yI (ydF (yhE yiW yiW ysP ysP yj (yeu yG ydg (T.Z 5) (ya z_v yd)) (yic T.m_MOST_HANDS))) (ye yZ) ym) (yb (yI (ybM (yeu (yoN rfl) yAL (T.Z 1) (ya (ycu (ykx [] z_v (fun _ _ _ _ _ _=>(yfz ytg yCp (yeu yG ydg (T.Z 5) (ya z_v yd)) (yic T.m_MOST_DEEDS))))) yd))) (ye yZ) ym) (ye (yk (ycu (ykx [] z_v (fun _ _ _ _ _ _=>(yR (yhy T) (T.G 19) (T.k 79) (T.b 79) (ya z_v yd)))))))))
theorem yhA:‹(95+1,81,r81,3,ycM)›:=zfn (T.F 81 r81) (sc 81) fun cdv Ar outer sh H E hr=>(yb (yL (yR (yjj T) (T.G 18) (T.k 78) (T.b 78) (ya z_v yd))) (yb (ybA (T.N 14) z_v (yei (ycK yC ybn (T.Z 6) (ya z_v yd)))) (yb (ybA (T.N 15) z_v (yei (ynm yqF yxq (ycu (ycb (ya yj yd))) (yeu yG ydg (T.Z 5) (ya z_v yd))))) (yb (ybA (T.N 16) z_v (yei (yoG ["boxes"] (yfQ (yR (yhz T) (T.G 20) (T.k 80) (T.b 80) (ya z_v yd))) (fun _ _ _ _ _ _=>(yrL (T.J 10) (yhx T) (T.C 14) (T.b 41) (ya z_v (ya (yeu yG ydg (T.Z 5) (ya z_v yd)) yd))))))) (ye (ybA (T.N 17) z_v (yei (ycb yd))))))))
theorem ykV:‹(0+1,82,r82,1,ydU)›:=zfn (T.F 82 r82) (sc 82) fun cdv Ar outer sh H E hr=>(ye (yk (ycu (ycK yC ybn (T.Z 6) (ya (yw (T.N 14) z_v) yd)))))
theorem ycp:‹(1+1,84,r84,2,ybh)›:=zfn (T.F 84 r84) (sc 84) fun cdv Ar outer sh H E hr=>(yb (yI (yoE (ygU (ydF (ybM (yR (yiM T) (T.G 0) (T.k 9) (T.b 9) (ya z_v yd)))) (yfG (ydF (yhE yiW ypl ysP yyZ yj z_v (yeu yG ydg (T.Z 5) (ya (yw (T.N 16) z_v) yd))))))) (ye yZ) ym) (ye (yk (ybo ybe ycV (yw (T.N 16) z_v) z_v))))
theorem ygK:‹(2+1,85,r85,2,ycj)›:=zfn (T.F 85 r85) (sc 85) fun cdv Ar outer sh H E hr=>(ye (yk (yr (yn z_v (T.M 39) (ycp T) (T.b 84) (ya z_v yd)) (T.M 32) (yeM T) (T.b 36))))
theorem ykW:‹(2+1,86,r86,2,ydi)›:=zfn (T.F 86 r86) (sc 86) fun cdv Ar outer sh H E hr=>(ye (yk (yw (T.N 10) (yn z_v (T.M 39) (ycp T) (T.b 84) (ya z_v yd)))))
theorem ykX:‹(2+1,87,r87,2,ydj)›:=zfn (T.F 87 r87) (sc 87) fun cdv Ar outer sh H E hr=>(ye (yk (ycu (ycK yC ybn (T.Z 6) (ya (yw (T.N 2) (yw (T.N 13) (yn z_v (T.M 39) (ycp T) (T.b 84) (ya z_v yd)))) yd)))))
theorem yiS:‹(2+1,88,r88,2,yda)›:=zfn (T.F 88 r88) (sc 88) fun cdv Ar outer sh H E hr=>(ye (yk (yr (yw (T.N 4) (yw (T.N 13) (yn z_v (T.M 39) (ycp T) (T.b 84) (ya z_v yd)))) (T.M 13) (yjM T) (T.b 7))))
theorem yfm:‹(0+1,89,r89,1,ybq)›:=zfn (T.F 89 r89) (sc 89) fun cdv Ar outer sh H E hr=>(ye (yk (ycu (ykx [] (yw (T.N 17) z_v) (fun _ _ _ _ _ _=>(ycc (ya (ybo yv yQ z_v yj) (ya (ybo yv yQ z_v yj) (ya (ybo yv yQ z_v yj) (ya (ycu (ycK yC ybn (T.Z 6) (ya (ybo yv yQ z_v yj) yd))) (ya (ycu (ycK yC ybn (T.Z 6) (ya (ybo yv yQ z_v yj) yd))) (ya (ycu (ycK yC ybn (T.Z 6) (ya (ybo yv yQ z_v yj) yd))) yd))))))))))))
theorem ygL:‹(8+1,90,r90,1,ybs)›:=zfn (T.F 90 r90) (sc 90) fun cdv Ar outer sh H E hr=>have nd:=(sc 90 (r:=r90)).nd;(ye (yxV (yw (T.N 16) z_v) yex (ye (yI (yoE (yoF (yu ybl ydt (yr z_v (T.M 32) (yeM T) (T.b 36)) yz) (ykv (ybM (yn (yw (T.N 13) z_v) (T.M 23) (yfk T) (T.b 27) (ya (yw (T.N 15) z_v) yd)))))) (ye (yL (yr z_v (T.M 34) (ygJ T) (T.b 38)))) ym))))
theorem yeO:‹(8+1,91,r91,5,yck)›:=zfn (T.F 91 r91) (sc 91) fun cdv Ar outer sh H E hr=>have nd:=(sc 91 (r:=r91)).nd;(yb (yt (ybo ybe ycV (yw (T.N 16) z_v) z_v)) (yb (yL (yxR plainAttrs_list PySem.F.slot_list_append PySem.F.type_list_append ydD yos (yw (T.N 17) z_v) (ya (ycc (ya z_v (ya (yw (T.N 10) z_v) (ya z_v (ya (yr (yw (T.N 4) (yw (T.N 13) z_v)) (T.M 13) (yjM T) (T.b 7)) (ya z_v (ya (ycu (ycK yC ybn (T.Z 6) (ya z_v yd))) yd))))))) yd))) (ye (yL (yn z_v (T.M 36) (ykU T) (T.b 40) (ya z_v yd))))))
theorem yhB:‹(9+1,92,r92,2,ycN)›:=zfn (T.F 92 r92) (sc 92) fun cdv Ar outer sh H E hr=>have nd:=(sc 92 (r:=r92)).nd;(yb (yt (yw (T.N 13) (ybo ybe ycV (yw (T.N 16) z_v) z_v))) (yb (yt (yr (yw (T.N 4) z_v) (T.M 14) (ymn T) (T.b 8))) (yb (yid (yfQ z_v) yex (yb (yt (ybo yv yQ z_v yj)) (yb (yie (ybo yv yQ z_v yj) (yw (T.N 14) z_v) z_v) (ye (yie (ybW ycG yeh (ybo ybe ycV (yw (T.N 15) z_v) z_v) yj) (yw (T.N 15) z_v) z_v))))) (yb (yL (yn z_v (T.M 46) (yeO T) (T.b 91) (ya z_v (ya (ycc (ya yz yd)) (ya z_v (ya (yw (T.N 2) z_v) yd)))))) (ye (yL (yr z_v (T.M 45) (ygL T) (T.b 90))))))))
theorem yer:‹(10+1,93,r93,3,yK)›:=zfn (T.F 93 r93) (sc 93) fun cdv Ar outer sh H E hr=>have nd:=(sc 93 (r:=r93)).nd;(yb (yt (ybo ybe ycV (yw (T.N 16) z_v) z_v)) (yb (yt (yr (yw (T.N 13) z_v) (T.M 22) (yfv T) (T.b 26))) (yb (yI (yu ybl ydt (ybo yv yQ z_v yj) yz) (yb (yt (yn (yw (T.N 13) z_v) (T.M 26) (yiQ T) (T.b 30) (ya (yw (T.N 14) z_v) (ya (yw (T.N 15) z_v) yd)))) (ye (yk (ycc (ya yz (ya z_v (ya z_v (ya (ybo ybe ycV (yw (T.N 14) z_v) z_v) yd)))))))) ym) (yb (yI (yu ybl ydt (ybo yv yQ z_v yj) yz) (yb (yL (yr z_v (T.M 35) (ygc T) (T.b 39))) (ye (yk (ycc (ya yz (ya z_v yd)))))) ym) (yb (yI (yu ybl ydt (ybo yv yQ z_v yj) yz) (yb (yL (yn z_v (T.M 46) (yeO T) (T.b 91) (ya z_v (ya (ycc (ya yz (ya (ybo yv yQ z_v yj) (ya (yn (yw (T.N 13) z_v) (T.M 15) (ycR T) (T.b 17) (ya (ybo yv yQ z_v yj) yd)) yd)))) (ya (ycu (ycb yd)) (ya (yw (T.N 12) z_v) yd)))))) (ye (yk (ycc (ya yz (ya z_v yd)))))) ym) (yb (yL (yn z_v (T.M 47) (yhB T) (T.b 92) (ya z_v yd))) (ye (yk (ycc (ya yz (ya z_v yd)))))))))))
theorem yfn:‹(11+1,94,r94,2,yA)›:=zfn (T.F 94 r94) (sc 94) fun cdv Ar outer sh H E hr=>have nd:=(sc 94 (r:=r94)).nd;(yb (yt (yn z_v (T.M 39) (ycp T) (T.b 84) (ya z_v yd))) (yb (yI (yu ykZ yvL (yr z_v (T.M 32) (yeM T) (T.b 36)) yz) (ye (yk (ycc (ya yz yd)))) ym) (yb (yt (yw (T.N 6) (yw (T.N 13) z_v))) (yb (yI (ydF (ybM (yr (yw (T.N 13) z_v) (T.M 25) (yfl T) (T.b 29)))) (yb (yL (yr (yw (T.N 13) z_v) (T.M 27) (ysN T) (T.b 35))) (ye (yk (ycc (ya yz (ya z_v yd)))))) ym) (yb (yI (ybM (yn (yw (T.N 13) z_v) (T.M 23) (yfk T) (T.b 27) (ya (yw (T.N 15) z_v) yd))) (yb yZ (ye yZ)) ym) (ye (yk (yn z_v (T.M 48) (yer T) (T.b 93) (ya z_v (ya z_v yd))))))))))
theorem ycq:‹(0+1,95,r95,2,yM)›:=zfn (T.F 95 r95) (sc 95) fun cdv Ar outer sh H E hr=>(yb (yI (yu ypl yyZ z_v (yeu yG ydg (T.Z 5) (ya z_v yd))) (ye (yk (ybo ybe ycV z_v z_v))) ym) (ye (yk yj)))
theorem yes:‹(0+1,96,r96,1,ybS)›:=zfn (T.F 96 r96) (sc 96) fun cdv Ar outer sh H E hr=>have nd:=(sc 96 (r:=r96)).nd;(yb (yt (ybW ymB yxm z_v yj)) (yb (yI (yu ybl ydt (ybW yds yfx z_v yj) yj) (ye (yk (ybW yds yfx z_v yj))) ym) (yb (yI (yu ybl ydt (ybW yds yfx z_v yj) yj) (ye (yk (ybW yjl ypy (ybW yjl ypy (ybW yvw yzZ yj yj) yj) (ybW yds yfx z_v yj)))) ym) (ye (yk (ybW yds yfx z_v (ybW yvw yzZ yj yj)))))))
theorem yiT:‹(0+1,97,r97,3,ycw)›:=zfn (T.F 97 r97) (sc 97) fun cdv Ar outer sh H E hr=>have nd:=(sc 97 (r:=r97)).nd;(yb (yt (ybW yE ybV (ybW yE ybV yz (ypE ydf ylI (T.Z 10) (ya z_v yd))) yz)) (yb (yt (ybW yE ybV (ybW yE ybV yz (ypE ydf ylI (T.Z 10) (ya z_v yd))) yz)) (yb (yI (yu ybl ydt z_v yj) (ye (yk (ycc (ya (ybW yE ybV z_v yz) (ya (ycu (ycb (ya z_v yd))) (ya yj yd)))))) ym) (yb (yI (yu ybl ydt z_v yj) (ye (yk (ycc (ya (ybW yE ybV (ybW yE ybV (ybW yE ybV (ybW yE ybV yz z_v) yz) z_v) yz) (ya (ycu (ycb (ya z_v (ya z_v yd)))) (ya yj yd)))))) ym) (yb (yI (yu ybl ydt z_v yj) (ye (yk (ycc (ya (ybW yE ybV (ybW yE ybV yz (ypE ydf ylI (T.Z 10) (ya z_v yd))) yz) (ya (ycu (ycb yd)) (ya yj yd)))))) ym) (yb (yI (yu ybl ydt z_v yj) (ye (yk (ycc (ya (ybW yE ybV (ybW yE ybV yz z_v) yz) (ya (ycu (ycb (ya z_v yd))) (ya yj yd)))))) ym) (ye (yk (ycc (ya (ybW yE ybV (ybW yE ybV (ybW yE ybV z_v yz) z_v) yz) (ya (ycu (ycb (ya z_v (ya z_v yd)))) (ya yj yd))))))))))))
theorem yfJ:‹(12+1,98,r98,3,ycO)›:=zfn (T.F 98 r98) (sc 98) fun cdv Ar outer sh H E hr=>have nd:=(sc 98 (r:=r98)).nd;(yb (yrJ ["_law_boxes","_law_seen"] (ygV (T.Z 7) (ya (yeu yG ydg (T.Z 5) (ya z_v yd)) yd)) (fun _ _ _ _ _ _=>(ycc (ya z_v (ya (ybo ybe ycV z_v z_v) yd)))) (fun _ _ _ _ _ _=>(yu ylj yuf z_v z_v))) (yb (yI (yoE (ygU (yu ykZ yvL (yn z_v (T.M 40) (ygK T) (T.b 85) (ya yj yd)) yz) (yfG (yu (yrG (yif hr)) yxG (yn z_v (T.M 43) (yiS T) (T.b 88) (ya yj yd)) z_v)))) (ye (yk ysS)) ym) (ye (yk (yno (yfz (yoJ (yif hr)) yum (yn z_v (T.M 49) (yfn T) (T.b 94) (ya yj yd)) (ycc (ya yz yd))) (ynn (yfz (yoJ (yif hr)) yum (yr z_v (T.M 37) (ykV T) (T.b 82)) z_v)))))))
theorem yeP:‹(13+1,99,r99,4,ycl)›:=zfn (T.F 99 r99) (sc 99) fun cdv Ar outer sh H E hr=>have nd:=(sc 99 (r:=r99)).nd;(yb (yt (ycc (ya yz (ya yj yd)))) (yb (yI (yoE (ygU (yu ykZ yvL (yn z_v (T.M 40) (ygK T) (T.b 85) (ya yj yd)) yz) (ygU (yu (yrG (yif hr)) yxG (yn z_v (T.M 42) (ykX T) (T.b 87) (ya yj yd)) (ycu (ynm yqF yxq (ycu (ycb (ya yj yd))) yj))) (ygU (yu (yrG (yif hr)) yxG (yn z_v (T.M 43) (yiS T) (T.b 88) (ya yj yd)) (ycu (ycb yd))) (yfG (yu ykZ yvL (yn z_v (T.M 41) (ykW T) (T.b 86) (ya yj yd)) yj)))))) (ye (yk ysS)) ym) (yb (yid (ygV (T.Z 7) (ya yj yd)) yex (ye (yI (yu yhf yuf (ybo yv yQ z_v yj) (ycu (ycb (ya yz (ya yz yd))))) (ye (yt (yn z_v (T.M 49) (yfn T) (T.b 94) (ya yj yd)))) ym))) (ye (yk (yno (yfz (yoJ (yif hr)) yum z_v (ycc (ya yz (ya z_v yd)))) (ynn (yR (yfJ T) (T.G 24) (T.k 98) (T.b 98) (ya z_v (ya z_v (ya z_v yd)))))))))))
theorem ymp:‹(1+1,100,r100,2,yeE)›:=zfn (T.F 100 r100) (sc 100) fun cdv Ar outer sh H E hr=>have nd:=(sc 100 (r:=r100)).nd;(yb (yt (ybW yds yfx (ybW yqp yxl z_v yj) yj)) (yb (yt (ybW yds yfx (ybW ymB yxm z_v yj) (yeu yG ydg (T.Z 5) (ya z_v yd)))) (yb (yt (yR (yes T) (T.G 22) (T.k 96) (T.b 96) (ya z_v yd))) (yb (yI (yu ybl ydt (ybW yds yfx (ybW ymB yxm z_v yj) yj) yj) (ye (yt (ybo ybe ycV z_v z_v))) ym) (yb (yt (ybW yE ybV (ybW yE ybV (ybW yE ybV yz (ypE ydf ylI (T.Z 10) (ya z_v yd))) yz) (ypE ydf ylI (T.Z 10) (ya z_v yd)))) (yb (yt (ybW yds yfx z_v yj)) (yb (yI (yu ybl ydt z_v yj) (ye (yk (ycc (ya (ybW yE ybV z_v yz) (ya yj (ya yz (ya yfy (ya z_v yd)))))))) ym) (yb (yI (yu ybl ydt z_v yj) (ye (yk (ycc (ya (ybW yE ybV z_v yz) (ya yj (ya yz (ya yfy (ya z_v yd)))))))) ym) (yb (yI (yu ybl ydt z_v yj) (ye (yk (ycc (ya (ybW yE ybV (ybW yE ybV yz z_v) yz) (ya yj (ya yz (ya yfy (ya z_v yd)))))))) ym) (ye (yk (ycc (ya (ybW yE ybV z_v yz) (ya yj (ya yz (ya z_v (ya z_v yd)))))))))))))))))
theorem ynQ:‹(12+1,101,r101,3,ydC)›:=zfn (T.F 101 r101) (sc 101) fun cdv Ar outer sh H E hr=>have nd:=(sc 101 (r:=r101)).nd;(yb (yt (ycc (ya yz (ya yj yd)))) (yb (yid (ygV (T.Z 7) (ya (ybo yv yQ z_v yj) yd)) yex (yb (yI (yu yhf yuf (ybo yv yQ z_v yj) (ycu (ycb (ya yz (ya yz yd))))) (ye (yk ysS)) ym) (ye (yt (yn z_v (T.M 49) (yfn T) (T.b 94) (ya z_v yd)))))) (ye (yk (yfz ybl ydt (ybo yv yQ z_v yj) (ybo yv yQ z_v yj))))))
theorem yCk:‹(97+1,102,r102,1,yuD)›:=zfn (T.F 102 r102) (sc 102) fun cdv Ar outer sh H E hr=>have nd:=(sc 102 (r:=r102)).nd;(yb (yt (ybW ycG yeh yj (ybW yds yfx (yR (ycq T) (T.G 21) (T.k 95) (T.b 95) (ya z_v (ya yj yd))) yj))) (yb (yuz ["_law_script"] (ygV (T.Z 7) (ya z_v yd)) (fun _ _ _ _ _ _=>(yR (yes T) (T.G 22) (T.k 96) (T.b 96) (ya (ybW ycG yeh (yR (ycq T) (T.G 21) (T.k 95) (T.b 95) (ya z_v (ya yj yd))) (ybW yqp yxl (ybW yqp yxl yj z_v) z_v)) yd)))) (yb (yt (ybW yds yfx (yR (ycq T) (T.G 21) (T.k 95) (T.b 95) (ya z_v (ya yj yd))) z_v)) (yb (yt (ybW yds yfx (yR (ycq T) (T.G 21) (T.k 95) (T.b 95) (ya z_v (ya yj yd))) z_v)) (yb (yt (yR (yiT T) (T.G 23) (T.k 97) (T.b 97) (ya (ybW yds yfx (yR (ycq T) (T.G 21) (T.k 95) (T.b 95) (ya z_v (ya yj yd))) yj) (ya z_v (ya z_v yd))))) (yb (ynp (ycb yd)) (yb (yt (yei (ycK yC ybn (T.Z 6) (ya z_v yd)))) (yb (yid (yfQ (ycu (yDZ ywI yCZ z_v (yrE yj) (yrE yj)))) yex (yb (yt (yR (ymp T) (T.G 26) (T.k 100) (T.b 100) (ya z_v (ya z_v yd)))) (yb (yI (yu yjP yog (ybo yv yQ z_v yj) yfy) (ye (yie (ybo yv yQ z_v yj) z_v (ybo yv yQ z_v yj))) ym) (ye (ywb z_v))))) (yb (yt (yei (ycb (ya (yei (ycb (ya (ybo yv yQ z_v yj) yd))) (ya (yei (ycb yd)) (ya (yei (ycb yd)) yd)))))) (yeW (yb (yid (ygV (T.Z 7) (ya (yeu yG ydg (T.Z 5) (ya z_v yd)) yd)) yex (yeW (ye (yL (yxR plainAttrs_list PySem.F.slot_list_append PySem.F.type_list_append ydD yos (ybo ybe ycV z_v (ybW ycG yeh yj (ybW yds yfx z_v yj))) (ya (ybo yv yQ (ybo ybe ycV z_v z_v) yj) yd)))))) (yb (yt (yrL (T.J 11) (yhA T) (T.C 15) (T.b 81) (ya (ycu (ycK yC ybn (T.Z 6) (ya z_v yd))) (ya z_v yd)))) (yb (yI (ydF (ybM (yR (yeP T) (T.G 25) (T.k 99) (T.b 99) (ya z_v (ya (ybo yv yQ z_v yj) (ya z_v (ya (ybo yv yQ z_v yj) yd))))))) (ye (yk ysS)) ym) (yeW (yb (yid (ygV (T.Z 7) (ya (yeu yG ydg (T.Z 5) (ya z_v yd)) yd)) yex (yeW (yb (yI (yoE (ygU (ydF (ybM (yR (ynQ T) (T.G 27) (T.k 101) (T.b 101) (ya z_v (ya (ybW ycG yeh yj (ybW yds yfx z_v yj)) (ya (ybo ybe ycV z_v z_v) yd)))))) (yfG (yu ykZ yvL (yeu yG ydg (T.Z 5) (ya (yr z_v (T.M 44) (yfm T) (T.b 89)) yd)) (ybW ycG yeh z_v yj))))) (ye (yk ysS)) ym) (yeW (yb (yt (ybo yv yQ (ybo ybe ycV z_v z_v) yj)) (yb (yI (yu yjP yog z_v yfy) (yeW (ye (yie (ybo yv yQ (ybo ybe ycV z_v z_v) yj) z_v z_v))) ym) (ye (yI (yoE (yoF (yu yjP yog z_v yfy) (ykv (yu ylj yuf z_v (ybo yv yQ z_v yj))))) (ye (yI (ydF (ybM (yR (yeP T) (T.G 25) (T.k 99) (T.b 99) (ya z_v (ya (ybo yv yQ z_v yj) (ya z_v (ya (ybo yv yQ z_v yj) yd))))))) (ye (yk ysS)) ym)) (ye (yI (ydF (ybM (yR (yfJ T) (T.G 24) (T.k 98) (T.b 98) (ya z_v (ya (ybo yv yQ z_v yj) (ya z_v yd)))))) (ye (yk ysS)) ym)))))))))) (ye (yk (yfz (yoJ (yif hr)) yum (ycu (yxX [] (yfQ (yr z_v (T.M 44) (yfm T) (T.b 89))) (fun _ _ _ _ _ _=>(ybo yv yQ z_v yj)) (fun _ _ _ _ _ _=>(yu ybl ydt (ybo yv yQ z_v yj) yj)))) (ycu (ycb yd))))))))))))))))))))
def yvr (K:PySem.W.Frag):Sp:=fun vs H Q _=>∃ (a:Addr) (ns:List Int),vs=[.ref a]/\SqL K H a (ns.map V.int)/\ns.length<=63/\∀ H',Q (.bl true) H'
theorem yCl {A:Nat->Addr}:∀ vs H Q E,yvr K vs H Q E->spE ⟨K,A⟩ 1 yuD vs H Q E:=by
 rintro _ H Q E ⟨a,ns,rfl,hS,hl,q⟩
 obtain ⟨h',e⟩:=yCj (h:=[]) ns hl
 exact ⟨⟨H,H,[],[]⟩,[.scr ns],.bl true,h',rfl,⟨Same.refl _,rfl,List.nodup_nil,fun n d a e=>by simp at e⟩,⟨.ref a,[],rfl,⟨a,rfl,hS⟩,rfl⟩,rfl,e,fun v W' _ _ rv=>by rw [show v=_ from rv];exact q _⟩
end
structure FB (K:PySem.W.Frag) (r:FR) (p:Addr×FuncData):Prop where
 F:Fun K r.1 r.2.1 r.2.2.1 p.1 p.2
 b:Binds K p.2 r.ps []
theorem FB.of {K:PySem.W.Frag}{x q:Str}{s:Stmt}{k:Nat}{n:List Str}{f:Addr}{d:FuncData}(F:Fun K x q s f d) (b:Binds K d (n.take k) []):FB K (fRw x q s k n) (f,d):=⟨F,b⟩
def All2 {α β:Type}(R:α->β->Prop):List α->List β->Prop
 | r::rs,p::ps=>R r p/\All2 R rs ps
 | [],[]=>True
 | _,_=>False
theorem All2.get {α β:Type}{R:α->β->Prop}{d:α}{e:β}(h:R d e):∀ {rs:List α}{ps:List β},All2 R rs ps->∀ n:Nat,R (rs.getD n d) (ps.getD n e)
 | [],[],_,_=>h
 | _::_,_::_,a,0=>a.1
 | _::_,_::_,a,n+1=>All2.get h a.2 n
abbrev Ns1 (K:PySem.W.Frag) (x:Str) (f:Addr):Prop:=nsIn K mainGlobals x=some (some (.ref f))
structure TyR (K:PySem.W.Frag) (C:Addr):Prop where
 ha:findIn K (.ref C) "__class__" = some (some (.builtin "object.__class__"))
 hm:mroIn K C (.type "object")=some true
 ty:typeIn K (.ref C)=some (.type "type")
structure NS2 (K:PySem.W.Frag) (c d:Addr):Prop where
 sb:subIn K (.ref c) (.ref d)=some false
 ne:(c == d)=false
noncomputable def NSx (K:PySem.W.Frag) (pre:List Addr):List Addr->Prop
 | []=>True
 | c::cs=>AllP (NS2 K c) pre/\AllP (NS2 K c) cs/\NSx K (c::pre) cs
theorem NSx.get {K:PySem.W.Frag}{A:Nat->Addr}:∀ {cs pre:List Nat},NSx K (pre.map A) (cs.map A)->∀ i∈cs,∀ j,j∈pre\/j∈cs->i≠j->NS2 K (A i) (A j)
 | c::cs,pre,a,i,hi,j,hj,ne=>by
  rcases mem_cons.mp hi with rfl|hi
  .rcases hj with hj|hj
   .exact a.1.mem _ (List.mem_map_of_mem hj)
   .rcases mem_cons.mp hj with rfl|hj
    .exact absurd rfl ne
    .exact a.2.1.mem _ (List.mem_map_of_mem hj)
  .refine NSx.get (pre:=c::pre) a.2.2 i hi j ?_ ne
   rcases hj with hj|hj
   .exact .inl (mem_cons_of_mem _ hj)
   .rcases mem_cons.mp hj with rfl|hj
    .exact .inl mem_cons_self
    .exact .inr hj
theorem yyX {K:PySem.W.Frag}{A:Nat->Addr}(CL:∀ k,Cls K (A k)) (hn:PySem.W.specialIn K (.builtin "object.__class__") "__get__" = some (some (.builtin "getset_descriptor.__get__"))) (htk:PySem.W.takesIn K (.builtin "object.__class__")=some true) (cs:List Nat) (ty:AllP (TyR K) (cs.map A)) (sb:NSx K [] (cs.map A)) :
  ∀ r∈tbO cs,∀ (H:Hp) (a dx:Addr) (fs:List (Str×V)),H a=some (.ins (A r.1) dx fs)->IsI K H (.ref a) (.ref (A r.2.1)) r.2.2:=by
 intro r hr H a dx fs e
 unfold tbO at hr
 obtain ⟨i,hi,hr⟩:=List.mem_flatMap.mp hr
 obtain ⟨j,hj,rfl⟩:=List.mem_map.mp hr
 have t:=ty.mem _ (List.mem_map_of_mem hi)
 have t':=ty.mem _ (List.mem_map_of_mem hj)
 refine ⟨_,_,.ins e (CL i) t.ha hn htk t.hm,rfl,?_⟩
 by_cases q:i=j
 .subst q
  show _=some (i == i)
  rw [beq_self_eq_true]
  exact ytw
 .have n:=NSx.get (pre:=[]) sb i hi j (.inr hj) q
  show _=some (i == j)
  rw [beq_eq_false_iff_ne.mpr q]
  exact yty n.ne t'.hm t'.ty n.sb
theorem zip_get {K:PySem.W.Frag}{c0:Str}{C0:Addr}:∀ {cs:List Str}{as:List Addr},AllP (fun p:Str×Addr=>Ns1 K p.1 p.2) ((c0::cs).zip (C0::as))->cs.length=as.length->∀ n:Nat,Ns1 K ((c0::cs).getD n c0) ((C0::as).getD n C0):=fun {cs as} h hl n=>by
 have h0:=h.1
 have:∀ (cs:List Str) (as:List Addr),AllP (fun p:Str×Addr=>Ns1 K p.1 p.2) (cs.zip as)->cs.length=as.length->∀ n:Nat,Ns1 K (cs.getD n c0) (as.getD n C0):=by
  intro cs
  induction cs with
  | nil=>intro as _ e n;cases as with|nil=>exact h0|cons _ _=>cases e
  | cons c cs ih=>intro as h e n;cases as with|nil=>cases e|cons a as=>cases n with|zero=>exact h.1|succ n=>exact ih as h.2 (by simpa using e) n
 exact this _ _ h (by simpa using hl) n
theorem all_mk {l:PySem.W.OpenLaw}{w:World}{K:PySem.W.Frag}{h:Heap}{mg:Str->Option Value}{fa C0 C1 C2 C3 C4 C5 C6 C7 C8 C9 C10 C11 C12 C13 C14 C15 f0 f1 f2 f3 f4 f5 f6 f7 f8 f9 f10 f11 f12 f13 f14 f15 f16 f17 f18 f19 f20 f21 f22 f23 f24 f25 f26 f27 f28 f29 f30 f31 f32 f33 f34 f35 f36 f37 f38 f39 f40 f41 f42 f43 f44 f45 f46 f47 f48 f49 f50 f51 f52 f53 f54 f55 f56 f57 f58 f59 f60 f61 f62 f63 f64 f65 f66 f67 f68 f69 f70 f71 f72 f73 f74 f75 f76 f77 f78 f79 f80 f81 f82 f83 f84 f85 f86 f87 f88 f89 f90 f91 f92 f93 f94 f95 f96 f97 f98 f99 f100 f101 f102 :Addr}{d0 d1 d2 d3 d4 d5 d6 d7 d8 d9 d10 d11 d12 d13 d14 d15 d16 d17 d18 d19 d20 d21 d22 d23 d24 d25 d26 d27 d28 d29 d30 d31 d32 d33 d34 d35 d36 d37 d38 d39 d40 d41 d42 d43 d44 d45 d46 d47 d48 d49 d50 d51 d52 d53 d54 d55 d56 d57 d58 d59 d60 d61 d62 d63 d64 d65 d66 d67 d68 d69 d70 d71 d72 d73 d74 d75 d76 d77 d78 d79 d80 d81 d82 d83 d84 d85 d86 d87 d88 d89 d90 d91 d92 d93 d94 d95 d96 d97 d98 d99 d100 d101 d102:FuncData}{u1 u2 u3 u4 u5 u6 u7 u8 u9:Tok}(X:K.In h) (G:h.Ns mainGlobals mg) (hfa:mg "law" = some (.ref fa))
  (hC:Ns1 K "Part" C0/\Ns1 K "Let" C1/\Ns1 K "Reckon" C2/\Ns1 K "Take" C3/\Ns1 K "Put" C4/\Ns1 K "If" C5/\Ns1 K "Either" C6/\Ns1 K "Try" C7/\Ns1 K "Throw" C8/\Ns1 K "Wait" C9/\Ns1 K "Reader" C10/\Ns1 K "Log" C11/\Ns1 K "Run" C12/\Ns1 K "Doer" C13/\Ns1 K "Hand" C14/\Ns1 K "Hall" C15/\True)
  (cl:AllP (Cls K) [C0,C1,C2,C3,C4,C5,C6,C7,C8,C9,C10,C11,C12,C13,C14,C15])
  (hK:Mk K C1 f42/\Mk K C3 f43/\Mk K C4 f44/\Mk K C6 f45/\Mk K C7 f46/\Mk K C8 f47/\Mk K C10 f63/\Mk K C11 f0/\Mk K C12 f25/\Mk K C13 f16/\Mk K C14 f41/\Mk K C15 f81/\True)
  (mk0:makesIn K C0=true)
  (io0:findIn K (.ref C0) "__init__" = some (some (.builtin "object.__init__")))
  (kp0:keepIn K (.ref C0)=true)
  (mk9:makesIn K C9=true)
  (io9:findIn K (.ref C9) "__init__" = some (some (.builtin "object.__init__")))
  (kp9:keepIn K (.ref C9)=true)
  (hM:Meth K C1 "long" f48/\Meth K C3 "long" f49/\Meth K C4 "long" f50/\Meth K C6 "long" f54/\Meth K C7 "long" f55/\Meth K C8 "long" f51/\Meth K C9 "long" f52/\Meth K C11 "write" f1/\Meth K C11 "own" f2/\Meth K C11 "begin" f3/\Meth K C11 "settle" f4/\Meth K C11 "drop" f5/\Meth K C11 "see" f6/\Meth K C11 "saw" f7/\Meth K C11 "wrote" f8/\Meth K C12 "held_in" f17/\Meth K C12 "hold" f18/\Meth K C12 "box_at" f19/\Meth K C12 "do_put" f20/\Meth K C12 "sees_at" f21/\Meth K C12 "take_own" f22/\Meth K C12 "take_seen" f23/\Meth K C12 "row" f26/\Meth K C12 "is_stale" f27/\Meth K C12 "taker_layer" f28/\Meth K C12 "is_looked_over" f29/\Meth K C12 "see_next" f30/\Meth K C12 "go" f35/\Meth K C12 "go_plain" f31/\Meth K C12 "lead" f32/\Meth K C12 "throw" f34/\Meth K C12 "leave" f33/\Meth K C14 "state" f36/\Meth K C14 "new_run" f37/\Meth K C14 "begin_anew" f38/\Meth K C14 "fall_asleep" f39/\Meth K C14 "go_on" f40/\Meth K C15 "boxes" f82/\Meth K C15 "stamps" f83/\Meth K C15 "hand_at" f84/\Meth K C15 "state" f85/\Meth K C15 "which" f86/\Meth K C15 "slots" f87/\Meth K C15 "saw" f88/\Meth K C15 "journal" f89/\Meth K C15 "wake_stale" f90/\Meth K C15 "end_deed" f91/\Meth K C15 "lay_down" f92/\Meth K C15 "looked_over_told" f93/\Meth K C15 "turn" f94/\Meth K C10 "ahead" f65/\Meth K C10 "taken" f66/\Meth K C10 "pass_over" f67/\Meth K C10 "slot_taken" f68/\Meth K C10 "name_taken" f69/\Meth K C10 "number_taken" f70/\Meth K C10 "list_taken" f72/\Meth K C10 "side_taken" f73/\Meth K C10 "part_taken" f74/\Meth K C10 "either_taken" f75/\Meth K C10 "try_taken" f76/\Meth K C10 "plain_taken" f71/\True)
  (cf13:yuA K C13 "__init__" f16)
  (hG:Ns1 K "is_whole" f9/\Ns1 K "is_number" f10/\Ns1 K "is_made_of" f11/\Ns1 K "number_of" f12/\Ns1 K "is_slot" f13/\Ns1 K "slot_index" f14/\Ns1 K "is_name" f15/\Ns1 K "takes" f24/\Ns1 K "list_long" f53/\Ns1 K "plain_rows" f56/\Ns1 K "first_row" f57/\Ns1 K "rows_between" f58/\Ns1 K "list_rows" f59/\Ns1 K "part_rows" f60/\Ns1 K "sided_rows" f61/\Ns1 K "rows_of" f62/\Ns1 K "words_of" f64/\Ns1 K "read" f77/\Ns1 K "check_boxes" f78/\Ns1 K "rows_of_deeds" f79/\Ns1 K "rows_of_hands" f80/\Ns1 K "_law_cell_at" f95/\Ns1 K "_law_number_by" f96/\Ns1 K "_law_sleeper" f97/\Ns1 K "_law_sleeps" f98/\Ns1 K "_law_to_sleep" f99/\Ns1 K "_law_deed" f100/\Ns1 K "_law_run" f101/\Ns1 K "law" f102/\True)
  (hF:All2 (FB K) fT [(f0,d0),(f1,d1),(f2,d2),(f3,d3),(f4,d4),(f5,d5),(f6,d6),(f7,d7),(f8,d8),(f9,d9),(f10,d10),(f11,d11),(f12,d12),(f13,d13),(f14,d14),(f15,d15),(f16,d16),(f17,d17),(f18,d18),(f19,d19),(f20,d20),(f21,d21),(f22,d22),(f23,d23),(f24,d24),(f25,d25),(f26,d26),(f27,d27),(f28,d28),(f29,d29),(f30,d30),(f31,d31),(f32,d32),(f33,d33),(f34,d34),(f35,d35),(f36,d36),(f37,d37),(f38,d38),(f39,d39),(f40,d40),(f41,d41),(f42,d42),(f43,d43),(f44,d44),(f45,d45),(f46,d46),(f47,d47),(f48,d48),(f49,d49),(f50,d50),(f51,d51),(f52,d52),(f53,d53),(f54,d54),(f55,d55),(f56,d56),(f57,d57),(f58,d58),(f59,d59),(f60,d60),(f61,d61),(f62,d62),(f63,d63),(f64,d64),(f65,d65),(f66,d66),(f67,d67),(f68,d68),(f69,d69),(f70,d70),(f71,d71),(f72,d72),(f73,d73),(f74,d74),(f75,d75),(f76,d76),(f77,d77),(f78,d78),(f79,d79),(f80,d80),(f81,d81),(f82,d82),(f83,d83),(f84,d84),(f85,d85),(f86,d86),(f87,d87),(f88,d88),(f89,d89),(f90,d90),(f91,d91),(f92,d92),(f93,d93),(f94,d94),(f95,d95),(f96,d96),(f97,d97),(f98,d98),(f99,d99),(f100,d100),(f101,d101),(f102,d102)])
  (hN:(NoAttr K C11 "stack"/\True)/\(NoAttr K C11 "last_seen"/\True)/\(NoAttr K C12 "held"/\True)/\(NoAttr K C12 "width"/\NoAttr K C14 "width"/\True)/\(NoAttr K C12 "log"/\True)/\(NoAttr K C12 "rows"/\True)/\(NoAttr K C10 "at"/\NoAttr K C12 "at"/\True)/\(NoAttr K C12 "seen_stamps"/\True)/\(NoAttr K C12 "sides"/\True)/\(NoAttr K C14 "deeds"/\True)/\(NoAttr K C14 "nth"/\True)/\(NoAttr K C14 "sleeps"/\True)/\(NoAttr K C14 "before"/\True)/\(NoAttr K C14 "run"/\True)/\(NoAttr K C15 "numbers"/\True)/\(NoAttr K C15 "marks"/\True)/\(NoAttr K C15 "crew"/\True)/\(NoAttr K C15 "entries"/\True)/\(NoAttr K C10 "words"/\True)/\(NoAttr K C1 "slot"/\NoAttr K C3 "slot"/\NoAttr K C4 "slot"/\NoAttr K C7 "slot"/\NoAttr K C8 "slot"/\True)/\(NoAttr K C1 "number"/\True)/\(NoAttr K C3 "place"/\NoAttr K C4 "place"/\True)/\(NoAttr K C6 "parts"/\NoAttr K C7 "parts"/\True)/\(NoAttr K C6 "others"/\NoAttr K C7 "others"/\True)/\(NoAttr K C7 "name"/\NoAttr K C8 "name"/\True)/\True)
  (ty:AllP (TyR K) [C1,C2,C3,C4,C5,C6,C7,C8,C9])
  (sb:NSx K [] [C1,C2,C3,C4,C5,C6,C7,C8,C9])
  (hn:PySem.W.specialIn K (.builtin "object.__class__") "__get__" = some (some (.builtin "getset_descriptor.__get__")))
  (htk:PySem.W.takesIn K (.builtin "object.__class__")=some true)
  (hZ:AllP (fun b=>nsIn K mainGlobals b=some none) zT)
  (q1:nsIn K mainGlobals "FIGURES" = some (some (.str "0123456789" u1)))
  (q2:nsIn K mainGlobals "LETTERS" = some (some (.str "abcdefghijklmnopqrstuvwxyz" u2)))
  (q3:nsIn K mainGlobals "MOST_AROUND" = some (some (.int 8 u3)))
  (q4:nsIn K mainGlobals "MOST_BOXES" = some (some (.int 16 u4)))
  (q5:nsIn K mainGlobals "MOST_DEEDS" = some (some (.int 6 u5)))
  (q6:nsIn K mainGlobals "MOST_HANDS" = some (some (.int 8 u6)))
  (q7:nsIn K mainGlobals "MOST_ROWS" = some (some (.int 80 u7)))
  (q8:nsIn K mainGlobals "SLOTS" = some (some (.str "abcdefgh" u8)))
  (q9:nsIn K mainGlobals "WIDE" = some (some (.int 18446744073709551616 u9))) :
  ∃ fd:FuncData,(∀ (s:Shared) (v:Value),BindsTo s fd ⟨[v],[]⟩ [("_law_script",v)])/\∀ base:Heap,K.In base->base.Ns mainGlobals mg->FnOk l.prog w K mg base CX0 98 fa fd ["_law_script"] (yvr K):=by
 let t:Ads:=⟨fun k=>[C0,C1,C2,C3,C4,C5,C6,C7,C8,C9,C10,C11,C12,C13,C14,C15].getD k C0,fun n=>[(f0,d0),(f1,d1),(f2,d2),(f3,d3),(f4,d4),(f5,d5),(f6,d6),(f7,d7),(f8,d8),(f9,d9),(f10,d10),(f11,d11),(f12,d12),(f13,d13),(f14,d14),(f15,d15),(f16,d16),(f17,d17),(f18,d18),(f19,d19),(f20,d20),(f21,d21),(f22,d22),(f23,d23),(f24,d24),(f25,d25),(f26,d26),(f27,d27),(f28,d28),(f29,d29),(f30,d30),(f31,d31),(f32,d32),(f33,d33),(f34,d34),(f35,d35),(f36,d36),(f37,d37),(f38,d38),(f39,d39),(f40,d40),(f41,d41),(f42,d42),(f43,d43),(f44,d44),(f45,d45),(f46,d46),(f47,d47),(f48,d48),(f49,d49),(f50,d50),(f51,d51),(f52,d52),(f53,d53),(f54,d54),(f55,d55),(f56,d56),(f57,d57),(f58,d58),(f59,d59),(f60,d60),(f61,d61),(f62,d62),(f63,d63),(f64,d64),(f65,d65),(f66,d66),(f67,d67),(f68,d68),(f69,d69),(f70,d70),(f71,d71),(f72,d72),(f73,d73),(f74,d74),(f75,d75),(f76,d76),(f77,d77),(f78,d78),(f79,d79),(f80,d80),(f81,d81),(f82,d82),(f83,d83),(f84,d84),(f85,d85),(f86,d86),(f87,d87),(f88,d88),(f89,d89),(f90,d90),(f91,d91),(f92,d92),(f93,d93),(f94,d94),(f95,d95),(f96,d96),(f97,d97),(f98,d98),(f99,d99),(f100,d100),(f101,d101),(f102,d102)].getD n (f0,d0),u1,u2,u3,u4,u5,u6,u7,u8,u9⟩
 have CL:∀ k,Cls K (t.A k):=fun k=>AllP.get cl.1 cl k
 have FF:∀ n,FB K (fR n) (t.fl n):=fun n=>All2.get hF.1 hF n
 have hC:AllP (fun p:Str×Addr=>Ns1 K p.1 p.2) (cT.zip [C0,C1,C2,C3,C4,C5,C6,C7,C8,C9,C10,C11,C12,C13,C14,C15]):=hC
 have hG:AllP (fun r:Str×Nat=>Ns1 K r.1 (t.a r.2)) gT:=hG
 have hK:AllP (fun r:Nat×Nat=>Mk K (t.A r.1) (t.a r.2)) kT:=hK
 have hM:AllP (fun r:Nat×Str×Nat=>Meth K (t.A r.1) r.2.1 (t.a r.2.2)) mT:=hM
 have hN:AllP (fun r:Str×List Nat=>AllP (fun k=>NoAttr K (t.A k) r.1) r.2) nT:=hN
 have T:Txt K mg t:=⟨fun n=>(FF n).F,fun n=>(FF n).b,fun n=>mg_of X G (AllP.get (p:=fun r:Str×Nat=>Ns1 K r.1 (t.a r.2)) hG.1 hG n),fun n=>mg_of X G (zip_get hC rfl n),fun n=>AllP.get (p:=fun r:Nat×Nat=>Mk K (t.A r.1) (t.a r.2)) hK.1 hK n,fun n=>AllP.get (p:=fun r:Nat×Str×Nat=>Meth K (t.A r.1) r.2.1 (t.a r.2.2)) hM.1 hM n,mk0,io0,kp0,mk9,io9,kp9,cf13,CL,fun n k hk=>⟨CL k,(AllP.get (p:=fun r:Str×List Nat=>AllP (fun k=>NoAttr K (t.A k) r.1) r.2) hN.1 hN n).mem k hk⟩,yyX CL hn htk [1,2,3,4,5,6,7,8,9] ty sb,fun n=>PySem.W.mg_none_of X G (AllP.get (p:=fun b=>nsIn K mainGlobals b=some none) hZ.1 hZ n),mg_of X G q1,mg_of X G q2,mg_of X G q3,mg_of X G q4,mg_of X G q5,mg_of X G q6,mg_of X G q7,mg_of X G q8,mg_of X G q9⟩
 have e:=hfa.symm.trans (T.G 28)
 have e:fa=f102:=by injection e with e;injection e
 subst e
 refine ⟨d102,?_,fun base _ _=>(yCk T).imp (yCl T)⟩
 obtain ⟨_,_,_,_,_,_,_,_,_,e,_⟩:=(FF 102).F.ex
 have e:d102=_:=e
 subst e
 exact fun s v=>.of_eq rfl
theorem walk {l:PySem.W.OpenLaw}{q:Program}{loose:List Str}{XP:(Str->Option Value)->Heap->Prop}{YP:World->Heap->Prop}{d:DefRec}{K:Params->PySem.W.Frag}(hn:l.most=some 63) (hdf:d.params.defaults=[])
  (hY:∀ (w:World) (h:Heap),YP w h->(K w.params).In h)
  (F:∀ (w:World) (mg:Str->Option Value) (fa:Addr) (h:Heap),(K w.params).In h->h.Ns mainGlobals mg->mg d.name=some (.ref fa) ->
   ∃ fd:FuncData,(∀ (s:Shared) (u:Value),BindsTo s fd ⟨[u],[]⟩ [("_law_script",u)])/\∀ base:Heap,(K w.params).In base->base.Ns mainGlobals mg->FnOk l.prog w (K w.params) mg base CX0 98 fa fd ["_law_script"] (yvr (K w.params))) :
  PySem.W.WalkO q loose XP YP l.row.toRowW d [] (fun f vs=>PySem.call f vs) :=
 L2.walk_of (n:=63) (k:=98) (x:="_law_script") (CX:=fun _=>CX0) (sp:=fun w=>yvr (K w.params)) hn (by decide) hdf ⟨rfl,by decide,by decide⟩ hY F (fun _ _ a ns hl _ hS=>⟨a,ns,rfl,hS,hl,fun _=>rfl⟩) fun _ _ _ _ _ z=>z
end My
local macro_rules | `(tactic| walk_at "ka")=>`(tactic| first|exact True.intro|k_is|decide|((first|refine And.intro ?_ ?_|refine' L2.Cls.mk ?_ ?_ ?_ ?_|refine' My.TyR.mk ?_ ?_ ?_|refine' My.NS2.mk ?_ ?_)<;>walk_at "ka"))
local macro_rules | `(tactic| walk_at "kr")=>`(tactic| first|exact True.intro|(refine And.intro ?_ ?_<;>walk_at "kr")|walk_at "kx")
local macro_rules | `(tactic| walk_at "kx")=>`(tactic| first|(refine' L2.Meth.mk ?a ?b ?c;(case a=>k_is);(case b=>k_is);(case c=>k_is))|(refine' L2.Mk.mk ?a ?b ?c ?d;(case a=>k_is);(case b=>k_is);(case c=>k_is);(case d=>k_is))|(unfold L2.NoAttr;k_is)|(unfold My.Ns1;k_is)|k_is|(dsimp only;k_is))
local macro_rules | `(tactic| walk_at "kf")=>`(tactic| first|exact True.intro|(refine' And.intro (My.FB.of (L2.fun_mk ?a ?b ?c) ?d) ?e;(case a=>k_is);(case b=>k_is);(case c=>k_is);(case d=>first|exact L2.Binds.all (My.ml1 fun _=>rfl)|exact L2.Binds.all (My.ml2 fun _ _=>rfl)|exact L2.Binds.all (My.ml3 fun _ _ _=>rfl)|exact L2.Binds.all (My.ml4 fun _ _ _ _=>rfl)|exact L2.Binds.all (My.ml5 fun _ _ _ _ _=>rfl));(case e=>walk_at "kf")))
local macro_rules | `(tactic| walk_at "k4")=>`(tactic| (refine' ⟨?a,?b,?c,?d⟩;(case a=>k_is);(case b=>k_is);(case c=>k_is);(case d=>k_is)))
open PySem PySem.W PyProof.Rows
set_option maxRecDepth 100000 in
set_option maxHeartbeats 0 in
theorem PySem.Challenge.cw_retryhall_k24_sleep_and_wake_holds : PySem.Challenge.rw_retryhall_k24_sleep_and_wake.Holds := by
 refine hD_ ?_
 k_fill
 refine My.walk (l:=PySem.Challenge.rw_retryhall_k24_sleep_and_wake) rfl rfl (fun w h Y=>Y) ?F
 case F =>
  intro w mg fa h KX G hmg
  refine' My.all_mk KX G hmg ?hC ?cl ?hK ?mk0 ?io0 ?kp0 ?mk9 ?io9 ?kp9 ?hM ?cf13 ?hG ?hF ?hN ?ty ?sb ?hn ?htk ?hZ ?q1 ?q2 ?q3 ?q4 ?q5 ?q6 ?q7 ?q8 ?q9
  (case hC=>walk_at "kr")
  (case cl=>walk_at "ka")
  (case hK=>walk_at "kr")
  (case mk0=>k_is)
  (case io0=>k_is)
  (case kp0=>k_is)
  (case mk9=>k_is)
  (case io9=>k_is)
  (case kp9=>k_is)
  (case hM=>walk_at "kr")
  (case cf13=>walk_at "k4")
  (case hG=>walk_at "kr")
  (case hF=>walk_at "kf")
  (case hN=>walk_at "kr")
  (case ty=>walk_at "ka")
  (case sb=>walk_at "ka")
  (case hn=>k_is)
  (case htk=>k_is)
  (case hZ=>walk_at "kr")
  (case q1=>k_is)
  (case q2=>k_is)
  (case q3=>k_is)
  (case q4=>k_is)
  (case q5=>k_is)
  (case q6=>k_is)
  (case q7=>k_is)
  (case q8=>k_is)
  (case q9=>k_is)
