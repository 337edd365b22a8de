import PyProof.Rows.All
import Wide.All
import OpenK.KLine
import KE.KIntText
import KE.KIsAll
import KE.KItemsList
import KE.KRevIter
import KE.KSortTup
import KE.LcSums
import KE.KPairComp
import Wide.FinOn
import Lean
import PyProof.EqAt
import PyProof.EqKinds
import PyProof.TupleCall
import KE.KUnpack
import PySem.Challenge.RW_retryhall_k66_whole_begun_anew
set_option Elab.async false
set_option linter.all false
set_option maxRecDepth 100000
set_option maxHeartbeats 4000000
set_option compiler.extract_closed false
namespace My
open PySem PySem.W
def lvO:Obj->Option Obj
 |⟨_,_,.freed,_⟩=>none
 |o=>some o
abbrev PkO:=List (Nat×Option Obj)
noncomputable def pkO (l:List Obj):Nat->List Nat->PkO:=l.rec (motive:=fun _=>Nat->List Nat->PkO) (fun _ _=>[]) fun o _ f i t=>match t with|[]=>[]|a::t=>bif Nat.beq a i then (a,lvO o)::f (i+1) t else f (i+1) (a::t)
theorem pk_m:∀ {l:List Obj}{i t},∀ p∈pkO l i t,i<=p.1/\p.2=(l[p.1-i]?).bind lvO
 |[],_,_,_,h=>nomatch h
 |_::_,_,[],_,h=>nomatch h
 |o::l,i,a::t,p,h=>by
  have h:p∈bif Nat.beq a i then (a,lvO o)::pkO l (i+1) t else pkO l (i+1) (a::t):=h
  have H:∀ t,p∈pkO l (i+1) t->i<=p.1/\p.2=((o::l)[p.1-i]?).bind lvO:=fun t h=>by
   have u:=pk_m p h
   rw [show p.1-i=p.1-(i+1)+1 by omega]
   exact ⟨by omega,u.2⟩
  cases e:Nat.beq a i<;>rw [e] at h
  .exact H _ h
  .rcases List.mem_cons.mp h with rfl|h
   .cases Nat.eq_of_beq_eq_true e;simp
   .exact H _ h
noncomputable def kHk (K:Params->Frag) (t:List Nat):Hook:=⟨PkO,fun s=>pkO s.heap.objs.toList 0 t,fun w=>(K w.params).map fun p=>(p.1,some p.2),InK K,fun w s x a o e=>by
 obtain ⟨_,_,e,_⟩:=List.lookup_eq_some_iff.mp e
 have m:some o=_:=(pk_m (a,some o) (x ▸ List.mem_map.mpr ⟨(a,o),by simp [e],rfl⟩)).2
 rw [m]
 simp
 unfold Heap.get?
 cases s.heap.objs[a]? with
 |none=>rfl
 |some o=>obtain ⟨_,_,d,_⟩:=o;cases d<;>rfl,InK.keeps⟩
end My
local macro_rules|`(tactic|o_head $H)=>do
 let r:=H.raw[1]
 if r[0].getId.eraseMacroScopes != `kHook then Lean.Macro.throwUnsupported
 `(tactic|o_head (My.kHk $(⟨r[1][0]⟩) $(⟨r[1][1]⟩)))
namespace PySem.W.Fast
local macro_rules|`(command|universe $xs*)=>do return Lean.mkNullNode (<-(xs.flatMap fun x=>#[`hD_++x.getId,`PySem.Challenge++x.getId]).append ((Array.range 1437).map fun i=>`hD_++.mkSimple ("o_"++toString i)) |>.mapM fun n=>`(command|theorem $(Lean.mkIdent (.mkSimple ("tw"++toString n.hash))) : True:=True.intro))
universe heap_39 heap_46 heap_1437 tree_47 tree_70 tree_85 tree_100 tree_115 tree_130 tree_216 tree_280 tree_359 tree_368 tree_458 tree_516 tree_551 tree_587 tree_623 tree_659 tree_695 tree_731 tree_767 tree_803 tree_839 tree_889 tree_933 tree_1054 tree_1139 tree_1159 tree_1276 tree_1359 tree_1436 view_39 sts_49 sts_71 sts_86 sts_101 sts_116 sts_131 sts_217 sts_281 sts_360 sts_369 sts_459 sts_517 sts_552 sts_588 sts_624 sts_660 sts_696 sts_732 sts_768 sts_804 sts_840 sts_890 sts_934 sts_1143 sts_1160 sts_1363 env_41 pw_retryhall_k66_whole_begun_anew rw_retryhall_k66_whole_begun_anew
end PySem.W.Fast
set_option maxHeartbeats 0 in
open_top hD_ for PySem.Challenge.rw_retryhall_k66_whole_begun_anew
open PySem.W (fnOf findIn keepIn subIn codeIn nsIn isFn mg_of plainGet hasDictIn makesIn instObj typeIn emptyDict mroIn kia_one)
local macro_rules | `(tactic| rfl')=>`(tactic| decide +kernel)
open List (mem_cons_self mem_cons_of_mem mem_append_left getElem?_set_self getElem?_set_ne mem_append_right length_cons map_cons length_map append_nil of_mem_zip replicate length length_take getElem?_append_right getElem?_replicate getElem?_append_left getElem?_map mem_of_getElem? length_append map_nil length_drop size_toArray length_set any_cons getElem_of_mem map_append lookup_cons prefix_refl getElem?_eq_none length_zip find?_cons length_nil zip_cons_cons getD map_map toArray getElem_mem mem_cons getD_eq_getElem?_getD map_set append_assoc)
open Nat (lt_of_lt_of_le lt_irrefl ne_of_lt le_of_lt le_of_eq zero_le sub_self)
open Option (map_some isSome_map bind_some)
open Bool (and_eq_true)
open Int (zero_add)
open PySem.F (plainAttrs_list slot_list_pop type_list_pop)
noncomputable section
namespace L2
open PySem PySem.Spec PyProof.Rows
abbrev Key:=Sum Int Str
noncomputable def ymu:Key->Value->Bool
 | .inl k,v=>Value.isInt k v
 | .inr x,v=>Value.isStrOf x v
noncomputable def yFy (w:World):Key->Int
 | .inl k=>hashInt k
 | .inr x=>hashStr w x
theorem ybj:∀ {k:Key}{v:Value},ymu k v=true->(∃ i t,k=Sum.inl i/\v=Value.int i t)\/∃ x t,k=Sum.inr x/\v=Value.str x t
 | .inl i,v,h=>by
  obtain ⟨t,e⟩:=Value.isInt_shape h
  exact .inl ⟨i,t,rfl,e⟩
 | .inr x,v,h=>by
  obtain ⟨t,e⟩:=Value.isStrOf_shape h
  exact .inr ⟨x,t,rfl,e⟩
theorem ypB i t:ymu (.inl i) (.int i t)=true:=by simp [ymu,Value.isInt]
theorem ypC x t:ymu (.inr x) (.str x t)=true:=by simp [ymu,Value.isStrOf]
theorem yzF a b:decide ((Sum.inl a:Key)=Sum.inl b)=(a == b):=by
 grind
theorem yzG a b:decide ((Sum.inr a:Key)=Sum.inr b)=decide (a=b):=by
 simp_all
theorem yzH a b:decide ((Sum.inl a:Key)=Sum.inr b)=false:=decide_eq_false fun q=>nomatch q
theorem yzI a b:decide ((Sum.inr a:Key)=Sum.inl b)=false:=decide_eq_false fun q=>nomatch q
def ycD (prog:Program) (w:World):PySem.KeyKind prog w Key where
 is:=ymu
 hash:=yFy w
 inj:=fun v a b ha hb=>by
  rcases ybj ha with ⟨i,t,rfl,rfl⟩|⟨x,t,rfl,rfl⟩
  .rcases ybj hb with ⟨j,u,rfl,e⟩|⟨y,u,rfl,e⟩
   .injection e with e1 _;rw [e1]
   .exact nomatch e
  .rcases ybj hb with ⟨j,u,rfl,e⟩|⟨y,u,rfl,e⟩
   .exact nomatch e
   .injection e with e1 _;rw [e1]
 byValue:=fun k v h=>by
  rcases ybj h with ⟨i,t,rfl,rfl⟩|⟨x,t,rfl,rfl⟩<;>rfl
 pyHash:=fun hv h=>by
  rcases ybj hv with ⟨i,t,rfl,rfl⟩|⟨x,t,rfl,rfl⟩
  .exact wpAny_pyHash_int h
  .exact wpAny_pyHash_str h
 eqBool:=fun hu hv h=>by
  rcases ybj hu with ⟨i,t,rfl,rfl⟩|⟨x,t,rfl,rfl⟩
  .rcases ybj hv with ⟨j,u,rfl,rfl⟩|⟨y,u,rfl,rfl⟩
   .rw [yzF] at h;exact wpAny_eqBool_int h
   .rw [yzH] at h;exact SeqAt.EqAt.int_str i t y u _ _ _ _ h
  .rcases ybj hv with ⟨j,u,rfl,rfl⟩|⟨y,u,rfl,rfl⟩
   .rw [yzI] at h;exact SeqAt.EqAt.str_int x t j u _ _ _ _ h
   .rw [yzG] at h;exact wpAny_eqBool_str h
 «strs»:=fun k x t v h=>by
  rcases ybj h with ⟨i,u,rfl,e⟩|⟨y,u,rfl,e⟩
  .exact nomatch e
  .injection e with e1 _
   subst e1
   cases v<;>rfl
theorem ymv prog w i t:(ycD prog w).is (.inl i) (.int i t)=true:=ypB i t
theorem ymw prog w x t:(ycD prog w).is (.inr x) (.str x t)=true:=ypC x t
end L2
namespace L2
open PySem PySem.Spec PyProof.Rows
inductive V where
 | non|bl (b:Bool)|int (i:Int)|str (x:Str)|byt (b:Array UInt8)|flt (b:UInt64)|ref (a:Addr)|ty (n:String)
 deriving DecidableEq
noncomputable def RelV:V->Value->Prop
 | .non,u=>u=Value.none
 | .bl b,u=>u=Value.bool b
 | .int i,u=>∃ t,u=Value.int i t
 | .str x,u=>∃ t,u=Value.str x t
 | .byt b,u=>∃ t,u=Value.bytes b t
 | .flt b,u=>∃ t,u=Value.float b t
 | .ref a,u=>u=Value.ref a
 | .ty n,u=>u=Value.type n
abbrev Vals:List V->List Value->Prop:=Paired RelV
theorem Vals.length {xs:List V}{us:List Value}(r:Vals xs us):xs.length=us.length:=Paired.length r
theorem Vals.get:∀ {xs:List V}{us:List Value}{i:Nat}{x:V},Vals xs us->xs[i]?=some x->∃ u,us[i]?=some u/\RelV x u
 | _,_,_,_,.nil,e=>by simp at e
 | _,_,0,_,.cons r _,e=>by simp_all
 | _,_,i+1,x,.cons _ t,e=>by
  obtain ⟨u,h1,h2⟩:=Vals.get t (by simpa using e)
  grind
theorem Vals.set {x:V}{u:Value}(r:RelV x u):∀ {xs:List V}{us:List Value} i,Vals xs us->Vals (xs.set i x) (us.set i u)
 | _,_,_,.nil=>.nil
 | _,_,0,.cons _ t=>.cons r t
 | _,_,i+1,.cons q t=>.cons q (Vals.set r i t)
theorem Vals.append:∀ {xs ys:List V}{us ws:List Value},Vals xs us->Vals ys ws->Vals (xs++ys) (us++ws)
 | _,_,_,_,.nil,s=>s
 | _,_,_,_,.cons r t,s=>.cons r (Vals.append t s)
theorem Vals.take:∀ {xs:List V}{us:List Value} n,Vals xs us->Vals (xs.take n) (us.take n)
 | _,_,0,_=>.nil
 | _,_,_+1,.nil=>.nil
 | _,_,n+1,.cons r t=>.cons r (Vals.take n t)
theorem Vals.drop:∀ {xs:List V}{us:List Value} n,Vals xs us->Vals (xs.drop n) (us.drop n)
 | _,_,0,r=>r
 | _,_,_+1,.nil=>.nil
 | _,_,n+1,.cons _ t=>Vals.drop n t
def RelO:Option V->Option Value->Prop
 | some v,some u=>RelV v u
 | none,none=>True
 | _,_=>False
def KV {κ:Type}:List (κ×V)->List (κ×Value)->Prop:=Paired fun (p:κ×V) (q:κ×Value)=>p.1=q.1/\RelV p.2 q.2
noncomputable def kV:Key->V
 | .inl i=>.int i
 | .inr x=>.str x
inductive HO where
 | lst (xs:List V)
 | tup (xs:List V)
 | dK (kvs:List (Key×V))|dT (kvs:List (List Key×V))
 | set (S:Int->Bool) (n:Nat)
 | ins (C dx:Addr) (fs:List (Str×V))
 | own (x:Addr)
 | xd (fs:List (Str×V))
 | met (f x:Addr)
 | rng (lo hi:Int)
 | frz (o:Obj) (u:HO)
 | tbl (ps:Array Value)
 | ext (φ:Heap->Prop)
abbrev Hp:=Addr->Option HO
noncomputable def upd (H:Hp) (a:Addr) (o:HO):Hp:=fun b=>if b=a then some o else H b
theorem yB {H:Hp}{a:Addr}{o:HO}:upd H a o a=some o:=by unfold upd;rw [if_pos rfl]
theorem yI {H:Hp}{a b:Addr}{o:HO}(h:b≠a):upd H a o b=H b:=by unfold upd;rw [if_neg h]
theorem yCR {H:Hp}{a b:Addr}{o u:HO}(h:H a=some o) (h':H b=some u) (d:o≠u):a≠b:=by
 intro e;subst e;rw [h] at h';exact d (Option.some.inj h')
theorem ybr {H:Hp}{a b:Addr}{o:HO}(h:H a=some o) (h':H b=none):a≠b:=by
 grind
section
variable (P:Program) (w:World)
def ObjOk (H:Hp) (h:Heap) (a:Addr):HO->Prop
 | .lst xs=>xs.length<=sizeLine/\∃ (its:List Value) (n:Nat),Vals xs its/\h.get? a=some { cls:=.type "list",data:=.seq its.toArray n }
 | .tup xs=>xs.length<=sizeLine/\∃ its:List Value,Vals xs its/\IsTup h a its.toArray
 | .dK kvs=>kvs.length<=sizeLine/\(a == sysModules)=false/\∃ vs,KV kvs vs/\h.DictOf (ycD P w) a vs
 | .dT kvs=>kvs.length<=sizeLine/\(a == sysModules)=false/\∃ xs:List (List Key×Addr×Value),
   Paired (fun (p:List Key×V) (q:List Key×Addr×Value)=>p.1=q.1/\H q.2.1=some (.tup (p.1.map kV))/\RelV p.2 q.2.2) kvs xs /\
   ∃ o es ep,h.get? a=some o/\o.ExactDict/\o.data=.dict es ep/\es.toList=xs.map (entryOfKey (tupleKind (ycD P w)))/\(xs.map (·.1)).Nodup
 | .set S n=>h.SetOf (intKind P w) a S n
 | .ins C dx fs=>H dx=some (.own a)/\fs.length<=1000/\dx≠a/\h.get? a=some (instObj C dx) /\
   ∃ mA,h.Ns1 dx mA/\(∀ f,RelO (fs.lookup f) (mA f))/\PySem.Within mA (fs.map (·.1))
 | .own _=>∃ o,h.get? a=some o
 | .xd fs=>∃ mA,h.Ns1 a mA/\∀ f,RelO (fs.lookup f) (mA f)
 | .rng lo hi=>∃ t u v,h.get? a=some { cls:=.type "range",data:=.fields #[.int lo t,.int hi u,.int 1 v] }
 | .frz o u=>h.get? a=some o/\ObjOk H h a u
 | .tbl ps=>h.get? a=some { cls:=.none,data:=.fields ps }
 | .met f x=>h.get? a=some (PySem.W.methodObj (.ref f) (.ref x))
 | .ext φ=>φ h/\(∃ o,h.get? a=some o)/\∀ h1 h2:Heap,φ h1->(∀ o,h1.get? a=some o->h2.get? a=some o)->φ h2
def HOk (H:Hp) (h:Heap):Prop:=∀ a o,H a=some o->ObjOk P w H h a o
end
section
variable {P:Program}{w:World}{H H':Hp}{h h':Heap}{a:Addr}{o:HO}
theorem ObjOk.lt (x:ObjOk P w H h a o):a<h.objs.size:=by
 cases o with
 | lst xs=>obtain ⟨_,_,_,_,e⟩:=x;exact Heap.lt_size e
 | tup xs=>obtain ⟨_,_,_,p⟩:=x;exact p.lt
 | dK kvs=>obtain ⟨_,_,_,_,o,_,_,e,_⟩:=x;exact Heap.lt_size e
 | dT kvs=>obtain ⟨_,_,_,_,o,_,_,e,_⟩:=x;exact Heap.lt_size e
 | set S n=>obtain ⟨o,_,_,_,e,_⟩:=x;exact Heap.lt_size e
 | ins C dx fs=>obtain ⟨_,_,_,e,_⟩:=x;exact Heap.lt_size e
 | own y=>obtain ⟨_,e⟩:=x;exact Heap.lt_size e
 | xd fs=>obtain ⟨_,⟨_,_,_,e,_⟩,_⟩:=x;exact Heap.lt_size e
 | rng lo hi=>obtain ⟨_,_,_,e⟩:=x;exact Heap.lt_size e
 | frz ob u=>obtain ⟨e,_⟩:=x;exact Heap.lt_size e
 | tbl ps=>exact Heap.lt_size (x)
 | met f y=>exact Heap.lt_size (x)
 | ext φ=>obtain ⟨_,⟨_,e⟩,_⟩:=x;exact Heap.lt_size e
theorem Paired.mapP {α d:Type}{F G:α->d->Prop}:∀ {l₁:List α}{l₂:List d},Paired F l₁ l₂->(∀ a b,F a b->G a b)->Paired G l₁ l₂
 | _,_,.nil,_=>.nil
 | _,_,.cons r t,f=>.cons (f _ _ r) (Paired.mapP t f)
theorem ObjOk.stay (x:ObjOk P w H h a o) (k:∀ b u,b=a\/H b=some (.own a)->h.get? b=some u->h'.get? b=some u)
  (l:∀ b,H b=some (.own a)->H' b=some (.own a)) (m:∀ b xs,H b=some (.tup xs)->H' b=some (.tup xs)):ObjOk P w H' h' a o:=by
 induction o with
 | lst xs=>obtain ⟨z,its,n,r,e⟩:=x;exact ⟨z,its,n,r,k _ _ (.inl rfl) e⟩
 | tup xs=>obtain ⟨z,its,r,ob,e,c⟩:=x;exact ⟨z,its,r,ob,k _ _ (.inl rfl) e,c⟩
 | dK kvs=>obtain ⟨z,y,vs,r,ob,es,ep,e,c⟩:=x;exact ⟨z,y,vs,r,ob,es,ep,k _ _ (.inl rfl) e,c⟩
 | dT kvs =>
  obtain ⟨z,y,xs,r,ob,es,ep,e,c⟩:=x
  exact ⟨z,y,xs,Paired.mapP r fun p q z=>⟨z.1,m _ _ z.2.1,z.2.2⟩,ob,es,ep,k _ _ (.inl rfl) e,c⟩
 | set S n=>obtain ⟨ob,es,ep,t,e,c⟩:=x;exact ⟨ob,es,ep,t,k _ _ (.inl rfl) e,c⟩
 | ins C dx fs =>
  obtain ⟨d,z,j,e,i,⟨od,es,ep,s,c⟩,r⟩:=x
  exact ⟨l _ d,z,j,k _ _ (.inl rfl) e,i,⟨od,es,ep,k _ _ (.inr d) s,c⟩,r⟩
 | own y=>obtain ⟨ob,e⟩:=x;exact ⟨ob,k _ _ (.inl rfl) e⟩
 | xd fs=>obtain ⟨i,⟨od,es,ep,e,c⟩,r⟩:=x;exact ⟨i,⟨od,es,ep,k _ _ (.inl rfl) e,c⟩,r⟩
 | rng lo hi=>obtain ⟨t,u,v,e⟩:=x;exact ⟨t,u,v,k _ _ (.inl rfl) e⟩
 | frz ob u ih=>obtain ⟨e,q⟩:=x;exact ⟨k _ _ (.inl rfl) e,ih q⟩
 | tbl ps =>
  have e:=x
  exact k a _ (.inl rfl) e
 | met f y =>
  have e:=x
  exact k a _ (.inl rfl) e
 | ext φ=>obtain ⟨p,⟨o,e⟩,st⟩:=x;exact ⟨st _ _ p fun o q=>k _ _ (.inl rfl) q,⟨o,k _ _ (.inl rfl) e⟩,st⟩
theorem HOk.lt (x:HOk P w H h) (e:H a=some o):a<h.objs.size:=(x a o e).lt
theorem HOk.fresh (x:HOk P w H h) (e:h.objs.size<=a):H a=none:=by
 cases q:H a with
 | none=>rfl
 | some u=>exact absurd (lt_of_lt_of_le (x.lt q) e) (lt_irrefl _)
theorem HOk.kept (x:HOk P w H h) (k:∀ b u,h.get? b=some u->h'.get? b=some u):HOk P w H h':=fun a o e =>
 (x a o e).stay (fun b u _ q=>k b u q) (fun _ q=>q) fun _ _ q=>q
theorem HOk.laid (x:HOk P w H h) (k:∀ b u,h.get? b=some u->h'.get? b=some u) (hp:h.objs.size<=a) (f:ObjOk P w (upd H a o) h' a o):HOk P w (upd H a o) h':=fun b u e=>by
 have g:=x.fresh hp
 by_cases i:b=a
 .subst i;rw [yB] at e;cases e;exact f
 .rw [yI i] at e
  exact (x b u e).stay (fun c v _ q=>k c v q) (fun c q=>by rw [yI (ybr q g)];exact q) fun c xs q=>by rw [yI (ybr q g)];exact q
end
noncomputable def Rd (H:Hp) (a:Addr) (u:HO):Prop:=H a=some u\/∃ o,H a=some (.frz o u)
theorem Rd.ok {P:Program}{w:World}{H:Hp}{h:Heap}{a:Addr}{u:HO}(r:Rd H a u) (x:HOk P w H h):ObjOk P w H h a u:=by
 rcases r with r|⟨o,r⟩
 .exact x a u r
 .obtain ⟨_,q⟩:=x a _ r
  exact q
noncomputable def Mut:Option HO->Prop
 | some (.lst _)=>True
 | some (.dK _)=>True
 | some (.dT _)=>True
 | some (.set _ _)=>True
 | some (.ins _ _ _)=>True
 | some (.ext _)=>True
 | _=>False
section
variable {P:Program}{w:World}{H:Hp}{h h':Heap}{x e:Addr}{o':HO}
theorem HOk.write (p:HOk P w H h) (g:Mut (H x)) (t:e=x\/H e=some (.own x)) (k:∀ b u,b≠e->h.get? b=some u->h'.get? b=some u) (l:∃ u,h'.get? e=some u)
  (i:ObjOk P w (upd H x o') h' x o'):HOk P w (upd H x o') h':=fun b u q=>by
 have f:∀ c y,H c=some (.own y)->c≠x:=fun c y r z=>by subst z;rw [r] at g;exact g
 have d:∀ c xs,H c=some (.tup xs)->c≠x:=fun c xs r z=>by subst z;rw [r] at g;exact g
 by_cases m:b=x
 .subst m;rw [yB] at q;cases q;exact i
 .rw [yI m] at q
  by_cases j:b=e
  .have n:H b=some (.own x):=by
    grind
   rw [q] at n;cases n
   obtain ⟨v,o⟩:=l
   exact ⟨v,by rw [j];exact o⟩
  .refine (p b u q).stay (fun c v s r=>k c v ?_ r) (fun c r=>by rw [yI (f c b r)];exact r) fun c xs r=>by rw [yI (d c xs r)];exact r
   grind
end
structure Un (fs ex:List Addr) (H H':Hp) (h h':Heap):Prop where
 keep:∀ b o,h.get? b=some o->H b=none->b∉fs->b∉ex->h'.get? b=some o
 slot:∀ b o,h.get? b=some o->H b=none->b∈fs->b∉ex->∃ sl,h'.get? b=some { o with slots:=sl }
 free:∀ b o,h.get? b=some o->H b=none->b∉ex->H' b=none
 there:∀ b o,h.get? b=some o->b∉ex->∃ o',h'.get? b=some o'
 tups:∀ b xs,H b=some (.tup xs)->H' b=some (.tup xs)
 frzs:∀ b o u,H b=some (.frz o u)->H' b=some (.frz o u)
 tbls:∀ b ps,H b=some (.tbl ps)->∃ more,H' b=some (.tbl (ps++more))
section
variable {fs fs' ex ex':List Addr}{H H1 H2:Hp}{h h1 h2 h':Heap}{a x e:Addr}{o:HO}
theorem Un.any (u:Un fs ex H H1 h h1) {b:Addr}{c:Obj}(q:h.get? b=some c) (n:H b=none) (f:b∉ex):∃ sl,h1.get? b=some { c with slots:=sl }:=by
 by_cases d:b∈fs
 .exact u.slot b c q n d f
 .exact ⟨c.slots,u.keep b c q n d f⟩
theorem Un.kept (k:∀ b u,h.get? b=some u->h'.get? b=some u):Un fs ex H H h h' :=
 ⟨fun b c q _ _ _=>k b c q,fun b c q _ _ _=>⟨c.slots,k b c q⟩,fun _ _ _ n _=>n,fun b c q _=>⟨c,k b c q⟩,fun _ _ q=>q,fun _ _ _ q=>q,fun _ ps q=>⟨#[],by rw [q];simp⟩⟩
theorem Un.refl:Un fs ex H H h h:=Un.kept fun _ _ q=>q
theorem Un.laid (k:∀ b u,h.get? b=some u->h'.get? b=some u) (hp:h.objs.size<=a) (d:H a=none):Un fs ex H (upd H a o) h h' where
 keep:=fun b u q _ _ _=>k b u q
 slot:=fun b u q _ _ _=>⟨u.slots,k b u q⟩
 free:=fun b u q n _=>by rw [yI (ne_of_lt (lt_of_lt_of_le (Heap.lt_size q) hp))];exact n
 there:=fun b u q _=>⟨u,k b u q⟩
 tups:=fun b xs q=>by rw [yI (ybr q d)];exact q
 frzs:=fun b u xs q=>by rw [yI (ybr q d)];exact q
 tbls:=fun b ps q=>⟨#[],by rw [yI (ybr q d),q];simp⟩
theorem Un.write (f:Mut (H x)) (l:e=x\/H e=some (.own x)) (k:∀ b u,b≠e->h.get? b=some u->h'.get? b=some u) (i:∃ u,h'.get? e=some u):Un fs ex H (upd H x o) h h':=by
 have j:∀ b,H b=none->b≠x:=fun b n z=>by subst z;rw [n] at f;exact f
 have g:∀ b,H b=none->b≠e:=fun b n z=>by
  grind
 have d:∀ b u,H b=some u->¬ Mut (some u)->b≠x:=fun b u q nm z=>by simp_all
 refine ⟨fun b u q n _ _=>k b u (g b n) q,fun b u q n _ _=>⟨u.slots,k b u (g b n) q⟩,fun b u q n _=>by rw [yI (j b n)];exact n,fun b u q _=>?_,
  fun b xs q=>by rw [yI (d b _ q fun z=>z)];exact q,fun b u xs q=>by rw [yI (d b _ q fun z=>z)];exact q,fun b ps q=>⟨#[],by rw [yI (d b _ q fun z=>z),q];simp⟩⟩
 grind
end
noncomputable def trk (h:Heap) (H:Hp):List Addr:=(List.range h.objs.size).filter fun a=>(H a).isSome
def ysS (h:Heap) (H:Hp):Heap:=PySem.W.hideAll h (trk h H)
theorem ypD h H:(ysS h H).objs.size=h.objs.size:=PySem.W.hideAll_size _ _
theorem ysT {h:Heap}{H:Hp}{b:Addr}{o:Obj}(e:h.get? b=some o) (n:H b=none):(ysS h H).get? b=some o :=
 PySem.W.hideAll_get _ e fun c=>by
  have q:=(List.mem_filter.mp c).2
  grind
theorem ywL {h:Heap}{H:Hp}{b:Addr}{o:Obj}(e:(ysS h H).get? b=some o):h.get? b=some o/\H b=none:=by
 have c:=PySem.W.of_hideAll _ e
 refine ⟨c,?_⟩
 cases q:H b with
 | none=>rfl
 | some x =>
  have d:b∈trk h H:=List.mem_filter.mpr ⟨List.mem_range.mpr (Heap.lt_size c),by simp [q]⟩
  have z:(ysS h H).get? b=none:=PySem.W.hideAll_none _ d
  rw [z] at e;cases e
noncomputable def ywM (g h:Heap) (L:Addr):List (Addr×Obj):=(List.range h.objs.size).filterMap fun a=>if a=L\/(g.get? a).isSome=true then none else (h.get? a).map fun o=>(a,o)
def rest (g h:Heap) (L d:Addr):List (Addr×Obj):=(ywM g h L).filter fun p=>decide (p.1≠d)
end L2
namespace L2
open PySem PySem.Spec PyProof.Rows
structure Mod (K:PySem.W.Frag) (mg:Str->Option Value) (base:Heap):Prop where
 kin:K.In base
 glob:base.Ns mainGlobals mg
 blt:∃ mb,base.Ns builtinsNs mb/\∀ x:Str,x≠"__name__"->mb x=bootBuiltins x
 nolimit:base.NoLimit
structure Cx where
 prog:Program
 w:World
 K:PySem.W.Frag
 mg:Str->Option Value
 base:Heap
 A:Around
 N:List Str
 s₀:Shared
 H₀:Hp
 env:Env
 outer:List Env
 stack:List Env
 ex:List Addr
 fn:Str->Bool
 calm:Bool
 pn:List (Addr×Obj)
 xe:Value->Shared->Prop
noncomputable def frs (l:List Env):List Addr:=l.filterMap (·.frame)
abbrev Cx.fs (X:Cx):List Addr:=frs X.outer
noncomputable def Vis (sc:Scope) (x:Str):Prop:=sc.names.lookup x=some .local \/ sc.names.lookup x=some .cell\/sc.names.lookup x=some .free
noncomputable def Loc (sc:Scope) (x:Str):Prop:=sc.names.lookup x=some .local \/ sc.names.lookup x=some .cell
noncomputable def Look (env:Env) (h:Heap) (m:Str->Option Value) (x:Str) (u:Value):Prop :=
 (env.kindOf x=some .local/\m x=some u)\/((env.kindOf x=some .cell\/env.kindOf x=some .free)/\∃ c,env.cells.lookup x=some c/\h.IsCell c (some u))
structure Cx.Ok (X:Cx):Prop where
 mod:Mod X.K X.mg X.base
 kind:X.env.scope.kind=.function
 glob:X.env.globals=mainGlobals
 blt:X.env.builtins=builtinsNs
 above:X.s₀.heap.objs.size<=X.env.locals
 inj:∀ x y c,X.env.cells.lookup x=some c->X.env.cells.lookup y=some c->x=y
 has:∀ x,(X.env.kindOf x=some .cell\/X.env.kindOf x=some .free)->∃ c,X.env.cells.lookup x=some c
 cab:∀ x c,X.fn x=true->X.env.cells.lookup x=some c->X.s₀.heap.objs.size<=c
 hd:X.calm=true->X.A.handled=none
 frames:X.A.frames=some X.stack
 stk:X.stack=X.outer\/(X.stack=X.env::X.outer/\X.env.frame=some X.env.locals)
 exf:∀ b∈X.ex,b≠X.env.locals/\∀ x c,X.env.cells.lookup x=some c->c≠b
 bs:∀ b o,X.base.get? b=some o->X.s₀.heap.get? b=some o/\X.H₀ b=none
 bsz:X.base.objs.size<=X.s₀.heap.objs.size
 noex:∀ b o,X.base.get? b=some o->b∉X.ex
 exfs:∀ b∈X.ex,b∉X.fs
 funs:X.s₀.heap.FunFrames X.base X.outer
 frf:∀ b∈X.fs,X.H₀ b=none
structure Inv (X:Cx) (pins:List (Addr×Obj)) (σ:List (Option V)) (H:Hp) (s:Shared):Prop where
 ok:X.Ok
 os:s.os=X.s₀.os
 bare:AllBare s.gens
 base:Un X.fs X.ex X.H₀ H X.s₀.heap s.heap
 loc:∃ m,s.heap.Ns X.env.locals m/\∀ (i:Nat) (x:Str) (v:V),X.N[i]?=some x->σ[i]?=some (some v)->Vis X.env.scope x->∃ u,RelV v u/\Look X.env s.heap m x u
 cell:∀ x c,X.env.cells.lookup x=some c->∃ v,s.heap.IsCell c v
 free:H X.env.locals=none
 freeC:∀ x c,X.env.cells.lookup x=some c->H c=none
 pin:∀ p∈X.pn++pins,s.heap.get? p.1=some p.2/\H p.1=none/\p.1≠X.env.locals/\p.1∉X.fs/\∀ v,p.2.data≠.cell v
 hok:HOk X.prog X.w H s.heap
 len:σ.length=X.N.length
section
variable {X:Cx}{pins:List (Addr×Obj)}{σ:List (Option V)}{H H':Hp}{s:Shared}{h':Heap}
theorem Cx.Ok.nofr (c:X.Ok) {b:Addr}{o:Obj}(e:X.base.get? b=some o):b∉X.fs:=fun a=>by
 have:=(c.funs.mem a).1
 simp_all
theorem Inv.bs (I:Inv X pins σ H s):∀ b o,X.base.get? b=some o->s.heap.get? b=some o/\H b=none:=fun b o e =>
 ⟨I.base.keep b o (I.ok.bs b o e).1 (I.ok.bs b o e).2 (I.ok.nofr e) (I.ok.noex b o e),I.base.free b o (I.ok.bs b o e).1 (I.ok.bs b o e).2 (I.ok.noex b o e)⟩
theorem Inv.bk (I:Inv X pins σ H s):∀ b o,X.base.get? b=some o->s.heap.get? b=some o:=fun b o e=>(I.bs b o e).1
theorem Inv.mod (I:Inv X pins σ H s):Mod X.K X.mg X.base:=I.ok.mod
theorem Inv.kIn (I:Inv X pins σ H s):X.K.In s.heap:=I.ok.mod.kin.keeps I.bk
theorem Inv.lt (I:Inv X pins σ H s):X.env.locals<s.heap.objs.size:=let ⟨_,a,_⟩:=I.loc;a.lt
theorem Inv.sz (I:Inv X pins σ H s):X.s₀.heap.objs.size<=s.heap.objs.size:=Nat.le_trans I.ok.above (le_of_lt I.lt)
theorem Inv.nofs (I:Inv X pins σ H s) {a:Addr}(h:s.heap.objs.size<=a):a∉X.fs:=fun b=>by
 obtain ⟨_,o,c,_⟩:=I.ok.funs.mem b
 exact absurd (lt_of_lt_of_le (Heap.lt_size c) (Nat.le_trans I.sz h)) (lt_irrefl _)
theorem Inv.cne (I:Inv X pins σ H s):∀ x c,X.env.cells.lookup x=some c->c≠X.env.locals:=fun x c e z=>by
 obtain ⟨v,o,d,g⟩:=I.cell x c e
 obtain ⟨m,⟨f,es,ep,a,b,_⟩,_⟩:=I.loc
 grind
theorem Inv.funs (I:Inv X pins σ H s):s.heap.FunFrames X.base X.outer:=by
 have a:∀ l,(∀ b∈frs l,b∈X.fs)->X.s₀.heap.FunFrames X.base l->s.heap.FunFrames X.base l:=by
  intro l
  induction l with
  | nil=>intro _ _;trivial
  | cons env r ih =>
   intro hs hl
   obtain ⟨i,⟨L,o,f,j,h,g⟩,k⟩:=hl
   have c:=hs L (by unfold frs;grind)
   obtain ⟨sl,e⟩:=I.base.slot L o h (I.ok.frf L c) c fun z=>I.ok.exfs L z c
   exact ⟨i,⟨L,_,f,j,e,g⟩,ih (fun b d=>hs b (by unfold frs;rw [List.filterMap_cons,f];exact mem_cons_of_mem _ d)) k⟩
 exact a X.outer (fun _ d=>d) I.ok.funs
theorem Inv.stack (I:Inv X pins σ H s):s.heap.FunFrames X.base X.stack:=by
 rcases I.ok.stk with e|⟨e,b⟩
 .rw [e];exact I.funs
 .rw [e]
  obtain ⟨m,a,_⟩:=I.loc
  exact .cons (by rw [I.ok.kind];decide) b a (Heap.get?_none_of_le (Nat.le_trans I.ok.bsz I.ok.above)) I.funs
theorem Inv.stkSub (I:Inv X pins σ H s):∀ b∈frs X.stack,b∈X.env.locals::X.fs:=fun b a=>by
 rcases I.ok.stk with e|⟨e,c⟩
 .simp_all
 .rw [e] at a
  unfold frs at a
  rw [List.filterMap_cons,c] at a
  exact a
theorem Inv.stkFree (I:Inv X pins σ H s):∀ b∈frs X.stack,H b=none:=fun b a=>by
 rcases mem_cons.mp (I.stkSub b a) with e|a
 .rw [e];exact I.free
 .obtain ⟨_,o,c,_⟩:=I.ok.funs.mem a
  exact I.base.free b o c (I.ok.frf b a) fun z=>I.ok.exfs b z a
theorem Inv.step {g':Array GenState}{t':Nat}{d':Drawn}{ch:List Addr}(I:Inv X pins σ H s)
  (j:∀ b∈ch,(b∈X.ex\/X.s₀.heap.objs.size<=b)/\b≠X.env.locals/\(∀ x c,X.env.cells.lookup x=some c->c≠b)/\∀ p∈X.pn++pins,p.1≠b)
  (t:∀ b o,b≠X.env.locals->b∉X.fs->b∉ch->s.heap.get? b=some o->H b=none->h'.get? b=some o)
  (y:∀ b o,b≠X.env.locals->b∈X.fs->b∉ch->s.heap.get? b=some o->H b=none->∃ sl,h'.get? b=some { o with slots:=sl }) (f:∀ b o,b∉ch->s.heap.get? b=some o->H b=none->H' b=none)
  (B:∀ b o,b∉ch->s.heap.get? b=some o->∃ J,h'.get? b=some J)
  (D:∀ b xs,H b=some (.tup xs)->H' b=some (.tup xs)) (E:∀ b o u,H b=some (.frz o u)->H' b=some (.frz o u)) (Q:∀ b ps,H b=some (.tbl ps)->∃ L,H' b=some (.tbl (ps++L)))
  (ns:∀ m,s.heap.Ns X.env.locals m->h'.Ns X.env.locals m) (M:HOk X.prog X.w H' h') (S:AllBare g') :
  Inv X pins σ H' { s with heap:=h',gens:=g',drawn:=d',toks:=t' }:=by
 have G:∀ b o,X.s₀.heap.get? b=some o->b≠X.env.locals:=fun b o e=>ne_of_lt (lt_of_lt_of_le (Heap.lt_size e) I.ok.above)
 have h:∀ b o,X.s₀.heap.get? b=some o->b∉X.ex->b∉ch:=fun b o e a A=>by
  rcases (j b A).1 with z|z
  .exact a z
  .exact absurd (lt_of_lt_of_le (Heap.lt_size e) z) (lt_irrefl _)
 have g:∀ x c,X.env.cells.lookup x=some c->∀ v,s.heap.IsCell c v->h'.IsCell c v:=fun x c e v ⟨o,C,P⟩=>by
  have F:c∉ch:=fun z=>(j c z).2.2.1 x c e rfl
  by_cases R:c∈X.fs
  .obtain ⟨sl,q⟩:=y c o (I.cne x c e) R F C (I.freeC x c e)
   exact ⟨_,q,P⟩
  .exact ⟨o,t c o (I.cne x c e) R F C (I.freeC x c e),P⟩
 refine ⟨I.ok,I.os,S,⟨fun b o e n A a=>?_,fun b o e n A a=>?_,fun b o e n a=>?_,fun b o e a=>?_,fun b xs e=>D b xs (I.base.tups b xs e),fun b o xs e=>E b o xs (I.base.frzs b o xs e),fun b ps e=>?_⟩,?_,fun x c e=>?_,?_,fun x c e=>?_,fun p hp=>?_,M,I.len⟩
 .exact t b o (G b o e) A (h b o e a) (I.base.keep b o e n A a) (I.base.free b o e n a)
 .obtain ⟨sl,w⟩:=I.base.slot b o e n A a
  obtain ⟨O,N⟩:=y b _ (G b o e) A (h b o e a) w (I.base.free b o e n a)
  exact ⟨O,N⟩
 .obtain ⟨J,w⟩:=I.base.there b o e a
  exact f b J (h b o e a) w (I.base.free b o e n a)
 .obtain ⟨J,w⟩:=I.base.there b o e a
  exact B b J (h b o e a) w
 .obtain ⟨Y,w⟩:=I.base.tbls b ps e
  grind
 .obtain ⟨m,U,hl⟩:=I.loc
  refine ⟨m,ns m U,fun i x v w N T=>?_⟩
  obtain ⟨u,r,l⟩:=hl i x v w N T
  refine ⟨u,r,?_⟩
  rcases l with l|⟨k,c,e,z⟩
  .exact .inl l
  .exact .inr ⟨k,c,e,g x c e _ z⟩
 .obtain ⟨v,z⟩:=I.cell x c e
  exact ⟨v,g x c e v z⟩
 .obtain ⟨m,⟨o,_,_,C,_⟩,_⟩:=I.loc
  exact f _ o (fun z=>(j _ z).2.1 rfl) C I.free
 .obtain ⟨v,o,C,P⟩:=I.cell x c e
  exact f c o (fun z=>(j c z).2.2.1 x c e rfl) C (I.freeC x c e)
 .obtain ⟨e,n,W,Z,d⟩:=I.pin p hp
  grind
theorem Inv.un {t':Nat}(I:Inv X pins σ H s) (u:Un X.fs [] H H' s.heap h') (f:HOk X.prog X.w H' h'):Inv X pins σ H' { s with heap:=h',toks:=t' }:=by
 obtain ⟨m,⟨o,es,ep,h,r⟩,_⟩:=id I.loc
 obtain ⟨sl,k⟩:=u.any h I.free (by simp)
 exact I.step (ch:=[]) (fun _ z=>nomatch z) (fun b o _ g _ e n=>u.keep b o e n g (by simp)) (fun b o _ g _ e n=>u.slot b o e n g (by simp)) (fun b o _ e n=>u.free b o e n (by simp)) (fun b o _ e=>u.there b o e (by simp)) u.tups u.frzs u.tbls (fun m' j=>by
  obtain ⟨l,c,d,a,i⟩:=j
  rw [h] at a;cases a
  exact ⟨_,c,d,k,i⟩) f I.bare
theorem Inv.call {g':Array GenState}{t':Nat}{d':Drawn}{ch:List Addr}(I:Inv X pins σ H s) (u:Un (frs X.stack) ch H H' s.heap h') (i:HOk X.prog X.w H' h') (v:AllBare g')
  (f:∀ b∈ch,(b∈X.ex\/X.s₀.heap.objs.size<=b)/\b≠X.env.locals/\(∀ x c,X.env.cells.lookup x=some c->c≠b)/\∀ p∈X.pn++pins,p.1≠b) :
  Inv X pins σ H' { s with heap:=h',gens:=g',drawn:=d',toks:=t' }:=by
 obtain ⟨m,⟨o,es,ep,k,r⟩,_⟩:=id I.loc
 obtain ⟨sl,j⟩:=u.any k I.free fun z=>(f _ z).2.1 rfl
 exact I.step f (fun b o j l a e n=>u.keep b o e n (fun z=>(mem_cons.mp (I.stkSub b z)).elim j l) a) (fun b o _ _ a e n=>u.any e n a) (fun b o a e n=>u.free b o e n a) (fun b o a e=>u.there b o e a) u.tups u.frzs u.tbls (fun m' q=>by
  obtain ⟨w,g,h,d,t⟩:=q
  rw [k] at d;cases d
  exact ⟨_,g,h,j,t⟩) i v
theorem Inv.turned {t':Nat}{a:Addr}(I:Inv X pins σ H s) (k:∀ b o,b≠a->s.heap.get? b=some o->h'.get? b=some o) (j:H a=none) (f:a≠X.env.locals)
  (h1:a∈X.ex\/X.s₀.heap.objs.size<=a) (h2:∀ x c,X.env.cells.lookup x=some c->c≠a) (l:∀ p∈X.pn++pins,p.1≠a):Inv X pins σ H { s with heap:=h',toks:=t' }:=by
 have i:∀ b u,H b=some u->b≠a:=fun b u e z=>by grind
 refine I.step (ch:=[a]) (fun b t=>?_) (fun b o _ _ d e _=>k b o (fun z=>d (by simp [z])) e) (fun b o _ _ d e _=>⟨o.slots,k b o (fun z=>d (by simp [z])) e⟩) (fun _ _ _ _ n=>n)
  (fun b o d e=>⟨o,k b o (fun z=>d (by simp [z])) e⟩) (fun _ _ e=>e) (fun _ _ _ e=>e) (fun b ps e=>⟨#[],by rw [e];simp⟩) (fun m h=>?_) (fun b u e=>?_) I.bare
 .grind
 .obtain ⟨o,es,ep,g,r⟩:=h
  exact ⟨o,es,ep,k _ o (Ne.symm f) g,r⟩
 .refine (I.hok b u e).stay (fun c v d q=>k c v ?_ q) (fun _ q=>q) fun _ _ q=>q
  grind
theorem Inv.tok (I:Inv X pins σ H s) t:Inv X pins σ H { s with toks:=t }:=I.un Un.refl I.hok
theorem Inv.kept {t':Nat}(I:Inv X pins σ H s) (k:∀ b u,s.heap.get? b=some u->h'.get? b=some u):Inv X pins σ H { s with heap:=h',toks:=t' }:=I.un (Un.kept k) (I.hok.kept k)
theorem Inv.laid {a:Addr}{o:HO}{t':Nat}(I:Inv X pins σ H s) (k:∀ b u,s.heap.get? b=some u->h'.get? b=some u) (hp:s.heap.objs.size<=a) (c:ObjOk X.prog X.w (upd H a o) h' a o) :
  Inv X pins σ (upd H a o) { s with heap:=h',toks:=t' }:=I.un (Un.laid k hp (I.hok.fresh hp)) (I.hok.laid k hp c)
theorem Inv.write {x e:Addr}{o:HO}{t':Nat}(I:Inv X pins σ H s) (d:Mut (H x)) (f:e=x\/H e=some (.own x)) (k:∀ b u,b≠e->s.heap.get? b=some u->h'.get? b=some u) (a:∃ u,h'.get? e=some u)
  (c:ObjOk X.prog X.w (upd H x o) h' x o):Inv X pins σ (upd H x o) { s with heap:=h',toks:=t' }:=I.un (Un.write d f k a) (I.hok.write d f k a c)
theorem Inv.pins_of {a:List _}(I:Inv X pins σ H s) (h:∀ p∈a,s.heap.get? p.1=some p.2/\H p.1=none/\p.1≠X.env.locals/\p.1∉X.fs/\∀ v,p.2.data≠.cell v):Inv X a σ H s :=
 ⟨I.ok,I.os,I.bare,I.base,I.loc,I.cell,I.free,I.freeC,fun p hp=>(List.mem_append.mp hp).elim (fun z=>I.pin p (mem_append_left _ z)) (h p),I.hok,I.len⟩
theorem ynB {N:List Str}(d:N.Nodup) {i j:Nat}{x:Str}(a:N[i]?=some x) (b:N[j]?=some x):i=j:=by
 obtain ⟨h1,e⟩:=List.getElem?_eq_some_iff.mp a
 obtain ⟨h2,c⟩:=List.getElem?_eq_some_iff.mp b
 exact (List.getElem_inj d).mp (e.trans c.symm)
theorem ypE {M:Model}{A:Around}{E:Value->Shared->Prop}{i:Nat}{x:Str}{v:V}{u:Value}{Q:Unit->Shared->Prop}(I:Inv X pins σ H s) (hN:X.N.Nodup) (S:X.N[i]?=some x) (t:Loc X.env.scope x) (r:RelV v u)
  (h:∀ s',Inv X pins (σ.set i (some v)) H s'->(∃ a,Heap.SameBut a s.heap s'.heap/\(a=X.env.locals\/X.env.cells.lookup x=some a))->Q () s') (hf:X.fn x=true\/X.env.scope.names.lookup x=some .local:=by first|exact .inl rfl|exact .inr rfl|assumption):wpAny M A (storeName X.env x u) Q E s:=by
 obtain ⟨m,hn,hl⟩:=id I.loc
 have P:(X.env.scope.kind == .class || (X.env.scope.kind == .module && X.env.locals != X.env.globals))=false:=by rw [I.ok.kind];rfl
 have D:i<σ.length:=by rw [I.len];exact (List.getElem?_eq_some_iff.mp S).1
 have L:=I.cne
 have g:∀ {a:Addr}{h':Heap},(∃ o,s.heap.get? a=some o/\H a=none)->Heap.SameBut a s.heap h'->HOk X.prog X.w H h':=fun {a h'} ha hs b ob e=>by
  obtain ⟨_,_,w⟩:=ha
  refine (I.hok b ob e).stay (fun c W l q=>(hs.2 c ?_).trans q) (fun _ q=>q) fun _ _ q=>q
  rintro rfl
  rcases l with rfl|l
  .rw [w] at e;cases e
  .rw [w] at l;cases l
 rcases t with C|C
 .refine wpAny_storeName_local C hn (fun h' hn' hs=>?_) P
  obtain ⟨oL,_,_,Z,_⟩:=id hn
  refine h _ ⟨I.ok,I.os,I.bare,⟨fun b o e n G t=>?_,fun b o e n G t=>?_,I.base.free,fun b o e t=>?_,I.base.tups,I.base.frzs,I.base.tbls⟩,⟨_,hn',fun j y v' f B e3=>?_⟩,fun y c e=>?_,I.free,I.freeC,fun p hp=>?_,g ⟨oL,Z,I.free⟩ hs,by simpa using I.len⟩ ⟨_,hs,.inl rfl⟩
  .exact (hs.2 b (ne_of_lt (lt_of_lt_of_le (Heap.lt_size e) I.ok.above))).trans (I.base.keep b o e n G t)
  .obtain ⟨sl,f⟩:=I.base.slot b o e n G t
   exact ⟨sl,(hs.2 b (ne_of_lt (lt_of_lt_of_le (Heap.lt_size e) I.ok.above))).trans f⟩
  .obtain ⟨o',f⟩:=I.base.there b o e t
   exact ⟨o',(hs.2 b (ne_of_lt (lt_of_lt_of_le (Heap.lt_size e) I.ok.above))).trans f⟩
  .by_cases F:j=i
   .subst F
    rw [S] at f;cases f
    rw [getElem?_set_self D] at B
    cases B
    exact ⟨u,r,.inl ⟨C,by simp⟩⟩
   .rw [getElem?_set_ne (Ne.symm F)] at B
    obtain ⟨Y,r',q⟩:=hl j y v' f B e3
    refine ⟨Y,r',?_⟩
    rcases q with ⟨k,e⟩|⟨k,c,e,z⟩
    .refine .inl ⟨k,?_⟩
     have:y≠x:=fun e=>F (ynB hN f (e ▸ S))
     simp [this,e]
    .exact .inr ⟨k,c,e,z.sameBut hs (L y c e)⟩
  .obtain ⟨W,z⟩:=I.cell y c e
   exact ⟨W,z.sameBut hs (L y c e)⟩
  .obtain ⟨e,n,U,nf,d⟩:=I.pin p hp
   exact ⟨(hs.2 p.1 U).trans e,n,U,nf,d⟩
 .have J:X.fn x=true:=by
   rcases hf with z|z
   .exact z
   .rw [z] at C;cases C
  obtain ⟨c,l⟩:=I.ok.has x (.inl C)
  obtain ⟨W,z⟩:=I.cell x c l
  refine wpAny_storeName_cell I.ok.kind C l z (fun h' N hs=>?_)
  obtain ⟨oc,R,O⟩:=id z
  refine h { s with heap:=h' } ⟨I.ok,I.os,I.bare,⟨fun b o e n G t=>?_,fun b o e n G t=>?_,I.base.free,fun b o e t=>?_,I.base.tups,I.base.frzs,I.base.tbls⟩,⟨m,hn.sameBut hs (Ne.symm (L x c l)),fun j y v' f B e3=>?_⟩,fun y c' e=>?_,I.free,I.freeC,fun p hp=>?_,g ⟨oc,R,I.freeC x c l⟩ hs,by simpa using I.len⟩ ⟨c,hs,.inr l⟩
  .exact (hs.2 b (ne_of_lt (lt_of_lt_of_le (Heap.lt_size e) (I.ok.cab x c J l)))).trans (I.base.keep b o e n G t)
  .obtain ⟨sl,f⟩:=I.base.slot b o e n G t
   exact ⟨sl,(hs.2 b (ne_of_lt (lt_of_lt_of_le (Heap.lt_size e) (I.ok.cab x c J l)))).trans f⟩
  .obtain ⟨o',f⟩:=I.base.there b o e t
   exact ⟨o',(hs.2 b (ne_of_lt (lt_of_lt_of_le (Heap.lt_size e) (I.ok.cab x c J l)))).trans f⟩
  .by_cases F:j=i
   .subst F
    rw [S] at f;cases f
    rw [getElem?_set_self D] at B
    cases B
    exact ⟨u,r,.inr ⟨.inl C,c,l,N⟩⟩
   .rw [getElem?_set_ne (Ne.symm F)] at B
    obtain ⟨Y,r',q⟩:=hl j y v' f B e3
    refine ⟨Y,r',?_⟩
    rcases q with q|⟨k,c',e,z'⟩
    .exact .inl q
    .refine .inr ⟨k,c',e,z'.sameBut hs ?_⟩
     rintro rfl
     exact F (ynB hN f (I.ok.inj _ _ _ e l ▸ S))
  .by_cases T:c'=c
   .subst T;exact ⟨_,N⟩
   .obtain ⟨w2,z2⟩:=I.cell y c' e
    exact ⟨w2,z2.sameBut hs T⟩
  .obtain ⟨e,n,U,nf,d⟩:=I.pin p hp
   refine ⟨(hs.2 p.1 ?_).trans e,n,U,nf,d⟩
   intro q
   rw [q,R] at e
   have q':oc=p.2:=Option.some.inj e
   exact d W (by rw [<- q'];exact O)
theorem ynC {M:Model}{A:Around}{E:Value->Shared->Prop}{i:Nat}{x:Str}{v:V}{u:Value}{Q:Unit->Shared->Prop}(I:Inv X pins σ H s) (b:X.N.Nodup) (a:X.N[i]?=some x) (d:Loc X.env.scope x) (r:RelV v u)
  (h:∀ s',Inv X pins (σ.set i (some v)) H s'->Q () s') (e:X.fn x=true\/X.env.scope.names.lookup x=some .local:=by first|exact .inl rfl|exact .inr rfl|assumption):wpAny M A (storeName X.env x u) Q E s :=
 ypE I b a d r (fun s' c _=>h s' c) e
theorem Inv.call' {s':Shared}{ch:List Addr}(I:Inv X pins σ H s) (g:s'.os=s.os) (u:Un (frs X.stack) ch H H' s.heap s'.heap) (a:HOk X.prog X.w H' s'.heap) (f:AllBare s'.gens)
  (d:∀ b∈ch,(b∈X.ex\/X.s₀.heap.objs.size<=b)/\b≠X.env.locals/\(∀ x c,X.env.cells.lookup x=some c->c≠b)/\∀ p∈X.pn++pins,p.1≠b):Inv X pins σ H' s':=by
 obtain ⟨h',g',d',t',h⟩:=s'
 have e:=g
 subst e
 exact I.call u a f d
end
noncomputable abbrev XK:=Value->Option Addr->Hp->Prop
abbrev St:=List (Option V)
abbrev VK:=V->Hp->Prop
abbrev TE:=St->Hp->VK->Prop
noncomputable abbrev TT:=St->Hp->(Bool->Hp->Prop)->Prop
noncomputable abbrev TA:=St->Hp->(List V->Hp->Prop)->Prop
structure Ends where
 nx:St->Hp->Prop
 rt:VK
 bk:St->Hp->Prop:=fun _ _=>False
 ct:St->Hp->Prop:=fun _ _=>False
abbrev TS:=Ends->St->Hp->Prop
def EP (X:Cx) (pins:List (Addr×Obj)) (σ:St) (Q:VK) (u:Value) (s':Shared):Prop:=∃ v H',Inv X pins σ H' s'/\RelV v u/\Q v H'
noncomputable def TP (X:Cx) (pins:List (Addr×Obj)) (σ:St) (Q:Bool->Hp->Prop) (b:Bool) (s':Shared):Prop:=∃ H',Inv X pins σ H' s'/\Q b H'
def AP (X:Cx) (pins:List (Addr×Obj)) (σ:St) (Q:List V->Hp->Prop) (us:List Value) (s':Shared):Prop:=∃ vs H',Inv X pins σ H' s'/\Vals vs us/\Q vs H'
def SP (X:Cx) (pins:List (Addr×Obj)) (D:Ends) (f:Flow) (s':Shared):Prop :=
 match f with
 | .next=>∃ σ' H',Inv X pins σ' H' s'/\D.nx σ' H'
 | .brk=>∃ σ' H',Inv X pins σ' H' s'/\D.bk σ' H'
 | .cont=>∃ σ' H',Inv X pins σ' H' s'/\D.ct σ' H'
 | .ret u=>∃ v σ' H',Inv X pins σ' H' s'/\RelV v u/\D.rt v H'
def PE (X:Cx) (e:Expr) (t:TE):Prop :=
 ∀ (pins:List (Addr×Obj)) (s:Shared) (σ:St) (H:Hp) (Q:VK),Inv X pins σ H s->t σ H Q->wpAny (model X.prog X.w) X.A (eval e X.env) (EP X pins σ Q) X.xe s
def PT (X:Cx) (e:Expr) (t:TT):Prop :=
 ∀ (pins:List (Addr×Obj)) (s:Shared) (σ:St) (H:Hp) (Q:Bool->Hp->Prop),Inv X pins σ H s->t σ H Q->wpAny (model X.prog X.w) X.A (isTrue e X.env (eval e X.env)) (TP X pins σ Q) X.xe s
def PW (X:Cx) (e:Expr) (t:TT):Prop :=
 ∀ (whole:Sem Value) (pins:List (Addr×Obj)) (s:Shared) (σ:St) (H:Hp) (Q:Bool->Hp->Prop),Inv X pins σ H s->t σ H Q->wpAny (model X.prog X.w) X.A (isTrue e X.env whole) (TP X pins σ Q) X.xe s
theorem PW.pt {X:Cx}{e:Expr}{t:TT}(h:PW X e t):PT X e t:=h _
def PA (X:Cx) (es:List Expr) (t:TA):Prop :=
 ∀ (pos:Pos) (pins:List (Addr×Obj)) (s:Shared) (σ:St) (H:Hp) (Q:List V->Hp->Prop),Inv X pins σ H s->t σ H Q->wpAny (model X.prog X.w) X.A (spliced (backTo pos (starEach es X.env))) (AP X pins σ Q) X.xe s
def PS (X:Cx) (st:Stmt) (t:TS):Prop :=
 ∀ (pins:List (Addr×Obj)) (s:Shared) (σ:St) (H:Hp) (D:Ends),Inv X pins σ H s->t D σ H->wpAny (model X.prog X.w) X.A (exec st X.env) (SP X pins D) X.xe s
def PSs (X:Cx) (st:List Stmt) (t:TS):Prop :=
 ∀ (pins:List (Addr×Obj)) (s:Shared) (σ:St) (H:Hp) (D:Ends),Inv X pins σ H s->t D σ H->wpAny (model X.prog X.w) X.A (execs st X.env) (SP X pins D) X.xe s
theorem thn {α:Type}{t:Sem α}{Q b:α->Shared->Prop}{M:Model}{A:Around}{E:Value->Shared->Prop}{s:Shared}(h:wpAny M A t Q E s) (c:∀ a s,Q a s->b a s):wpAny M A t b E s:=wpAny_mono h c fun _ _ x=>x
end L2
namespace L2
open PySem PySem.Spec PyProof.Rows
section
variable {X:Cx}
noncomputable def ypw (i:Nat):TE:=fun σ H Q=>∃ v,σ[i]?=some (some v)/\Q v H
noncomputable def tC (v:V):TE:=fun _ H Q=>Q v H
theorem yiM {i:Nat}{x:Str}{pos:Pos}(t:X.N[i]?=some x) (q:Vis X.env.scope x) (k:(x == "__debug__")=false:=by decide) (j:(x == "__classdict__")=false:=by decide):PE X (.Name x pos) (ypw i):=by
 intro g s σ H Q I h
 obtain ⟨v,e,h⟩:=h
 obtain ⟨m,p,hl⟩:=I.loc
 obtain ⟨u,r,l⟩:=hl i x v t e q
 have f:EP X g σ Q u s:=⟨v,H,I,r,h⟩
 rcases l with ⟨d,o⟩|⟨d,c,n,b⟩
 .exact wpAny_Name (wpAny_loadName_local I.ok.kind d p o f) k
 .rcases d with d|d
  .exact wpAny_Name (wpAny_loadName_cell I.ok.kind d n b f) k
  .exact wpAny_Name (wpAny_loadName_free I.ok.kind d n b f j) k
theorem yzJ {i j pos}:PE X (.Constant (.int i) j pos) (tC (.int i)):=fun _ _ _ H _ I h=>wpAny_Constant_int ⟨.int i,H,I.tok _,⟨_,rfl⟩,h⟩
theorem yCS {b j pos}:PE X (.Constant (.bool b) j pos) (tC (.bl b)):=fun _ _ _ H _ I h=>Constant_bool ⟨.bl b,H,I,rfl,h⟩
theorem yzK {j pos}:PE X (.Constant .none j pos) (tC .non):=fun _ _ _ H _ I h=>Constant_none ⟨.non,H,I,rfl,h⟩
theorem yzL {x j pos}:PE X (.Constant (.str x) j pos) (tC (.str x)):=fun _ _ _ H _ I h=>Calls.Constant_str ⟨.str x,H,I.tok _,⟨_,rfl⟩,h⟩
noncomputable def Gl (X:Cx) (x:Str):Prop:=X.env.kindOf x=some .globalImplicit
theorem yhu {E:Value->Shared->Prop}{b:List _}{s:Shared}{σ:St}{H:Hp}{x:Str}{u:Value}{pos:Pos}{Q:Value->Shared->Prop}(I:Inv X b σ H s) (d:Gl X x) (c:X.mg x=some u) (h:Q u s)
  (e:(x == "__debug__")=false:=by decide):wpAny (model X.prog X.w) X.A (eval (.Name x pos) X.env) Q E s :=
 Calls.Name_function_global I.ok.kind d (Calls.loadGlobal_global (by rw [I.ok.glob];exact I.mod.glob.keeps I.bk) c h) e
theorem ykK {E:Value->Shared->Prop}{b:List _}{s:Shared}{σ:St}{H:Hp}{x:Str}{u:Value}{pos:Pos}{Q:Value->Shared->Prop}(I:Inv X b σ H s) (e:Gl X x) (f:X.mg x=none) (d:bootBuiltins x=some u) (h:Q u s)
  (c:x≠"__name__":=by decide) (g:(x == "__debug__")=false:=by decide):wpAny (model X.prog X.w) X.A (eval (.Name x pos) X.env) Q E s:=by
 obtain ⟨i,h1,h2⟩:=I.mod.blt
 exact Calls.Name_function_global I.ok.kind e (Calls.loadGlobal_builtin (by rw [I.ok.glob];exact I.mod.glob.keeps I.bk) f (by rw [I.ok.blt];exact h1.keeps I.bk) ((h2 x c).trans d) h) g
theorem ymx {x:Str}{v:V}{u:Value}{pos:Pos}(b:Gl X x) (d:X.mg x=some u) (r:RelV v u) (c:(x == "__debug__")=false:=by decide):PE X (.Name x pos) (tC v) :=
 fun _ _ _ H _ I h=>yhu I b d ⟨v,H,I,r,h⟩ c
theorem ywN {x:Str}{v:V}{u:Value}{pos:Pos}(b:Gl X x) (e:X.mg x=none) (c:bootBuiltins x=some u) (r:RelV v u) (d:x≠"__name__":=by decide) (f:(x == "__debug__")=false:=by decide):PE X (.Name x pos) (tC v) :=
 fun _ _ _ H _ I h=>ykK I b e c ⟨v,H,I,r,h⟩ d f
variable {a b:Expr}{ta tb:TE}{pos:Pos}
def PC (X:Cx) (op:CmpOp) (a b:Expr) (t:TE):Prop :=
 ∀ (pins:List (Addr×Obj)) (s:Shared) (σ:St) (H:Hp) (Q:VK),Inv X pins σ H s->t σ H Q ->
  wpAny (model X.prog X.w) X.A (eval a X.env) (fun v s₁=>wpAny (model X.prog X.w) X.A (eval b X.env) (fun u s₂=>wpAny (model X.prog X.w) X.A (compareOp op v u) (EP X pins σ Q) X.xe s₂) X.xe s₁) X.xe s
theorem ynD (b:Expr) {op:CmpOp}(h:op≠.In) (h2:op≠.NotIn):behindInMarks op b=false:=by
 have e1:(op == CmpOp.In)=false:=by cases op<;>first|rfl|exact absurd rfl h
 have e2:(op == CmpOp.NotIn)=false:=by cases op<;>first|rfl|exact absurd rfl h2
 cases b<;>simp [behindInMarks,e1,e2]
def tB (t:TE):TT:=fun σ H Q=>t σ H fun x H1=>∃ c,x=.bl c/\Q c H1
theorem yzM {op:CmpOp}{t:TE}(h:PC X op a b t) (h1:behindInMarks op b=false:=by first|exact ynD _ (by decide) (by decide)|rfl):PE X (.Compare a [op] [b] pos) t:=fun c s σ H Q I d=>wpAny_Compare1 (h c s σ H Q I d) h1
theorem yzN {op:CmpOp}{t:TE}(h:PC X op a b t) (h1:behindInMarks op b=false:=by first|exact ynD _ (by decide) (by decide)|rfl):PT X (.Compare a [op] [b] pos) (tB t):=by
 intro e s σ H Q I j
 refine wpAny_isTrue_Compare1 (thn (h e s σ H _ I j) fun v s1 h1=>thn h1 fun u s2 h2=>thn h2 fun c s3 ⟨x,i,k,f,g⟩=>?_) h1
 obtain ⟨d,rfl,q⟩:=g
 cases f
 exact wpAny_truthy_bool ⟨i,k,q⟩
theorem yzO {e:Expr}{t:TE}(h:PE X e t) (n:∀ f,isTrue e X.env f=(do let v <- f;standAt e.pos;holding [v] (truthy v)):=by intro _;rfl):PT X e (tB t):=by
 intro g s σ H Q I l
 refine isTrue_plain (thn (h g s σ H _ I l) fun v s1 ⟨x,k,m,i,j⟩=>?_) (n _)
 obtain ⟨d,rfl,q⟩:=j
 cases i
 exact wpAny_truthy_bool ⟨k,m,q⟩
variable {tA tB':TT}{rest:List Expr}
def yEN (t u:TT):TT:=fun σ H Q=>t σ H fun c H1=>if c=true then u σ H1 Q else Q false H1
def tOr (t u:TT):TT:=fun σ H Q=>t σ H fun c H1=>if c=true then Q true H1 else u σ H1 Q
def yCT (t:TT):TT:=fun σ H Q=>t σ H fun c H1=>Q (!c) H1
theorem ywO (g:PT X a tA):PW X (.BoolOp .And [a] pos) tA:=by
 intro wh f s σ H Q I h
 refine isTrue_and (thn (g f s σ H Q I h) fun c s1 e=>?_)
 cases c with
 | true=>exact isTrue_and_nil e
 | false=>exact e
theorem yzP (g:PT X a tA):PW X (.BoolOp .Or [a] pos) tA:=by
 intro wh f s σ H Q I h
 refine isTrue_or (thn (g f s σ H Q I h) fun c s1 e=>?_)
 cases c with
 | false=>exact isTrue_or_nil e
 | true=>exact e
theorem yzQ (j:PT X a tA) (k:PW X (.BoolOp .And (b::rest) pos) tB'):PW X (.BoolOp .And (a::b::rest) pos) (yEN tA tB'):=by
 intro wh e s σ H Q I h
 refine isTrue_and (thn (j e s σ H _ I h) fun c s1 ⟨f,g,i⟩=>?_)
 cases c with
 | true=>exact k wh e s1 σ f Q g i
 | false=>exact ⟨f,g,i⟩
theorem yCU (j:PT X a tA) (k:PW X (.BoolOp .Or (b::rest) pos) tB'):PW X (.BoolOp .Or (a::b::rest) pos) (tOr tA tB'):=by
 intro wh e s σ H Q I h
 refine isTrue_or (thn (j e s σ H _ I h) fun c s1 ⟨f,g,i⟩=>?_)
 cases c with
 | true=>exact ⟨f,g,i⟩
 | false=>exact k wh e s1 σ f Q g i
theorem yzR (e:PT X a tA):PT X (.UnaryOp .Not a pos) (yCT tA):=by
 intro d s σ H Q I h
 exact isTrue_not (e d s σ H _ I h)
noncomputable def yzS (ta tb:TE):TE:=fun σ H Q=>ta σ H fun x H1=>∃ c,x=.bl c/\if c=true then tb σ H1 Q else Q (.bl false) H1
noncomputable def yzT (ta:TE):TE:=fun σ H Q=>ta σ H fun x H1=>∃ c,x=.bl c/\Q (.bl (!c)) H1
theorem yzU {op} {t:TE}(h:PE X a t):PE X (.BoolOp op [a] pos) t:=fun d s σ H Q I e=>BoolOp_one (h d s σ H Q I e)
theorem yzV (l:PE X a ta) (k:PE X (.BoolOp .And (b::rest) pos) tb):PE X (.BoolOp .And (a::b::rest) pos) (yzS ta tb):=by
 intro e s σ H Q I h
 refine BoolOp_and (thn (l e s σ H _ I h) fun v s1 ⟨x,g,i,j,f⟩=>?_)
 obtain ⟨c,rfl,f⟩:=f
 cases j
 refine wpAny_truthy_bool ?_
 cases c with
 | true=>exact k e s1 σ g Q i f
 | false=>exact ⟨.bl false,g,i,rfl,f⟩
theorem yzW (i:PE X a ta):PE X (.UnaryOp .Not a pos) (yzT ta):=by
 intro e s σ H Q I h
 refine UnaryOp_ (thn (i e s σ H _ I h) fun v s1 ⟨x,k,j,g,f⟩=>?_)
 obtain ⟨c,rfl,f⟩:=f
 cases g
 exact not_of (wpAny_truthy_bool ⟨.bl _,k,j,rfl,f⟩)
def tIf (t:TT) (ta tb:TE):TE:=fun σ H Q=>t σ H fun c H1=>if c=true then ta σ H1 Q else tb σ H1 Q
theorem ysU {c:Expr}(m:PT X c tA) (k:PE X a ta) (l:PE X b tb):PE X (.IfExp c a b pos) (tIf tA ta tb):=by
 intro f s σ H Q I h
 refine wpAny_IfExp (thn (m f s σ H _ I h) fun d s1 ⟨g,i,j⟩=>?_)
 cases d with
 | true=>exact k f s1 σ g Q i j
 | false=>exact l f s1 σ g Q i j
end
end L2
namespace L2
open PySem PySem.Spec PyProof.Rows
def SqL (K:PySem.W.Frag) (H:Hp) (a:Addr) (xs:List V):Prop :=
 Rd H a (.lst xs) \/
  ∃ (o:Obj) (its:Array Value) (n:Nat),K.lookup a=some o/\o.cls=.type "list"/\o.dict=none/\o.data=.seq its n/\its.size<=sizeLine/\Vals xs its.toList
def SqT (K:PySem.W.Frag) (H:Hp) (a:Addr) (xs:List V):Prop :=
 Rd H a (.tup xs) \/
  ∃ (o:Obj) (its:Array Value) (n:Nat),K.lookup a=some o/\o.cls=.type "tuple"/\o.data=.seq its n/\its.size<=sizeLine/\Vals xs its.toList
noncomputable def yFz:Value->Option V
 | .none=>some .non
 | .bool b=>some (.bl b)
 | .int i _=>some (.int i)
 | .str x _=>some (.str x)
 | .bytes b _=>some (.byt b)
 | .float b _=>some (.flt b)
 | .ref a=>some (.ref a)
 | .type n=>some (.ty n)
 | _=>none
theorem RelV.abs {x:V}{u:Value}(r:RelV x u):yFz u=some x:=by
 cases x with
 | non=>cases r;rfl
 | bl _=>cases r;rfl
 | int _=>obtain ⟨t,rfl⟩:=r;rfl
 | str _=>obtain ⟨t,rfl⟩:=r;rfl
 | byt _=>obtain ⟨t,rfl⟩:=r;rfl
 | flt _=>obtain ⟨t,rfl⟩:=r;rfl
 | ref _=>cases r;rfl
 | ty _=>cases r;rfl
theorem RelV.inj {x y:V}{u:Value}(r:RelV x u) (q:RelV y u):x=y:=Option.some.inj (r.abs.symm.trans q.abs)
theorem Vals.inj:∀ {xs ys:List V}{us:List Value},Vals xs us->Vals ys us->xs=ys
 | _,_,_,.nil,.nil=>rfl
 | _,_,_,.cons r t,.cons a t'=>by rw [r.inj a,Vals.inj t t']
section
variable {X:Cx}{pins:List (Addr×Obj)}{σ:St}{H:Hp}{s:Shared}{a:Addr}{xs ys:List V}
theorem SqL.of {K:PySem.W.Frag}(h:H a=some (.lst xs)):SqL K H a xs:=.inl (.inl h)
theorem SqT.of {K:PySem.W.Frag}(h:H a=some (.tup xs)):SqT K H a xs:=.inl (.inl h)
theorem Inv.list (I:Inv X pins σ H s) (h:SqL X.K H a xs):∃ its:List Value,Vals xs its/\PlainL s.heap a its.toArray/\xs.length<=sizeLine:=by
 rcases h with h|⟨o,its,n,c,d,b,hs,hz,r⟩
 .obtain ⟨z,its,n,r,e⟩:=h.ok I.hok
  exact ⟨its,r,⟨_,n,e,rfl,rfl,rfl⟩,z⟩
 .refine ⟨its.toList,r,⟨o,n,I.kIn a o c,d,b,by simpa using hs⟩,?_⟩
  have e:=r.length
  simp_all
theorem Inv.tuple (I:Inv X pins σ H s) (h:SqT X.K H a xs):∃ its:List Value,Vals xs its/\IsTup s.heap a its.toArray/\xs.length<=sizeLine:=by
 rcases h with h|⟨o,its,n,c,b,hs,hz,r⟩
 .obtain ⟨z,its,r,p⟩:=h.ok I.hok
  grind
 .refine ⟨its.toList,r,⟨o,I.kIn a o c,b,n,by simpa using hs⟩,?_⟩
  have e:=r.length
  simp_all
theorem Inv.list_inj (I:Inv X pins σ H s) (h:SqL X.K H a xs) (h':SqL X.K H a ys):xs=ys:=by
 obtain ⟨its,r,⟨o,n,e,_,_,d⟩,_⟩:=I.list h
 obtain ⟨its',b,⟨g,f,c,_,_,d'⟩,_⟩:=I.list h'
 rw [e] at c;have:its=its':=by simp_all
 subst this
 exact r.inj b
end
noncomputable abbrev Cx.wish (X:Cx) (E:Value->Shared->Prop):Cx:={ X with xe:=E }
noncomputable abbrev Cx.nox (X:Cx):Cx:=X.wish fun _ _=>False
theorem Cx.Ok.wish {X:Cx}(a:X.Ok) E:(X.wish E).Ok :=
 ⟨a.mod,a.kind,a.glob,a.blt,a.above,a.inj,a.has,a.cab,a.hd,a.frames,a.stk,a.exf,a.bs,a.bsz,a.noex,a.exfs,a.funs,a.frf⟩
theorem Cx.Ok.unwish {X:Cx}{E:Value->Shared->Prop}(a:(X.wish E).Ok):X.Ok :=
 ⟨a.mod,a.kind,a.glob,a.blt,a.above,a.inj,a.has,a.cab,a.hd,a.frames,a.stk,a.exf,a.bs,a.bsz,a.noex,a.exfs,a.funs,a.frf⟩
section
variable {X:Cx}{pins:List (Addr×Obj)}{σ:St}{H:Hp}{s:Shared}{E:Value->Shared->Prop}
theorem Inv.wish (I:Inv X pins σ H s) E:Inv (X.wish E) pins σ H s:=⟨I.ok.wish E,I.os,I.bare,I.base,I.loc,I.cell,I.free,I.freeC,I.pin,I.hok,I.len⟩
theorem Inv.unwish (I:Inv (X.wish E) pins σ H s):Inv X pins σ H s:=⟨I.ok.unwish,I.os,I.bare,I.base,I.loc,I.cell,I.free,I.freeC,I.pin,I.hok,I.len⟩
theorem SP.unwish {D:Ends}{f:Flow}{s':Shared}(h:SP (X.wish E) pins D f s'):SP X pins D f s':=by
 cases f with
 | next=>obtain ⟨a,b,I,q⟩:=h;exact ⟨a,b,I.unwish,q⟩
 | brk=>obtain ⟨a,b,I,q⟩:=h;exact ⟨a,b,I.unwish,q⟩
 | cont=>obtain ⟨a,b,I,q⟩:=h;exact ⟨a,b,I.unwish,q⟩
 | ret u=>obtain ⟨v,a,b,I,r,q⟩:=h;exact ⟨v,a,b,I.unwish,r,q⟩
theorem PSs.nox {st:List Stmt}{t:TS}(h:PSs X.nox st t):PSs X st t:=fun pins s σ H D I a =>
 wpAny_mono (h pins s σ H D (I.wish _) a) (fun _ _ q=>q.unwish) fun _ _ z=>False.elim z
end
section
variable {X:Cx}{st:Stmt}{rest:List Stmt}{t u:TS}{e:Expr}{te:TE}{pos:Pos}
noncomputable def yzX:TS:=fun D σ H=>D.nx σ H
noncomputable def yCV (t u:TS):TS:=fun D σ H=>t { D with nx:=u D } σ H
theorem ywP:PSs X [] yzX:=fun _ _ σ H _ I h=>wpAny_execs_nil ⟨σ,H,I,h⟩
theorem ynE (h1:PS X st t) (h2:PSs X rest u):PSs X (st::rest) (yCV t u):=by
 intro b s σ H D I h
 refine wpAny_execs_cons (thn (h1 b s σ H _ I h) fun f s1 q=>?_)
 cases f with
 | next =>
  obtain ⟨c,d,g,q⟩:=q
  exact h2 b s1 c d D g q
 | ret v=>exact q
 | brk=>exact q
 | cont=>exact q
theorem ypF (h1:PS X st t):PSs X [st] t:=by
 intro b s σ H D I h
 refine wpAny_execs_cons (thn (h1 b s σ H D I h) fun f s1 q=>?_)
 cases f with
 | next=>exact wpAny_execs_nil q
 | ret v=>exact q
 | brk=>exact q
 | cont=>exact q
theorem Inv.quiet {a:List _}{σ:St}{H:Hp}{s:Shared}(I:Inv X a σ H s):interactive X.env=false:=by simp [interactive,I.ok.kind]
noncomputable def ypG (te:TE):TS:=fun D σ H=>te σ H fun _ H1=>D.nx σ H1
theorem yjs (c:PE X e te) (hs:swapsWith e none pos.line X.env=pure false:=by rfl):PS X (.Expr e pos) (ypG te):=by
 intro b s σ H D I h
 exact wpAny_Expr_any (thn (c b s σ H _ I h) fun v s1 ⟨x,d,f,i,g⟩=>⟨σ,d,f,g⟩) I.quiet hs
noncomputable def yEO (te:TE):TS:=fun D σ H=>te σ H D.rt
theorem yzY (f:PE X e te):PS X (.Return (some e) pos) (yEO te):=by
 intro b s σ H D I h
 exact wpAny_Return_some (thn (f b s σ H _ I h) fun v s1 ⟨x,d,g,c,i⟩=>⟨x,σ,d,g,c,i⟩)
def yEP (c:TT) (t u:TS):TS:=fun D σ H=>c σ H fun b H1=>if b=true then t D σ H1 else u D σ H1
theorem yCW {c:Expr}{a b:List Stmt}{tc:TT}(n:PT X c tc) (l:PSs X a t) (m:PSs X b u):PS X (.If c a b pos) (yEP tc t u):=by
 intro g s σ H D I h
 refine wpAny_If (thn (n g s σ H _ I h) fun d s1 ⟨i,j,k⟩=>?_)
 cases d with
 | true=>exact l g s1 σ i D j k
 | false=>exact m g s1 σ i D j k
def yvC:TS:=fun _ _ _=>False
theorem ysV:PS X st yvC:=fun _ _ _ _ _ _ h=>h.elim
end
noncomputable abbrev TG:=V->St->Hp->(St->Hp->Prop)->Prop
noncomputable abbrev TGs:=List V->St->Hp->(St->Hp->Prop)->Prop
def PG (X:Cx) (target:Expr) (t:TG):Prop :=
 ∀ (pins:List (Addr×Obj)) (s:Shared) (σ:St) (H:Hp) (v:V) (u:Value) (Q:St->Hp->Prop),Inv X pins σ H s->RelV v u->t v σ H Q ->
  wpAny (model X.prog X.w) X.A (assign target X.env u) (fun _ s'=>∃ σ' H',Inv X pins σ' H' s'/\Q σ' H') X.xe s
def PGs (X:Cx) (ts:List Expr) (t:TGs):Prop :=
 ∀ (pins:List (Addr×Obj)) (s:Shared) (σ:St) (H:Hp) (vs:List V) (us:List Value) (Q:St->Hp->Prop),Inv X pins σ H s->Vals vs us->t vs σ H Q ->
  wpAny (model X.prog X.w) X.A (assignInOrder ((assignEach ts X.env).map (·.2)) us) (fun _ s'=>∃ σ' H',Inv X pins σ' H' s'/\Q σ' H') X.xe s
noncomputable abbrev yCX:=V->V->V->Hp->(Hp->Prop)->Prop
def yEQ (X:Cx) (t:yCX):Prop :=
 ∀ (pins:List (Addr×Obj)) (s:Shared) (σ:St) (H:Hp) (o i v:V) (ov iv u:Value) (Q:Hp->Prop),Inv X pins σ H s->RelV o ov->RelV i iv->RelV v u->t o i v H Q ->
  wpAny (model X.prog X.w) X.A (setItem ov iv u) (fun _ s'=>∃ H',Inv X pins σ H' s'/\Q H') X.xe s
section
variable {X:Cx}{pos:Pos}
def ypH (i:Nat):TG:=fun v σ H Q=>Q (σ.set i (some v)) H
theorem ymy {i:Nat}{x:Str}(c:X.N.Nodup) (g:X.N[i]?=some x) (d:Loc X.env.scope x) (e:X.fn x=true\/X.env.scope.names.lookup x=some .local:=by first|exact .inl rfl|exact .inr rfl|assumption):PG X (.Name x pos) (ypH i):=by
 intro b s σ H v u Q I r h
 exact wpAny_assign_Name (ynC I c g d r (fun s' f=>⟨_,H,f,h⟩) e)
def yER:TGs:=fun vs σ H Q=>vs=[]/\Q σ H
def yzZ (t:TG) (u:TGs):TGs:=fun vs σ H Q=>∃ v r,vs=v::r/\t v σ H fun σ' H'=>u r σ' H' Q
theorem ywQ:PGs X [] yER:=by
 intro a s σ H vs us Q I r h
 obtain ⟨e,h⟩:=h
 exact assignInOrder_nil ⟨σ,H,I,h⟩
theorem ysW {e:Expr}{es:List Expr}{t:TG}{u:TGs}(h1:PG X e t) (h2:PGs X es u)
  (hs:(assignEach (e::es) X.env).map (·.2)=assign e X.env::(assignEach es X.env).map (·.2):=by rfl):PGs X (e::es) (yzZ t u):=by
 intro b s σ H vs us Q I r h
 obtain ⟨v,j,d,h⟩:=h
 subst d
 cases r with
 | cons r rr =>
  rw [hs]
  exact assignInOrder_cons (thn (h1 b s σ H _ _ _ I r h) fun _ s1 ⟨c,f,i,g⟩=>h2 b s1 c f _ _ Q i rr g)
def yES (to ti:TE) (t:yCX):TG:=fun v σ H Q=>to σ H fun o H1=>ti σ H1 fun i H2=>t o i v H2 fun H3=>Q σ H3
theorem yAa {o i:Expr}{f e:TE}{t:yCX}(A:PE X o f) (C:PE X i e) (hs:yEQ X t)
  (n:∀ v,assign (.Subscript o i pos) X.env v=(do
   let c <- holding [v] (eval o X.env)
   let d <- holding [v,c] (eval i X.env)
   standAt pos
   holding [v,c,d] (setItem c d v)
   release [v,c,d] []):=by intro _;rfl):PG X (.Subscript o i pos) (yES f e t):=by
 intro b s σ H v u Q I r h
 rw [n]
 refine wpAny_bind (wpAny_holding (thn (A b s σ H _ I h) fun c s1 ⟨x,w,j,l,q⟩=>?_))
 refine wpAny_bind (wpAny_holding (thn (C b s1 σ w _ j q) fun d s2 ⟨y,B,p,r2,k⟩=>?_))
 exact wpAny_bind (wpAny_standAt (wpAny_bind (wpAny_holding (thn (hs b s2 σ B x y v c d u _ p l r2 r k) fun _ s3 ⟨g,m,z⟩=>wpAny_release ⟨σ,g,m,z⟩))))
def yvD (te:TE) (g:TG):TS:=fun D σ H=>te σ H fun x H1=>g x σ H1 D.nx
theorem yvE {c e:Expr}{te:TE}{g:TG}(f:PE X e te) (m:PG X c g) (hs:swapsWithSole [c] e pos.line X.env=pure false:=by rfl) (k:swappedStores [c] e X.env=pure none:=by rfl)
  (h1:(assignEach [c] X.env).map (·.2)=[assign c X.env]:=by rfl):PS X (.Assign [c] e pos) (yvD te g):=by
 intro b s σ H D I h
 refine wpAny_Assign_stores (thn (f b s σ H _ I h) fun v s1 ⟨x,j,l,d,i⟩=>?_) hs k
 rw [h1]
 exact thn (m b s1 σ j x v _ l d i) fun _ s2 q=>q
theorem yvF {i:Nat}{x:Str}{e:Expr}{te:TE}{b:Pos}(f:X.N.Nodup) (n:X.N[i]?=some x) (j:Loc X.env.scope x) (m:PE X e te) (hs:swapsWith e (some (.Name x b)) pos.line X.env=pure false:=by rfl) (l:X.fn x=true\/X.env.scope.names.lookup x=some .local:=by first|exact .inl rfl|exact .inr rfl|assumption) :
  PS X (.Assign [.Name x b] e pos) (yvD te (ypH i)):=by
 intro c s σ H D I h
 exact wpAny_Assign_Name (thn (m c s σ H _ I h) fun v s1 ⟨y,k,o,d,g⟩=>ynC o f n j d (fun s2 p=>⟨_,k,p,g⟩) l) hs
end
section
variable {X:Cx}{pos:Pos}
def yvG (c:TT) (tb:TS):TS:=fun D σ H=>∃ W:Nat->St->Hp->Prop,(∃ m,W m σ H)/\∀ m σ H,W m σ H ->
 c σ H fun b H1=>if b=true then ∃ N:St->Hp->Prop,(∀ σ' H',N σ' H'->∃ m',m'<m/\W m' σ' H')/\tb { D with nx:=N,ct:=N,bk:=D.nx } σ H1 else D.nx σ H1
theorem ysX {c:Expr}{body:List Stmt}{tc:TT}{tb:TS}(hp:PassesOwn (model X.prog X.w) X.A X.env X.xe) (A:PT X c tc) (B:PSs X body tb):PS X (.While c body [] pos) (yvG tc tb):=by
 intro e s σ H D I h
 obtain ⟨W,⟨y,w0⟩,turn⟩:=h
 refine wpAny_While (codeAny_whileLoop (fun n s'=>∃ j r,Inv X e j r s'/\W n j r) ?_ y ⟨σ,H,I,w0⟩)
 rintro n s1 ⟨g,u,C,z⟩
 refine wpAny_passesOwn hp (thn (A e s1 g u _ C (turn n g u z)) fun b s2 ⟨x,t,k⟩=>?_)
 cases b with
 | true =>
  obtain ⟨N,w,k⟩:=k
  refine wpAny_passesOwn hp (thn (B e s2 g x _ t k) fun f s3 l=>?_)
  cases f with
  | next =>
   obtain ⟨d,i,m,p⟩:=l
   obtain ⟨m',q,o⟩:=w d i p
   exact ⟨m',q,d,i,m,o⟩
  | cont =>
   obtain ⟨d,i,m,p⟩:=l
   obtain ⟨m',q,o⟩:=w d i p
   exact ⟨m',q,d,i,m,o⟩
  | brk=>exact l
  | ret v=>exact l
 | false =>
  exact wpAny_execs_nil ⟨g,x,t,k⟩
end
structure It where
 go:Nat->Hp->Prop
 yld:Nat->Hp->V->Hp->Prop
 stop:Nat->Hp->Prop
noncomputable def ysY (X:Cx) (pins:List (Addr×Obj)) (H:Hp) (b:Addr):Prop :=
 H b=none/\b≠X.env.locals/\b∉X.fs/\(b∈X.ex\/X.s₀.heap.objs.size<=b)/\(∀ x c,X.env.cells.lookup x=some c->c≠b)/\∀ p∈X.pn++pins,p.1≠b
theorem Inv.fpOk {X:Cx}{d:List _}{σ:St}{H g:Hp}{s:Shared}{b:Addr}(I:Inv X d σ H s) (f:s.heap.objs.size<=b) (h:g b=none):ysY X d g b:=by
 refine ⟨h,Nat.ne_of_gt (lt_of_lt_of_le I.lt f),I.nofs f,.inr (Nat.le_trans I.sz f),fun x c e z=>?_,fun p hp z=>?_⟩
 .obtain ⟨v,q⟩:=I.cell x c e
  exact absurd (lt_of_lt_of_le q.lt (by rw [z];exact f)) (lt_irrefl _)
 .exact absurd (lt_of_lt_of_le (Heap.lt_size (I.pin p hp).1) (by rw [z];exact f)) (lt_irrefl _)
structure Turn (P:Program) (w:World) (K:PySem.W.Frag) (tg:Expr) (J:It) (fp:List Addr) (it:Addr) (tn:Nat->Heap->Prop):Prop where
 mem:it∈fp
 obj:∀ i h,tn i h->∀ b∈fp,∃ o,h.get? b=some o/\∀ v,o.data≠.cell v
 keep:∀ i h h',tn i h->(∀ b∈fp,∀ o,h.get? b=some o->h'.get? b=some o)->tn i h'
 item:∀ (X:Cx),X.prog=P->X.w=w->X.K=K->X.calm=true->∀ (i:Nat) (pins:List (Addr×Obj)) (s:Shared) (σ:St) (H:Hp) (E:Value->Shared->Prop),Inv X pins σ H s->(∀ b∈fp,ysY X pins H b)->tn i s.heap->J.go i H ->
  wpAny (model P w) X.A (pyNext (.ref it)) (fun r s1=>∃ u,r=some u /\
   wpAny (model P w) X.A (letOwnedTupleGo tg (.ref it) u) (fun _ s2=>∃ x H',Inv X pins σ H' s2/\RelV x u/\J.yld i H x H'/\tn (i+1) s2.heap/\∀ b∈fp,H' b=none) E s1) E s
 done:∀ (X:Cx),X.prog=P->X.w=w->X.K=K->X.calm=true->∀ (i:Nat) (pins:List (Addr×Obj)) (s:Shared) (σ:St) (H:Hp) (E:Value->Shared->Prop),Inv X pins σ H s->(∀ b∈fp,ysY X pins H b)->tn i s.heap->J.stop i H ->
  wpAny (model P w) X.A (pyNext (.ref it)) (fun r s1=>r=none/\Inv X pins σ H s1) E s
 self:∀ (A:Around) (i:Nat) (s:Shared) (Q:Value->Shared->Prop) (E:Value->Shared->Prop),tn i s.heap->Q (.ref it) s->wpAny (model P w) A (pyIter (.ref it)) Q E s
noncomputable abbrev TI:=St->Hp->(It->Hp->Prop)->Prop
def PIE (X:Cx) (pins:List (Addr×Obj)) (σ:St) (tg:Expr) (R:It->Hp->Prop) (itv:Value) (s2:Shared):Prop :=
 ∃ (it:Addr) (fp:List Addr) (tn:Nat->Heap->Prop) (J:It) (H':Hp),itv=.ref it/\Inv X pins σ H' s2/\Turn X.prog X.w X.K tg J fp it tn/\tn 0 s2.heap/\(∀ b∈fp,ysY X pins H' b)/\R J H'
def PI (X:Cx) (tg iter:Expr) (wi:TI):Prop :=
 ∀ (pins:List (Addr×Obj)) (s:Shared) (σ:St) (H:Hp) (R:It->Hp->Prop),Inv X pins σ H s->wi σ H R ->
  wpAny (model X.prog X.w) X.A (eval iter X.env) (fun v s1=>wpAny (model X.prog X.w) X.A (pyIter v) (PIE X pins σ tg R) X.xe s1) X.xe s
theorem ypI {M:Model}{A:Around}{E:Value->Shared->Prop}{s:Shared}{c:Expr}{d:Addr}{u:Value}{o:Obj}{n:String}{vs:Array Value}{Q:Unit->Shared->Prop}(f:s.heap.get? d=some o) (e:o.cls=.type n) (g:o.data=.fields vs)
    (h:["enumerate","zip","dict_itemiterator","dict_reverseitemiterator","odict_iterator","itertools.zip_longest","itertools.pairwise"].contains n=false) (b:Q () s):wpAny M A (letOwnedTupleGo c (.ref d) u) Q E s:=by
  cases c<;>first
    | exact wpAny_pure b
    | (cases u<;>first
        | exact wpAny_pure b
        | (refine wpAny_bind (wpAny_load f ?_)
           rw [e,g]
           show wpAny M A (if (["enumerate","zip","dict_itemiterator","dict_reverseitemiterator","odict_iterator","itertools.zip_longest","itertools.pairwise"].contains n && vs[0]? == some _)=true then _ else _) Q E s
           rw [if_neg (by grind)]
           exact wpAny_pure b))
def Itl (K:PySem.W.Frag) (a:Addr):It :=
 ⟨fun i H=>∃ xs x,SqL K H a xs/\xs[i]?=some x,fun i H x H'=>H'=H/\∀ xs,SqL K H a xs->xs[i]?=some x,fun i H=>∃ xs,SqL K H a xs/\xs.length<=i⟩
noncomputable def Itr (lo:Int) (n:Nat):It:=⟨fun i _=>i<n,fun i H x H'=>H'=H/\x=.int (lo+i),fun i _=>n<=i⟩
theorem ypJ {P:Program}{w:World}{K:PySem.W.Frag}{J:Expr} a j:Turn P w K J (Itl K a) [j] j fun i h=>h.IsListIter j a i where
 mem:=by simp
 obj:=fun i h st b g=>by
  have e:=by simpa using g
  obtain ⟨o,e,c,d⟩:=st
  simp_all
 keep:=fun i h h' st k=>st.at fun o e=>k j (by simp) o e
 item:=by
  intro X D A z G i m s σ H E I n st r
  subst D A z
  obtain ⟨xs,x,q,t⟩:=r
  obtain ⟨its,C,p,hz⟩:=I.list q
  obtain ⟨u,L,S⟩:=C.get t
  obtain ⟨f0,B,N,F,y,v⟩:=n j (by simp)
  refine wpAny_pyNext_list_item st p.isList (by simpa using L) fun h' l M=>?_
  have Q:=I.turned (t':=s.toks) (fun b o g e=>(M.2 b g).trans e) f0 B F y v
  obtain ⟨o,e,c,d⟩:=id l
  exact ⟨u,rfl,ypI e c d (by decide) ⟨x,H,Q,S,⟨rfl,fun ys R=>by rw [I.list_inj R q];exact t⟩,l,fun b g=>(n b g).1⟩⟩
 done:=by
  intro X D A z G i m s σ H E I n st r
  subst D A z
  obtain ⟨xs,q,t⟩:=r
  obtain ⟨its,C,p,hz⟩:=I.list q
  obtain ⟨f0,B,N,F,y,v⟩:=n j (by simp)
  have hl:=C.length
  exact wpAny_pyNext_list_end (I.ok.hd G) st p.isList (by simp;omega) fun h' O=>⟨rfl,I.turned (fun b o g e=>O b o g e) f0 B F y v⟩
 self:=fun _ _ _ _ _ st h=>wpAny_pyIter_listiter st h
theorem yoH {P:Program}{w:World}{K:PySem.W.Frag}{D:Expr} d lo n:Turn P w K D (Itr lo n) [d] d (fun i h=>IsRangeIter h d (lo+i*1) (n-i) 1) where
 mem:=by simp
 obj:=fun i h st b f=>by
  simp_all
 keep:=fun i h h' st k=>k d (by simp) _ st
 item:=by
  intro X z x y p i c s σ H E I j st r
  subst z x y
  obtain ⟨f0,q,F,u,l,m⟩:=j d (by simp)
  have W:=Walks.range (prog:=X.prog) (w:=X.w) (I.ok.hd p) d lo 1 n
  refine W.item i s _ _ r st fun v h' J C g A=>?_
  obtain ⟨t,rfl⟩:=C
  have G:Inv X c σ H { s with heap:=h',toks:=J }:=I.turned (fun b o f e=>A b o (by simpa using f) e) f0 q u l m
  refine ⟨_,rfl,ypI g rfl rfl (by decide) ⟨.int _,H,G,⟨t,?_⟩,⟨rfl,rfl⟩,g,fun b f=>(j b f).1⟩⟩
  rw [Int.mul_one]
 done:=by
  intro X z x y p i c s σ H E I j st r
  obtain ⟨f0,q,F,u,l,m⟩:=j d (by simp)
  exact wpAny_pyNext_range_end (I.ok.hd p) st (by have:n<=i:=r;omega) fun h' B=>⟨rfl,I.turned (fun b o f e=>B b o f e) f0 q u l m⟩
 self:=fun _ _ _ _ _ st h=>wpAny_pyIter_rangeiter st h
end L2
namespace L2
open PySem PySem.Spec PyProof.Rows
section
variable {X:Cx}{tg:Expr}
def ysZ (K:PySem.W.Frag) (tl:TE):TI:=fun σ H R=>tl σ H fun x H1=>∃ a,x=.ref a/\(∃ xs,SqL K H1 a xs)/\R (Itl K a) H1
theorem yjt {l:Expr}{tl:TE}(hl:PE X l tl):PI X tg l (ysZ X.K tl):=by
 intro d s σ H R I h
 refine thn (hl d s σ H _ I h) fun v s1 ⟨x,j,f,g,i⟩=>?_
 obtain ⟨a,e,⟨xs,k⟩,q⟩:=i
 subst e
 cases g
 obtain ⟨its,n,p,hz⟩:=f.list k
 refine wpAny_pyIter_list p.isList ?_
 refine ⟨s1.heap.objs.size,_,_,_,j,rfl,f.kept fun b o e=>Heap.get?_push_of_some _ e,ypJ a _,⟨_,Heap.get?_push_size _ rfl,rfl,rfl⟩,fun b m=>?_,q⟩
 have e:=by simpa using m
 subst e
 exact f.fpOk (Nat.le_refl _) (f.hok.fresh (Nat.le_refl _))
theorem yta {c:List _}{σ:St}{H:Hp}{s:Shared}{R:It->Hp->Prop}{E:Value->Shared->Prop}{lo d:Int}{t u v:Tok}{g:Nat}(I:Inv X c σ H s) (h1:-2 ^ 62<=lo) (h2:lo<2 ^ 62) (j:-2 ^ 62<=d) (k:d<2 ^ 62)
  (q:R (Itr lo (d-lo).toNat) H):wpAny (model X.prog X.w) X.A (pyIter (.ref s.heap.objs.size)) (PIE X c σ tg R) E { s with heap:=s.heap.push { cls:=.type "range",data:=.fields #[.int lo t,.int d u,.int 1 v] },toks:=g }:=by
 refine wpAny_pyIter_range (IsRange.new ..) (small_one h1 h2 j k) ?_
 have f:Inv X c σ H { s with heap:=s.heap.push { cls:=.type "range",data:=.fields #[.int lo t,.int d u,.int 1 v] },toks:=g }:=I.kept fun b o e=>Heap.get?_push_of_some _ e
 refine ⟨_,_,_,_,H,rfl,
  f.kept fun b o e=>Heap.get?_push_of_some _ e,yoH _ lo _,?_,fun b h=>?_,q⟩
 .have l:lo+(0:Nat)*1=lo:=by simp
  have i:((d-lo).toNat:Int)-(0:Nat)=Builtin.Range.rangeSize lo d 1:=by rw [rangeSize_one];split<;>omega
  rw [l,i]
  exact Heap.get?_push_size _ rfl
 .have e:b=(s.heap.push { cls:=.type "range",data:=.fields #[.int lo t,.int d u,.int 1 v] }).objs.size:=by simpa using h
  subst e
  exact f.fpOk (Nat.le_refl _) (f.hok.fresh (Nat.le_refl _))
def yAb (ta:TA):TI:=fun σ H R=>ta σ H fun vs H1=>∃ j:Int,vs=[.int j]/\-(2 ^ 62)<=j/\j<2 ^ 62/\R (Itr 0 j.toNat) H1
theorem ypK {a:Expr}{f:TA}{p pos:Pos}(l:Gl X "range") (n:X.mg "range" = none) (m:PA X [a] f) (hs:starEach [a] X.env=[(false,eval a X.env)]:=by rfl):PI X tg (.Call (.Name "range" p) [a] [] pos) (yAb f):=by
 intro c s σ H R I h
 refine Call_ (ykK I l n boot_range (PyProof.Rows.callWith_type1 (thn (m pos c s σ H _ I h) fun us s1 ⟨vs,o,g,k,d⟩=>?_) hs rfl))
 obtain ⟨j,e,d,i,q⟩:=d
 subst e
 cases k with
 | cons r rr =>
  cases rr
  obtain ⟨t,rfl⟩:=r
  exact call_range_1 (yta g (by omega) (by omega) d i (by simpa using q))
def yAc (wi:TI) (g:TG) (tb:TS):TS:=fun D σ H=>wi σ H fun J H1=>∃ W:Nat->Nat->St->Hp->Prop,(∃ m,W 0 m σ H1)/\∀ i m σ H,W i m σ H ->
 (J.stop i H/\D.nx σ H)\/(J.go i H/\∃ N:St->Hp->Prop,(∀ σ' H',N σ' H'->∃ m',m'<m/\W (i+1) m' σ' H')/\∀ x H',J.yld i H x H'->g x σ H' fun σ2 H2=>tb { D with nx:=N,ct:=N,bk:=D.nx } σ2 H2)
noncomputable def ynF (fp:List Addr) (h:Heap):List (Addr×Obj):=fp.filterMap fun b=>(h.get? b).map fun o=>(b,o)
theorem ycO {fp:List Addr}{h:Heap}{b:Addr}{o:Obj}(c:b∈fp) (e:h.get? b=some o):(b,o)∈ynF fp h:=List.mem_filterMap.mpr ⟨b,c,by rw [e];rfl⟩
theorem ypL {fp:List Addr}{h:Heap}{p:Addr×Obj}(hp:p∈ynF fp h):p.1∈fp/\h.get? p.1=some p.2:=by
 obtain ⟨b,a,e⟩:=List.mem_filterMap.mp hp
 cases q:h.get? b with
 | none=>rw [q] at e;cases e
 | some o =>
  rw [q] at e
  have c:=Option.some.inj e
  subst c
  exact ⟨a,q⟩
theorem Inv.pinned {c:List _}{σ:St}{H:Hp}{s:Shared}{fp:List Addr}(I:Inv X c σ H s) (f:∀ b∈fp,ysY X c H b) (h:∀ b∈fp,∃ o,s.heap.get? b=some o/\∀ v,o.data≠.cell v):Inv X (c++ynF fp s.heap) σ H s :=
 I.pins_of fun p hp=>(List.mem_append.mp hp).elim (fun z=>I.pin p (mem_append_right _ z)) fun z=>by
  obtain ⟨d,e⟩:=ypL z
  obtain ⟨f0,i,g,_⟩:=f p.1 d
  grind
theorem Inv.unpinned {b pl:List _}{σ:St}{H:Hp}{s:Shared}(I:Inv X (b++pl) σ H s):Inv X b σ H s:=I.pins_of fun p hp=>I.pin p (mem_append_right _ (mem_append_left _ hp))
theorem ynG {iter:Expr}{body:List Stmt}{U:TI}{g:TG}{tb:TS}{pos:Pos}(hp:PassesOwn (model X.prog X.w) X.A X.env X.xe) (Y:X.calm=true) (hi:PI X tg iter U) (hg:PG X tg g) (w:PSs X body tb)
  (hs:∀ x,foldedSetIterable iter X.env x=pure x:=by intro _;rfl):PS X (.For tg iter body [] pos) (yAc U g tb):=by
 intro c s σ H D I h
 refine wpAny_For (thn (hi c s σ H _ I h) fun v s1 h1=>thn h1 fun itv s2 h2=>?_) hs
 obtain ⟨it,fp,tn,J,H2,e,I2,T,O,f2,W,⟨m0,w0⟩,turn⟩:=h2
 subst e
 have k:∀ {y:Hp},(∀ b∈fp,y b=none)->∀ b∈fp,ysY X c y b:=fun hn b w=>⟨hn b w,(f2 b w).2⟩
 refine codeAny_forLoop_any (fun n s'=>∃ i l y,Inv X c l y s'/\tn i s'.heap/\(∀ b∈fp,y b=none)/\W i n l y) ?_ m0 ⟨0,σ,H2,I2,O,fun b w=>(f2 b w).1,w0⟩
 rintro n s3 ⟨i,t,G,Z,C,E,w3⟩
 rcases turn i n t G w3 with ⟨B,qn⟩|⟨go,N,hN,step⟩
 .refine wpAny_passesOwn hp (thn (T.done X rfl rfl rfl Y i c s3 t G X.xe Z (k E) C B) fun r s4 ⟨P,I4⟩=>?_)
  subst P
  exact wpAny_execs_nil ⟨t,G,I4,qn⟩
 .refine wpAny_passesOwn hp (thn (T.item X rfl rfl rfl Y i c s3 t G X.xe Z (k E) C go) fun r s4 ⟨u,P,h4⟩=>?_)
  subst P
  refine wpAny_passesOwn hp (thn h4 fun _ s5 ⟨x,S,I5,r5,y5,A,R⟩=>?_)
  have Q:=I5.pinned (k R) (T.obj _ _ A)
  refine wpAny_passesOwn hp (thn (hg _ s5 t S x u _ Q r5 (step x S y5)) fun _ s6 ⟨L,H6,I6,q6⟩=>?_)
  refine wpAny_passesOwn hp (thn (w _ s6 L H6 _ I6 q6) fun f M z=>?_)
  have again:∀ {j:St}{q:Hp},Inv X (c++ynF fp s5.heap) j q M->N j q->∃ m,m<n/\∃ i l y,Inv X c l y M/\tn i M.heap/\(∀ b∈fp,y b=none)/\W i m l y:=fun {j q} p F=>by
   obtain ⟨m',hm,w7⟩:=hN j q F
   refine ⟨m',hm,i+1,j,q,p.unpinned,T.keep _ _ _ A fun b w o e=>(p.pin (b,o) (mem_append_right _ (mem_append_right _ (ycO w e)))).1,fun b w=>?_,w7⟩
   obtain ⟨o,e,d⟩:=T.obj _ _ A b w
   exact (p.pin (b,o) (mem_append_right _ (mem_append_right _ (ycO w e)))).2.1
  cases f with
  | next=>obtain ⟨j,q,p,F⟩:=z;exact again p F
  | cont=>obtain ⟨j,q,p,F⟩:=z;exact again p F
  | brk=>obtain ⟨j,q,p,z⟩:=z;exact ⟨j,q,p.unpinned,z⟩
  | ret v=>obtain ⟨x7,j,q,p,r7,z⟩:=z;exact ⟨x7,j,q,p.unpinned,r7,z⟩
end
end L2
namespace L2
open PySem PySem.Spec PyProof.Rows
abbrev R2:=V->V->Hp->VK->Prop
def OpR (X:Cx) (f:Value->Value->Sem Value) (r:R2):Prop :=
 ∀ (pins:List (Addr×Obj)) (s:Shared) (σ:St) (H:Hp) (x y:V) (v u:Value) (Q:VK),Inv X pins σ H s->RelV x v->RelV y u->r x y H Q ->
  wpAny (model X.prog X.w) X.A (f v u) (EP X pins σ Q) X.xe s
def UnR (X:Cx) (f:Value->Sem Value) (r:V->Hp->VK->Prop):Prop :=
 ∀ (pins:List (Addr×Obj)) (s:Shared) (σ:St) (H:Hp) (x:V) (v:Value) (Q:VK),Inv X pins σ H s->RelV x v->r x H Q ->
  wpAny (model X.prog X.w) X.A (f v) (EP X pins σ Q) X.xe s
def yfg (X:Cx) (f:Value) (r:List V->Hp->VK->Prop):Prop :=
 ∀ (pins:List (Addr×Obj)) (s:Shared) (σ:St) (H:Hp) (xs:List V) (us:List Value) (Q:VK),Inv X pins σ H s->Vals xs us->r xs H Q ->
  wpAny (model X.prog X.w) X.A (call f us) (EP X pins σ Q) X.xe s
noncomputable def tOp (r:R2) (ta tb:TE):TE:=fun σ H Q=>ta σ H fun x H1=>tb σ H1 fun y H2=>r x y H2 Q
noncomputable def tUn (r:V->Hp->VK->Prop) (ta:TE):TE:=fun σ H Q=>ta σ H fun x H1=>r x H1 Q
noncomputable def rI (C:Int->Int->Prop) (g:Int->Int->V):R2:=fun x y H Q=>∃ i j,x=.int i/\y=.int j/\C i j/\Q (g i j) H
noncomputable def rI0 (g:Int->Int->V):R2:=fun x y H Q=>∃ i j,x=.int i/\y=.int j/\Q (g i j) H
noncomputable def rU (g:Int->V):V->Hp->VK->Prop:=fun x H Q=>∃ i,x=.int i/\Q (g i) H
section
variable {X:Cx}{a b c:Expr}{ta tb tc:TE}{pos:Pos}
theorem yCY (p:PE X a ta) (r:PE X b tb) {e:List _}{s:Shared}{σ:St}{H:Hp}{R:V->V->Hp->Prop}(I:Inv X e σ H s)
  (h:ta σ H fun x k=>tb σ k fun y g=>R x y g) {Q:Value->Shared->Prop}{f:Value->Value->Sem Value}
  (m:∀ v u s2 x y g,Inv X e σ g s2->RelV x v->RelV y u->R x y g->wpAny (model X.prog X.w) X.A (f v u) Q X.xe s2) :
  wpAny (model X.prog X.w) X.A (eval a X.env) (fun v j=>wpAny (model X.prog X.w) X.A (eval b X.env) (fun u i=>wpAny (model X.prog X.w) X.A (f v u) Q X.xe i) X.xe j) X.xe s:=by
 refine thn (p e s σ H _ I h) fun v s1 ⟨x,k,q,t,n⟩=>?_
 exact thn (r e s1 σ k _ q n) fun u s2 ⟨y,g,l,r2,o⟩=>m v u s2 x y g l t r2 o
theorem yAd {op:Operator}{r:R2}(i:OpR X (binaryOp op) r) (k:PE X a ta) (g:PE X b tb):PE X (.BinOp a op b pos) (tOp r ta tb):=by
 intro e s σ H Q I h
 exact wpAny_BinOp (yCY k g I h fun v u s2 x y j f m l q=>i e s2 σ j x y v u Q f m l q)
theorem yCZ {op:UnaryOp}{r:V->Hp->VK->Prop}(i:UnR X (unaryOp op) r) (j:PE X a ta):PE X (.UnaryOp op a pos) (tUn r ta):=by
 intro e s σ H Q I h
 exact UnaryOp_ (thn (j e s σ H _ I h) fun v s1 ⟨x,g,k,f,l⟩=>i e s1 σ g x v Q k f l)
theorem opI {f:Value->Value->Sem Value}{C:Int->Int->Prop}{g:Int->Int->Int}
  (rule:∀ i j t u s Q E,C i j->Q (.int (g i j) s.toks) { s with toks:=s.toks+1 }->wpAny (model X.prog X.w) X.A (f (.int i t) (.int j u)) Q E s) :
  OpR X f (rI C fun i j=>.int (g i j)):=by
 intro e s σ H x y v u Q I m l h
 obtain ⟨i,j,rfl,rfl,k,q⟩:=h
 obtain ⟨t,rfl⟩:=m
 obtain ⟨t',rfl⟩:=l
 exact rule i j t t' s _ _ k ⟨.int _,H,I.tok _,⟨_,rfl⟩,q⟩
theorem yET {f:Value->Value->Sem Value}{g:Int->Int->Int}
  (rule:∀ i j t u s Q E,Q (.int (g i j) s.toks) { s with toks:=s.toks+1 }->wpAny (model X.prog X.w) X.A (f (.int i t) (.int j u)) Q E s) :
  OpR X f (rI0 fun i j=>.int (g i j)):=by
 intro e s σ H x y v u Q I l k h
 obtain ⟨i,j,rfl,rfl,q⟩:=h
 obtain ⟨t,rfl⟩:=l
 obtain ⟨t',rfl⟩:=k
 exact rule i j t t' s _ _ ⟨.int _,H,I.tok _,⟨_,rfl⟩,q⟩
theorem yCC {f:Value->Value->Sem Value}{g:Int->Int->Bool}
  (rule:∀ i j t u s Q E,Q (.bool (g i j)) s->wpAny (model X.prog X.w) X.A (f (.int i t) (.int j u)) Q E s) :
  OpR X f (rI0 fun i j=>.bl (g i j)):=by
 intro e s σ H x y v u Q I l k h
 obtain ⟨i,j,rfl,rfl,q⟩:=h
 obtain ⟨t,rfl⟩:=l
 obtain ⟨t',rfl⟩:=k
 exact rule i j t t' s _ _ ⟨.bl _,H,I,rfl,q⟩
noncomputable def yEU (i j:Int):Prop:=0<j/\j<1073741824
noncomputable def yDa (i j:Int):Prop:=0<=j/\j<=1000000/\i.natAbs<2 ^ 64
noncomputable def CMul (i j:Int):Prop:=(-(2 ^ 64)<i/\i<2 ^ 64)\/(-(2 ^ 64)<j/\j<2 ^ 64)
theorem CMul.ok {i j:Int}(h:CMul i j):IntMulOk i j:=by
 rcases h with ⟨h1,h2⟩|⟨h1,h2⟩
 .exact .of_left (intBits_le_64 h1 h2)
 .exact .of_right (intBits_le_64 h1 h2)
theorem ycd:OpR X (binaryOp .Add) (rI0 fun i j=>.int (i+j)):=yET fun _ _ _ _ _ _ _ q=>add_int q
theorem ykL:OpR X (binaryOp .Sub) (rI0 fun i j=>.int (i-j)):=yET fun _ _ _ _ _ _ _ q=>sub_int q
theorem ykM:OpR X (binaryOp .Mult) (rI CMul fun i j=>.int (i*j)):=opI fun _ _ _ _ _ _ _ e q=>mul_int q e.ok
theorem yej:OpR X (binaryOp .FloorDiv) (rI yEU fun i j=>.int (i/j)):=opI fun i j _ _ _ _ _ e q=>by
 have h1:=e.1
 have h2:=e.2
 exact floordiv_int (by omega) (by rw [Int.fdiv_eq_ediv_of_nonneg i (by omega)];exact q) (.inl (PyProof.noPylong_small (by omega)))
theorem ych:OpR X (binaryOp .Mod) (rI (fun _ j=>0<j) fun i j=>.int (i%j)):=opI fun i j _ _ _ _ _ e q=>by
 exact mod_int' (by omega) (by rw [Int.fmod_eq_emod_of_nonneg i (by omega)];exact q)
theorem ypM:OpR X (binaryOp .Pow) (rI yDa fun i j=>.int (i ^ j.toNat)):=opI fun _ _ _ _ _ _ _ e q=>pow_int_small e.1 e.2.1 e.2.2 q
theorem unI {f:Value->Sem Value}{g:Int->Int}
  (rule:∀ i t s Q E,Q (.int (g i) s.toks) { s with toks:=s.toks+1 }->wpAny (model X.prog X.w) X.A (f (.int i t)) Q E s) :
  UnR X f (rU fun i=>.int (g i)):=by
 intro e s σ H x v Q I j h
 obtain ⟨i,rfl,q⟩:=h
 obtain ⟨t,rfl⟩:=j
 exact rule i t s _ _ ⟨.int _,H,I.tok _,⟨_,rfl⟩,q⟩
theorem yfR:UnR X (unaryOp .USub) (rU fun i=>.int (-i)):=unI fun _ _ _ _ _ q=>neg_int q
end
noncomputable def yvH:V->V->Bool
 | .non,.non=>true|.non,.int _=>true|.int _,.non=>true|.non,.bl _=>true|.bl _,.non=>true|.non,.str _=>true|.str _,.non=>true
 | .int _,.int _=>true|.bl _,.bl _=>true|.str _,.str _=>true|.byt _,.byt _=>true
 | .int _,.str _=>true|.str _,.int _=>true|.bl _,.str _=>true|.str _,.bl _=>true
 | _,_=>false
def rEq:R2:=fun x y H Q=>yvH x y=true/\Q (.bl (decide (x=y))) H
def rNe:R2:=fun x y H Q=>yvH x y=true/\Q (.bl (!decide (x=y))) H
theorem ypN {i j:Int}:decide (V.int i=V.int j)=(i == j):=by
 rw [Bool.eq_iff_iff]
 simp
theorem yvI {i j:Bool}:decide (V.bl i=V.bl j)=(i == j):=by
 rw [Bool.eq_iff_iff]
 simp
theorem ypO {i j:Str}:decide (V.str i=V.str j)=(i == j):=by
 rw [Bool.eq_iff_iff]
 simp
theorem ypP {i j:Array UInt8}:decide (V.byt i=V.byt j)=(i.toList == j.toList):=by
 rw [Bool.eq_iff_iff]
 cases i
 cases j
 simp
section
variable {X:Cx}{a b c:Expr}{ta tb tc:TE}{pos:Pos}
theorem ybl {f:List _}{σ:St}{H:Hp}{s:Shared}{Q:VK}{k g:Bool}(I:Inv X f σ H s) (q:Q (.bl k) H) (e:k=g):EP X f σ Q (.bool g) s:=by
 subst e
 exact ⟨.bl k,H,I,rfl,q⟩
theorem ybd:OpR X (compareOp .Eq) rEq:=by
 intro g s σ H x y v u Q I f e h
 obtain ⟨hs,q⟩:=h
 cases x with
 | non =>
  cases f
  cases y with
  | non=>cases e;exact PySem.EqNone.eq_none_none (ybl I q (by simp))
  | bl j=>cases e;exact PySem.EqNone.eq_none_bool (ybl I q (by simp))
  | int j=>obtain ⟨t',rfl⟩:=e;exact PySem.EqNone.eq_none_int (ybl I q (by simp))
  | str j=>obtain ⟨t',rfl⟩:=e;exact PySem.EqNone.eq_none_str (ybl I q (by simp))
  | _=>exact absurd (show false=true from hs) Bool.false_ne_true
 | bl i =>
  cases f
  cases y with
  | non=>cases e;exact PySem.EqNone.eq_bool_none (ybl I q (by simp))
  | bl j=>cases e;exact eq_bool (ybl I q yvI)
  | str j=>obtain ⟨t',rfl⟩:=e;exact PySem.EqMixed.eq_bool_str (ybl I q (by simp))
  | _=>exact absurd (show false=true from hs) Bool.false_ne_true
 | int i =>
  obtain ⟨t,rfl⟩:=f
  cases y with
  | non=>cases e;exact PySem.EqNone.eq_int_none (ybl I q (by simp))
  | int j=>obtain ⟨t',rfl⟩:=e;exact eq_int (ybl I q ypN)
  | str j=>obtain ⟨t',rfl⟩:=e;exact PySem.EqMixed.eq_int_str (ybl I q (by simp))
  | _=>exact absurd (show false=true from hs) Bool.false_ne_true
 | str i =>
  obtain ⟨t,rfl⟩:=f
  cases y with
  | non=>cases e;exact PySem.EqNone.eq_str_none (ybl I q (by simp))
  | bl j=>cases e;exact PySem.EqMixed.eq_str_bool (ybl I q (by simp))
  | int j=>obtain ⟨t',rfl⟩:=e;exact PySem.EqMixed.eq_str_int (ybl I q (by simp))
  | str j=>obtain ⟨t',rfl⟩:=e;exact eq_str (ybl I q ypO)
  | _=>exact absurd (show false=true from hs) Bool.false_ne_true
 | byt i =>
  obtain ⟨t,rfl⟩:=f
  cases y with
  | byt j=>obtain ⟨t',rfl⟩:=e;exact PySem.W.eq_bytes (ybl I q ypP)
  | _=>exact absurd (show false=true from hs) Bool.false_ne_true
 | _=>cases y<;>exact absurd (show false=true from hs) Bool.false_ne_true
theorem yfS:OpR X (compareOp .NotEq) rNe:=by
 intro g s σ H x y v u Q I f e h
 obtain ⟨hs,q⟩:=h
 cases x with
 | non =>
  cases f
  cases y with
  | non=>cases e;exact PySem.EqNone.ne_none_none (ybl I q (by simp))
  | bl j=>cases e;exact PySem.EqNone.ne_none_bool (ybl I q (by simp))
  | int j=>obtain ⟨t',rfl⟩:=e;exact PySem.EqNone.ne_none_int (ybl I q (by simp))
  | str j=>obtain ⟨t',rfl⟩:=e;exact PySem.EqNone.ne_none_str (ybl I q (by simp))
  | _=>exact absurd (show false=true from hs) Bool.false_ne_true
 | bl i =>
  cases f
  cases y with
  | non=>cases e;exact PySem.EqNone.ne_bool_none (ybl I q (by simp))
  | bl j=>cases e;exact ne_bool (ybl I q (congrArg not yvI))
  | str j=>obtain ⟨t',rfl⟩:=e;exact PySem.EqMixed.ne_bool_str (ybl I q (by simp))
  | _=>exact absurd (show false=true from hs) Bool.false_ne_true
 | int i =>
  obtain ⟨t,rfl⟩:=f
  cases y with
  | non=>cases e;exact PySem.EqNone.ne_int_none (ybl I q (by simp))
  | int j=>obtain ⟨t',rfl⟩:=e;exact ne_int (ybl I q (congrArg not ypN))
  | str j=>obtain ⟨t',rfl⟩:=e;exact PySem.EqMixed.ne_int_str (ybl I q (by simp))
  | _=>exact absurd (show false=true from hs) Bool.false_ne_true
 | str i =>
  obtain ⟨t,rfl⟩:=f
  cases y with
  | non=>cases e;exact PySem.EqNone.ne_str_none (ybl I q (by simp))
  | bl j=>cases e;exact PySem.EqMixed.ne_str_bool (ybl I q (by simp))
  | int j=>obtain ⟨t',rfl⟩:=e;exact PySem.EqMixed.ne_str_int (ybl I q (by simp))
  | str j=>obtain ⟨t',rfl⟩:=e;exact ne_str (ybl I q (congrArg not ypO))
  | _=>exact absurd (show false=true from hs) Bool.false_ne_true
 | byt i =>
  obtain ⟨t,rfl⟩:=f
  cases y with
  | byt j=>obtain ⟨t',rfl⟩:=e;exact PySem.W.ne_bytes (ybl I q (congrArg not ypP))
  | _=>exact absurd (show false=true from hs) Bool.false_ne_true
 | _=>cases y<;>exact absurd (show false=true from hs) Bool.false_ne_true
theorem yju:OpR X (compareOp .Lt) (rI0 fun i j=>.bl (decide (i<j))):=yCC fun _ _ _ _ _ _ _ q=>lt_int q
theorem yhv:OpR X (compareOp .LtE) (rI0 fun i j=>.bl (decide (i<=j))):=yCC fun _ _ _ _ _ _ _ q=>le_int q
theorem ytb:OpR X (compareOp .Gt) (rI0 fun i j=>.bl (decide (j<i))):=yCC fun _ _ _ _ _ _ _ q=>gt_int q
theorem yDb:OpR X (compareOp .GtE) (rI0 fun i j=>.bl (decide (j<=i))):=yCC fun _ _ _ _ _ _ _ q=>ge_int q
theorem ypQ:OpR X (compareOp .In) (fun x y H Q=>∃ i j,x=.str i/\y=.str j/\Q (.bl !(Builtin.Str.occurrences j i 0 j.length 1).isEmpty) H):=by
 intro e s σ H x y v u Q I g f h
 obtain ⟨i,j,rfl,rfl,q⟩:=h
 obtain ⟨t,rfl⟩:=g
 obtain ⟨t',rfl⟩:=f
 exact in_str (ybl I q rfl)
theorem ynH:OpR X (compareOp .Is) fun x y H Q=>y=.non/\Q (.bl (decide (x=.non))) H:=by
 intro e s σ H x y v u Q I g f h
 obtain ⟨rfl,q⟩:=h
 cases f
 refine is_none_gen (ybl I q ?_)
 cases x<;>first
  | (rfl)
  | (obtain ⟨t,rfl⟩:=g;rfl)
theorem ywR:OpR X (compareOp .IsNot) fun x y H Q=>y=.non/\Q (.bl (!decide (x=.non))) H:=by
 intro e s σ H x y v u Q I g f h
 obtain ⟨rfl,q⟩:=h
 cases f
 refine isnot_none_gen (ybl I q ?_)
 cases x<;>first
  | (rfl)
  | (obtain ⟨t,rfl⟩:=g;rfl)
theorem yiN b {op:CmpOp}(h:op≠.In:=by decide) (h2:op≠.NotIn:=by decide):behindInMarks op b=false:=by
 have f:(op == CmpOp.In)=false:=by grind
 have e:(op == CmpOp.NotIn)=false:=by simp_all
 cases b<;>simp [behindInMarks,f,e]
theorem ywS {op:CmpOp}{r:R2}(j:OpR X (compareOp op) r) (l:PE X a ta) (i:PE X b tb) (g:behindInMarks op b=false):PE X (.Compare a [op] [b] pos) (tOp r ta tb):=by
 intro e s σ H Q I h
 exact wpAny_Compare1 (yCY l i I h fun v u s2 x y k f n m q=>j e s2 σ k x y v u Q f n m q) g
def ywT (t:TE):TT:=fun σ H Q=>t σ H fun x H'=>∃ k,x=.bl k/\Q k H'
theorem ywU {op:CmpOp}{r:R2}(B:OpR X (compareOp op) r) (t:PE X a ta) (l:PE X b tb) (j:behindInMarks op b=false):PT X (.Compare a [op] [b] pos) (ywT (tOp r ta tb)):=by
 intro f s σ H Q I h
 refine wpAny_isTrue_Compare1 (thn (t f s σ H _ I h) fun v s1 ⟨x,A,n,p,w⟩=>thn (l f s1 σ A _ n w) fun u s2 ⟨y,C,D,r2,i⟩ =>
  thn (B f s2 σ C x y v u _ D p r2 i) fun c s3 ⟨z,g,o,q,k,e,m⟩=>?_) j
 subst e
 cases q
 exact wpAny_truthy_bool ⟨g,o,m⟩
noncomputable def ypR (r r':R2) (ta tb tc:TE):TE:=fun σ H Q=>ta σ H fun x H1=>tb σ H1 fun y H2=>r x y H2 fun z H3=>∃ k,z=.bl k /\
 (if k=true then tc σ H3 fun w' H4=>r' y w' H4 Q else Q (.bl false) H3)
theorem ytc {op i:CmpOp}{r n:R2}(N:OpR X (compareOp op) r) (j:OpR X (compareOp i) n) (G:PE X a ta) (C:PE X b tb) (O:PE X c tc)
  (w:lastMarks [op,i] [b,c]=false:=by with_unfolding_all rfl):PE X (.Compare a [op,i] [b,c] pos) (ypR r n ta tb tc):=by
 intro g s σ H Q I h
 refine Compare_chain (thn (G g s σ H _ I h) fun v s1 ⟨x,L,B,D,J⟩=>chain_link (thn (C g s1 σ L _ B J) fun u s2 ⟨y,P,F,r2,t⟩ =>
  thn (N g s2 σ P x y v u _ F D r2 t) fun d s3 ⟨z,l,o,E,k,e,m⟩=>?_)) w
 subst e
 cases E
 refine wpAny_truthy_bool ?_
 cases k with
 | false=>exact ite_ff ⟨.bl false,l,o,rfl,m⟩
 | true=>exact ite_tt (chain_last (thn (O g s3 σ l _ o m) fun q s4 ⟨p,R,S,M,A⟩=>j g s4 σ R y p u q Q S r2 M A))
theorem ytd {op i:CmpOp}{r n:R2}(R:OpR X (compareOp op) r) (j:OpR X (compareOp i) n) (N:PE X a ta) (w:PE X b tb) (Z:PE X c tc)
  (q:lastMarks [op,i] [b,c]=false:=by with_unfolding_all rfl):PT X (.Compare a [op,i] [b,c] pos) (ywT (ypR r n ta tb tc)):=by
 intro g s σ H Q I h
 refine isTrue_chain (thn (N g s σ H _ I h) fun v s1 ⟨x,T,F,J,P⟩=>test_link (thn (w g s1 σ T _ F P) fun u s2 ⟨y,W,Y,r2,q2⟩ =>
  thn (R g s2 σ W x y v u _ Y J r2 q2) fun d s3 ⟨z,o,l,L,k,e,m⟩=>?_)) q
 subst e
 cases L
 refine wpAny_truthy_bool ?_
 cases k with
 | false =>
  obtain ⟨k',B,t⟩:=m
  cases B
  exact ite_ff ⟨o,l,t⟩
 | true =>
  refine ite_tt (test_last (thn (Z g s3 σ o _ l m) fun M s4 ⟨C,p,I4,U,E⟩=>thn (j g s4 σ p y C u M _ I4 r2 U E) fun d' s5 ⟨z2,S,G,D,k2,A,O⟩=>?_))
  subst A
  cases D
  exact wpAny_truthy_bool ⟨S,G,O⟩
theorem yiO:sizeLine<2 ^ 63:=by decide
theorem yP:OpR X (binaryOp .Add) fun x y H Q=>∃ i j,x=.str i/\y=.str j/\i.length+j.length<=sizeLine/\Q (.str (i++j)) H:=by
 intro e s σ H x y v u Q I g f h
 obtain ⟨i,j,rfl,rfl,hz,q⟩:=h
 obtain ⟨t,rfl⟩:=g
 obtain ⟨t',rfl⟩:=f
 exact add_str (fun t' k=>⟨.str _,H,I.tok _,⟨_,rfl⟩,q⟩) hz
theorem vals1 {x:V}{us:List Value}(r:Vals [x] us):∃ u,us=[u]/\RelV x u:=by
 cases r with
 | cons r1 r2=>cases r2;exact ⟨_,rfl,r1⟩
theorem vals2 {x y:V}{us:List Value}(r:Vals [x,y] us):∃ u d,us=[u,d]/\RelV x u/\RelV y d:=by
 cases r with
 | cons r1 r2 =>
  cases r2 with
  | cons r3 r4=>cases r4;exact ⟨_,_,rfl,r1,r3⟩
theorem ykN:yfg X (.type "int") fun xs H Q=>(∃ i,xs=[.int i]/\Q (.int i) H)\/∃ k,xs=[.bl k]/\Q (.int (if k then 1 else 0)) H:=by
 intro e s σ H xs us Q I r h
 rcases h with ⟨i,rfl,q⟩|⟨k,rfl,q⟩
 .obtain ⟨u,rfl,t,rfl⟩:=vals1 r
  exact call_int_int ⟨.int i,H,I,⟨_,rfl⟩,q⟩
 .obtain ⟨u,rfl,f⟩:=vals1 r
  cases f
  exact call_int_bool ⟨.int _,H,I.tok _,⟨_,rfl⟩,q⟩
theorem yeE:yfg X (.type "str") fun xs H Q=>∃ i,xs=[.int i]/\i.natAbs.log2<1920/\Q (.str (toString i)) H:=by
 intro e s σ H xs us Q I r h
 obtain ⟨i,rfl,hz,q⟩:=h
 obtain ⟨u,rfl,t,rfl⟩:=vals1 r
 exact PySem.P.str_of_int hz ⟨.str _,H,I.tok _,⟨_,rfl⟩,q⟩
end
end L2
namespace L2
open PySem PySem.Spec PyProof.Rows
structure ObjM (h:Heap) (x dx C:Addr) (mA:Str->Option Value):Prop where
 obj:h.get? x=some (instObj C dx)
 ns:h.Ns1 dx mA
 ne:dx≠x
theorem ypS {h:Heap}{d:Addr}{f:Str->Option Value}(n:h.Ns1 d f):∃ od,h.get? d=some od/\∀ name,PySem.W.lookIn name od=some (f name):=by
 obtain ⟨o,es,ep,j,k,g,_,l⟩:=n
 refine ⟨o,j,fun name=>?_⟩
 have e:=l name
 unfold nsFind findBy at e
 rw [<- Array.find?_toList] at e
 unfold PySem.W.lookIn
 rw [k]
 dsimp only
 split
 .grind
 .have a:es.toList.any (·.refKey)=false:=by
   rw [List.any_eq_false]
   intro y i
   obtain ⟨z,t,c⟩:=g y (Array.mem_toList_iff.mp i)
   simp [DictEntry.refKey,c]
  grind
theorem ObjM.look {h:Heap}{x b C:Addr}{c:Str->Option Value}(I:ObjM h x b C c):∃ od,PySem.W.InstAt h x (instObj C b) C (some od)/\∀ name,PySem.W.lookIn name od=some (c name) :=
 let ⟨od,d,hl⟩:=ypS I.ns
 ⟨od,⟨I.obj,rfl,rfl,d⟩,hl⟩
section
variable {prog:Program}{w:World}{A:Around}{E:Value->Shared->Prop}{s:Shared}{K:PySem.W.Frag}{x dx C f:Addr}{mA:Str->Option Value}{name:Str}{v:Value}
theorem ywV {b:Bool}{Q:Value->Shared->Prop}(X:K.In s.heap) (I:ObjM s.heap x dx C mA) (d:plainGet K C name=true) (i:hasDictIn K C=true)
  (g:findIn K (.ref C) name=some none) (e:mA name=some v) (c:PySem.W.handedIn v=true) (h:Q v { s with toks:=s.toks+1 }) :
  wpAny (model prog w) A (getAttr (.ref x) name b) Q E s:=by
 obtain ⟨od,J,hl⟩:=I.look
 exact PySem.W.get_value X J (PySem.W.plainGet_of d).1 (PySem.W.findObj_own i g rfl (by rw [hl,e])) c h
theorem yte {pl:Sem Bool}{Q:Value×List Value->Shared->Prop}(X:K.In s.heap) (I:ObjM s.heap x dx C mA) (b:plainGet K C name=true)
  (d:findIn K (.ref C) name=some (some (.ref f))) (e:isFn K (.ref f)=true) (c:mA name=none) (h:Q (.ref f,[.ref x]) s) :
  wpAny (model prog w) A (getMethod (.ref x) name pl) Q E s:=by
 obtain ⟨od,J,hl⟩:=I.look
 exact PySem.W.method_fn X J (PySem.W.plainGet_of b).1 (PySem.W.plainGet_of b).2 d (beq_iff_eq.mp e) (by show (PySem.W.lookIn name od).map _=some false;rw [hl,c];rfl) h
theorem ywW {ns:List Str}{Q:Unit->Shared->Prop}(X:K.In s.heap) (I:ObjM s.heap x dx C mA)
  (hs:findIn K (.ref C) "__setattr__" = some (some (.builtin "object.__setattr__"))) (hp:PySem.W.plainOver K C=true) (n:PySem.W.takerIn K C name=some none) (q:hasDictIn K C=true)
  (k:PySem.Within mA ns) (hsz:ns.length<=sizeLine)
  (h:∀ h',ObjM h' x dx C (fun y=>if y=name then some v else mA y)->Heap.SameBut dx s.heap h'->Q () { s with heap:=h',toks:=s.toks+2 }) :
  wpAny (model prog w) A (setAttr (.ref x) name v) Q E s:=by
 obtain ⟨od,J,hl⟩:=I.look
 refine PySem.W.set_plain X J hs (PySem.W.osa_open X J hp n fun b=>?_)
 obtain ⟨r,p,g⟩:=PySem.W.any_some q
 have m:=I.obj
 refine wpAny_bind (wpAny_pure (wpAny_bind (wpAny_bind (wpAny_loadPart m (wpAny_bind (PySem.W.Looks.here (PySem.W.looks_clsIn X p) ?_))))))
 rw [g]
 refine wpAny_pure (wpAny_bind (wpAny_pure (wpAny_bind ?_)))
 refine wpAny_nsSet1 I.ns fun h' c d=>?_
 obtain ⟨t,o,l,i,e,j⟩:=c.count (PySem.Within.cons name v k)
 refine wpAny_bind (wpAny_lookBehind i (by rw [e];exact pastItsLine_dict (Nat.le_trans j (by simp_all))) ?_)
 exact wpAny_pure (h _ ⟨(d.2 _ (Ne.symm I.ne)).trans I.obj,c,I.ne⟩ d)
theorem ytf {R:Result->Shared->Prop}{vs:List Value}{c:List _}(X:K.In s.heap) (d:makesIn K C=true)
  (g:findIn K (.ref C) "__init__" = some (some (.ref f))) (e:typeIn K (.ref f)=some (.type "function"))
  (h:codeAny (model prog w) (A.under (.builtin "type.__call__" ⟨.ref C::vs,c⟩)) (.call (.ref f) ⟨.ref (s.heap.objs.size+1)::vs,c⟩) (PySem.W.InitBack (s.heap.objs.size+1) R)
   { s with heap:=(s.heap.push emptyDict).push (instObj C s.heap.objs.size) }) :
  codeAny (model prog w) A (.call (.ref C) ⟨vs,c⟩) R s:=by
 exact PySem.W.make_core (PySem.W.makes_of X d) (PySem.W.looks_findIn X g) (fun b=>PySem.W.bind_fn X b e) (.inl rfl) h
end
noncomputable def yjv (f:Str) (v:V):List (Str×V)->List (Str×V)
 | []=>[(f,v)]
 | (g,x)::r=>if g=f then (g,v)::r else (g,x)::yjv f v r
theorem yhw f g v:∀ fs,(yjv f v fs).lookup g=if g=f then some v else fs.lookup g
 | []=>by
  show List.lookup g [(f,v)]=_
  grind
 | (k,x)::r=>by
  have b:=yhw f g v r
  rw [show yjv f v _=if k=f then (k,v)::r else (k,x)::yjv f v r from rfl]
  grind
theorem yhx f v:∀ fs,f∈(yjv f v fs).map (·.1)/\∀ g,g∈fs.map (·.1)->g∈(yjv f v fs).map (·.1)
 | []=>⟨by simp [yjv],fun g h=>by simp at h⟩
 | (k,x)::r=>by
  obtain ⟨c,b⟩:=yhx f v r
  rw [show yjv f v _=if k=f then (k,v)::r else (k,x)::yjv f v r from rfl]
  grind
theorem yhy f v:∀ fs,(yjv f v fs).length<=fs.length+1
 | []=>by simp [yjv]
 | (k,x)::r=>by
  have b:=yhy f v r
  rw [show yjv f v _=if k=f then (k,v)::r else (k,x)::yjv f v r from rfl]
  grind
theorem RelO.some_of {v:V}{o:Option Value}(r:RelO (some v) o):∃ u,o=some u/\RelV v u:=by
 cases o with
 | none=>exact (r).elim
 | some u=>exact ⟨u,rfl,r⟩
theorem RelO.none_of {o:Option Value}(r:RelO none o):o=none:=by
 cases o with
 | none=>rfl
 | some u=>exact (r).elim
theorem ypT {v:V}{u:Value}(r:RelV v u):PySem.W.handedIn u=true:=by
 cases v with
 | non=>cases (r);rfl
 | bl b=>cases (r);rfl
 | int i=>obtain ⟨t,e⟩:=(r);cases e;rfl
 | str x=>obtain ⟨t,e⟩:=(r);cases e;rfl
 | byt b=>obtain ⟨t,e⟩:=(r);cases e;rfl
 | flt b=>obtain ⟨t,e⟩:=(r);cases e;rfl
 | ref a=>cases (r);rfl
 | ty n=>cases (r);rfl
section
variable {P:Program}{w:World}{H H':Hp}{h h':Heap}{a C dx:Addr}{fs fs':List (Str×V)}
theorem yjw (c:HOk P w H h) (e:H a=some (.ins C dx fs)):∃ b,ObjM h a dx C b/\(∀ f,RelO (fs.lookup f) (b f))/\PySem.Within b (fs.map (·.1))/\fs.length<=1000/\H dx=some (.own a):=by
 obtain ⟨d,z,g,i,b,n,r,q⟩:=(c a _ e)
 exact ⟨b,⟨i,n,g⟩,r,q,z,d⟩
end
structure Cls (K:PySem.W.Frag) (C:Addr):Prop where
 pg:plainGet K C Str.empty=true
 hd:hasDictIn K C=true
 po:PySem.W.plainOver K C=true
 sa:findIn K (.ref C) "__setattr__" = some (some (.builtin "object.__setattr__"))
theorem Cls.get {K:PySem.W.Frag}{C:Addr}(c:Cls K C) f:plainGet K C f=true:=c.pg
noncomputable def NoAttr (K:PySem.W.Frag) (C:Addr) (f:Str):Prop:=findIn K (.ref C) f=some none
theorem NoAttr.taker {K:PySem.W.Frag}{C:Addr}{f:Str}(n:NoAttr K C f):PySem.W.takerIn K C f=some none:=by
 unfold PySem.W.takerIn
 rw [n]
 rfl
structure Meth (K:PySem.W.Frag) (C:Addr) (m:Str) (f:Addr):Prop where
 at_:findIn K (.ref C) m=some (some (.ref f))
 fn:isFn K (.ref f)=true
 kp:keepIn K (.ref f)=true
section
variable {X:Cx}{pins:List (Addr×Obj)}{σ:St}{H:Hp}{s:Shared}{a C dx:Addr}{fs:List (Str×V)}{f:Str}{v:V}{A:Around}{E:Value->Shared->Prop}
theorem yoI {b:Bool}{Q:Value->Shared->Prop}(I:Inv X pins σ H s) (e:H a=some (.ins C dx fs)) (c:Cls X.K C) (n:NoAttr X.K C f) (l:fs.lookup f=some v)
  (h:∀ u s',Inv X pins σ H s'->RelV v u->Q u s'):wpAny (model X.prog X.w) A (getAttr (.ref a) f b) Q E s:=by
 obtain ⟨i,O,r,_,_,_⟩:=yjw I.hok e
 obtain ⟨u,g,d⟩:=RelO.some_of (by rw [<- l];exact r f)
 exact ywV I.kIn O (c.get f) c.hd n g (ypT d) (h u _ (I.tok _) d)
theorem ygv {m:Str}{g:Addr}{pl:Sem Bool}{Q:Value×List Value->Shared->Prop}(I:Inv X pins σ H s) (e:H a=some (.ins C dx fs)) (c:Cls X.K C) (k:Meth X.K C m g) (l:fs.lookup m=none)
  (h:Q (.ref g,[.ref a]) s):wpAny (model X.prog X.w) A (getMethod (.ref a) m pl) Q E s:=by
 obtain ⟨d,O,r,_,_,_⟩:=yjw I.hok e
 have b:=RelO.none_of (by rw [<- l];exact r m)
 exact yte I.kIn O (c.get m) k.at_ k.fn b h
theorem yoJ {y:V}{u:Value}{Q:Unit->Shared->Prop}(I:Inv X pins σ H s) (e:H a=some (.ins C dx fs)) (c:Cls X.K C) (n:NoAttr X.K C f) (hl:fs.length<1000) (w:RelV y u)
  (h:∀ s',Inv X pins σ (upd H a (.ins C dx (yjv f y fs))) s'->Q () s'):wpAny (model X.prog X.w) A (setAttr (.ref a) f u) Q E s:=by
 obtain ⟨x,O,r,i,_,j⟩:=yjw I.hok e
 have hz:(fs.map (·.1)).length<=sizeLine:=by rw [length_map,sizeLine_eq];omega
 refine ywW I.kIn O c.sa c.po n.taker c.hd i hz fun h' d m=>h _ ?_
 have t:∃ o,h'.get? dx=some o:=let ⟨o,_,_,k,_⟩:=d.ns;⟨o,k⟩
 refine I.write (by rw [e];exact True.intro) (.inr j) (fun b q l z=>(m.2 b l).trans z) t ?_
 refine ⟨by rw [yI O.ne];exact j,?_,O.ne,d.obj,_,d.ns,fun g=>?_,fun g p=>?_⟩
 .have:=yhy f y fs;omega
 .rw [yhw]
  by_cases q:g=f
  .rw [if_pos q,if_pos q];exact w
  simp_all
 .by_cases q:g=f
  .rw [q];exact (yhx f y fs).1
  .refine (yhx f y fs).2 g (i g fun z=>p ?_)
   grind
theorem Inv.made (I:Inv X pins σ H s):Inv X pins σ (upd (upd H s.heap.objs.size (.own (s.heap.objs.size+1))) (s.heap.objs.size+1) (.ins C s.heap.objs.size []))
  { s with heap:=(s.heap.push emptyDict).push (instObj C s.heap.objs.size) }:=by
 have d:(s.heap.push emptyDict).get? s.heap.objs.size=some emptyDict:=Heap.get?_push_size s.heap rfl
 have h:=by
  have:=Heap.get?_push_size (s.heap.push emptyDict) (o:=instObj C s.heap.objs.size) rfl
  rwa [Heap.size_push] at this
 have j:(s.heap.push emptyDict).Ns s.heap.objs.size _:=⟨emptyDict,#[],_,d,rfl,fun e g=>absurd g (by simp),fun _=>rfl⟩
 have k:=I.laid (o:=.own (s.heap.objs.size+1)) (t':=s.toks) (fun b u q=>Heap.get?_push_of_some _ q) (Nat.le_refl _) ⟨_,d⟩
 refine k.laid (fun b u q=>Heap.get?_push_of_some _ q) (le_of_eq (Heap.size_push _ _)) ?_
 have c:s.heap.objs.size≠s.heap.objs.size+1:=ne_of_lt (Nat.lt_succ_self _)
 refine ⟨by rw [yI c,yB],zero_le _,c,h,_,(Heap.Ns1.of_empty j).at fun o q=>Heap.get?_push_of_some _ q,fun _=>True.intro,fun y i=>absurd rfl i⟩
theorem ywX {prog:Program}{w:World}{env:Env}{e:Expr}{f:Str}{pos:Pos}{s:Shared}{Q:Value->Shared->Prop}(c:attributeBase e f env (eval e env)=eval e env)
  (h:wpAny (model prog w) A (eval e env) (fun o b=>wpAny (model prog w) A (getAttr o f true) Q E b) E s):wpAny (model prog w) A (eval (.Attribute e f pos) env) Q E s :=
 Attribute_any_ h (by rw [arm_eval_Attribute,c])
end
def yEV (K:PySem.W.Frag) (ta:TE) (f:Str):TE:=fun σ H Q=>ta σ H fun x H1=>∃ a C dx fs v,x=.ref a/\H1 a=some (.ins C dx fs)/\Cls K C/\NoAttr K C f/\fs.lookup f=some v/\Q v H1
def yDc (K:PySem.W.Frag) (ta tv:TE) (f:Str):TS:=fun D σ H=>tv σ H fun y H1=>ta σ H1 fun x H2=>∃ a C dx fs,x=.ref a/\H2 a=some (.ins C dx fs)/\Cls K C/\NoAttr K C f/\fs.length<1000 /\
 D.nx σ (upd H2 a (.ins C dx (yjv f y fs)))
section
variable {X:Cx}{o e value:Expr}{f:Str}{pos pos' tpos:Pos}{ta tv:TE}
theorem yAe (i:PE X e ta) (j:attributeBase e f X.env (eval e X.env)=eval e X.env):PE X (.Attribute e f pos) (yEV X.K ta f):=by
 intro d s σ H Q I h
 refine ywX j (thn (i d s σ H _ I h) fun u s1 ⟨x,m,w,p,a,C,z,fs,v,g,r,c,n,l,q⟩=>?_)
 subst g
 obtain rfl:u=Value.ref a:=p
 exact yoI w r c n l fun y s2 k t=>⟨v,m,k,t,q⟩
theorem yvJ (p:PE X o ta) (j:PE X value tv) (hs:swapsWith value (some (.Attribute o f pos')) pos.line X.env=pure false):PS X (.Assign [.Attribute o f pos'] value pos) (yDc X.K ta tv f):=by
 intro d s σ H D I h
 refine plainObj_wpAny_Assign_Attribute (thn (j d s σ H _ I h) fun u s1 ⟨y,w,t,g,q⟩=>thn (p d s1 σ w _ t q) fun A s2 ⟨x,E,k,r,a,C,B,fs,v,i,c,n,l,m⟩=>?_) hs
 subst v
 obtain rfl:A=Value.ref a:=r
 exact yoJ k i c n l g fun s3 z=>⟨σ,_,z,m⟩
end
section
variable {X:Cx}{pins:List (Addr×Obj)}{σ:St}{H:Hp}{s:Shared}{A:Around}{E:Value->Shared->Prop}{Q:Value->Shared->Prop}{c:Value}{b:Bool}
inductive ynI (K:PySem.W.Frag) (H:Hp):V->Value->Prop where
 | non:ynI K H .non (.type "NoneType")
 | bl (x:Bool):ynI K H (.bl x) (.type "bool")
 | int (i:Int):ynI K H (.int i) (.type "int")
 | str (x:Str):ynI K H (.str x) (.type "str")
 | flt (x:UInt64):ynI K H (.flt x) (.type "float")
 | lst {a:Addr}{xs:List V}(e:H a=some (.lst xs)):ynI K H (.ref a) (.type "list")
 | frz {a:Addr}{o:Obj}{xs:List V}(e:H a=some (.frz o (.lst xs))):ynI K H (.ref a) (.type "list")
 | tup {a:Addr}{xs:List V}(e:H a=some (.tup xs)):ynI K H (.ref a) (.type "tuple")
 | kt {a:Addr}{o:Obj}(e:K.lookup a=some o) (c:o.cls=.type "tuple"):ynI K H (.ref a) (.type "tuple")
 | dK {a:Addr}{kvs:List (Key×V)}(e:H a=some (.dK kvs)):ynI K H (.ref a) (.type "dict")
 | dT {a:Addr}{kvs:List (List Key×V)}(e:H a=some (.dT kvs)):ynI K H (.ref a) (.type "dict")
 | ins {a C dx:Addr}{fs:List (Str×V)}(e:H a=some (.ins C dx fs)) (cl:Cls K C) (ha:findIn K (.ref C) "__class__" = some (some (.builtin "object.__class__")))
   (hn:PySem.W.specialIn K (.builtin "object.__class__") "__get__" = some (some (.builtin "getset_descriptor.__get__"))) (htk:PySem.W.takesIn K (.builtin "object.__class__")=some true)
   (hm:mroIn K C (.type "object")=some true):ynI K H (.ref a) (.ref C)
theorem ypU {x:V}{u t:Value}(I:Inv X pins σ H s) (d:RelV x u) (f:ynI X.K H x t) (e:PySem.W.kitOne X.K t c=some b) (h:∀ g,Q (.bool b) { s with toks:=g }) :
  wpAny (model X.prog X.w) A (call (.builtin "isinstance") [u,c]) Q E s:=by
 cases f with
 | non=>cases (d);exact kia_one PySem.W.kitx_none I.kIn True.intro e (fun z=>nomatch z) h
 | bl y=>cases (d);exact kia_one PySem.W.kitx_bool I.kIn True.intro e (fun z=>nomatch z) h
 | int i=>obtain ⟨t,q⟩:=(d);cases q;exact kia_one PySem.W.kitx_int I.kIn True.intro e (fun z=>nomatch z) h
 | str y=>obtain ⟨t,q⟩:=(d);cases q;exact kia_one PySem.W.kitx_str I.kIn True.intro e (fun z=>nomatch z) h
 | flt y=>obtain ⟨t,q⟩:=(d);cases q;exact kia_one PySem.W.kitx_float I.kIn True.intro e (fun z=>nomatch z) h
 | @lst a xs ea =>
  cases (d)
  obtain ⟨_,_,n,_,h1⟩:=(I.hok a _ ea)
  exact kia_one PySem.W.kitx_list I.kIn ⟨_,h1,rfl⟩ e (fun z=>nomatch z) h
 | @frz a ob xs ea =>
  cases (d)
  obtain ⟨_,_,_,n,_,h1⟩:=(I.hok a _ ea)
  exact kia_one PySem.W.kitx_list I.kIn ⟨_,h1,rfl⟩ e (fun z=>nomatch z) h
 | @tup a xs ea =>
  cases (d)
  obtain ⟨_,_,_,p⟩:=(I.hok a _ ea)
  obtain ⟨o,h1,h2,_⟩:=p
  exact kia_one PySem.W.kitx_tuple I.kIn ⟨o,h1,h2⟩ e (fun z=>nomatch z) h
 | @kt a ob ek ck =>
  cases (d)
  exact kia_one PySem.W.kitx_tuple I.kIn ⟨ob,I.kIn a ob ek,ck⟩ e (fun z=>nomatch z) h
 | @dK a kvs ea =>
  cases (d)
  obtain ⟨_,_,vs,_,p⟩:=(I.hok a _ ea)
  obtain ⟨o,es,ep,h1,h2,_⟩:=p
  exact kia_one PySem.W.kitx_dict I.kIn ⟨o,h1,h2.1⟩ e (fun z=>nomatch z) h
 | @dT a kvs ea =>
  cases (d)
  obtain ⟨_,_,xs,_,o,es,ep,h1,h2,_⟩:=(I.hok a _ ea)
  exact kia_one PySem.W.kitx_dict I.kIn ⟨o,h1,h2.1⟩ e (fun z=>nomatch z) h
 | @ins a C dx fs ea cl ha hn htk hm =>
  cases (d)
  obtain ⟨j,O,_⟩:=yjw I.hok ea
  obtain ⟨od,J,_⟩:=O.look
  exact kia_one (PySem.W.kitx_own (cl.get _) cl.hd ha hn htk hm) I.kIn J e (fun z=>nomatch z) h
end
end L2
namespace L2
open PySem PySem.Spec PyProof.Rows
structure Room (k:Nat) (A:Around):Prop where
 hd:A.handled=none
 dp:A.depth+3*k+5<recursionLimit
 un:A.units+16*k+200<cLine
theorem Room.mono {j k:Nat}{A:Around}(r:Room k A) (h:j<=k):Room j A:=⟨r.hd,by have:=r.dp;omega,by have:=r.un;omega⟩
theorem Room.deeper {k:Nat}{A:Around}(r:Room (k+1) A) env:Room k (A.deeper env) :=
 ⟨r.hd,by have:=r.dp;show A.depth+1+3*k+5<_;omega,by have:=r.un;show A.units+3+16*k+200<_;omega⟩
theorem yoK {A:Around}{C:Addr}{us:List Value}{kw:List (Str×Value)}:(A.under (.builtin "type.__call__" ⟨.ref C::us,kw⟩)).depth=A.depth+1:=by
 first|rfl|simp [Around.under,Code.weight,Code.isCreation,Code.isGuard,Code.isCaller,Code.frames,Code.isFrame,guardIds]
theorem yoL {A:Around}{C:Addr}{us:List Value}{kw:List (Str×Value)}:(A.under (.builtin "type.__call__" ⟨.ref C::us,kw⟩)).units=A.units+1:=by
 first|rfl|simp [Around.under,Code.cUnits,Code.frames,Code.isFrame]
theorem Room.make {k:Nat}{A:Around}(r:Room (k+1) A) C us b:Room k (A.under (.builtin "type.__call__" ⟨.ref C::us,b⟩)) :=
 ⟨r.hd,by have:=r.dp;rw [yoK];omega,by have:=r.un;rw [yoL];omega⟩
theorem Room.depth {k:Nat}{A:Around}(r:Room k A):A.depth<recursionLimit:=by have:=r.dp;omega
theorem Room.units {k:Nat}{A:Around}(r:Room k A):A.units+64<cLine:=by have:=r.un;omega
def yvK:TA:=fun _ H Q=>Q [] H
def ymz (ta:TE) (tr:TA):TA:=fun σ H Q=>ta σ H fun x H1=>tr σ H1 fun xs H2=>Q (x::xs) H2
section
variable {X:Cx}{e:Expr}{es:List Expr}{te:TE}{t:TA}{pos:Pos}
theorem yiP:PA X [] yvK:=fun _ _ _ _ H Q I h=>Calls.spliced_nil ⟨[],H,I,.nil,h⟩
theorem yfx (m:PE X e te) (j:PA X es t) (hs:starEach (e::es) X.env=(false,eval e X.env)::starEach es X.env:=by rfl):PA X (e::es) (ymz te t):=by
 intro pos b s σ H Q I h
 rw [hs]
 show wpAny _ _ (spliced ((false,eval e X.env)::backTo pos _)) _ _ s
 exact Calls.spliced_cons (thn (m b s σ H _ I h) fun u s1 ⟨x,g,l,c,d⟩=>thn (j pos b s1 σ g _ l d) fun us s2 ⟨xs,i,k,r2,f⟩=>⟨x::xs,i,k,.cons c r2,f⟩)
def yEW (t:TA):TE:=fun σ H Q=>t σ H fun xs H1=>xs.length<=sizeLine/\∀ p,H1 p=none->Q (.ref p) (upd H1 p (.tup xs))
def yEX (t:TA):TE:=fun σ H Q=>t σ H fun xs H1=>xs.length<=sizeLine/\∀ p,H1 p=none->Q (.ref p) (upd H1 p (.lst xs))
theorem yAf {x1} (h:PA X es t):PE X (.Tuple es x1 pos) (yEW t):=by
 intro c s σ H Q I g
 refine wpAny_Tuple_spliced (thn (h pos c s σ H _ I g) fun us s1 ⟨xs,i,d,r,z,q⟩=>⟨by rw [<- r.length];exact z,?_⟩)
 have f:=d.hok.fresh (Nat.le_refl _)
 refine ⟨.ref s1.heap.objs.size,_,d.laid (fun b u e=>Heap.get?_push_of_some _ e) (Nat.le_refl _) ?_,rfl,q _ f⟩
 exact ⟨z,us,r,⟨_,Heap.get?_push_size _ rfl,rfl,_,rfl⟩⟩
theorem yAg (h:PA X es t):PE X (.List es pos) (yEX t):=by
 intro c s σ H Q I g
 refine wpAny_List_spliced (thn (h pos c s σ H _ I g) fun us s1 ⟨xs,i,d,r,z,q⟩=>⟨by rw [<- r.length];exact z,?_⟩)
 have f:=d.hok.fresh (Nat.le_refl _)
 refine ⟨.ref s1.heap.objs.size,_,d.laid (fun b u e=>Heap.get?_push_of_some _ e) (Nat.le_refl _) ?_,rfl,q _ f⟩
 exact ⟨z,us,0,r,Heap.get?_push_size _ rfl⟩
end
abbrev Sp:=List V->Hp->VK->XK->Prop
abbrev CXT:=List Env->Hp->Shared->XK->Value->Shared->Prop
structure Env0 (P:Program) (w:World) (K:PySem.W.Frag) (mg:Str->Option Value) (base:Heap) (A:Around) (outer:List Env) (s:Shared) (H:Hp):Prop where
 frames:A.frames=some outer
 mod:Mod K mg base
 bs:∀ b o,base.get? b=some o->s.heap.get? b=some o/\H b=none
 bsz:base.objs.size<=s.heap.objs.size
 funs:s.heap.FunFrames base outer
 frf:∀ b∈frs outer,H b=none
 hok:HOk P w H s.heap
 bare:AllBare s.gens
def CE (outer:List Env) (P:Program) (w:World) (H:Hp) (s:Shared) (Q:VK) (u:Value) (s':Shared):Prop :=
 ∃ v H',s'.os=s.os/\AllBare s'.gens/\Un (frs outer) [] H H' s.heap s'.heap/\HOk P w H' s'.heap/\RelV v u/\Q v H'
def CR (CX:CXT) (outer:List Env) (P:Program) (w:World) (H:Hp) (s:Shared) (Q:VK) (E:XK) (r:Result) (s':Shared):Prop :=
 match r with
 | .ok (.ret u)=>CE outer P w H s Q u s'
 | .ok _=>False
 | .error e=>CX outer H s E e s'
structure FnOk (P:Program) (w:World) (K:PySem.W.Frag) (mg:Str->Option Value) (base:Heap) (CX:CXT) (k:Nat) (f:Addr) (fd:FuncData) (ps:List Str) (sp:Sp):Prop where
 len:∀ vs H Q E,sp vs H Q E->vs.length=ps.length
 run:∀ (A:Around) (outer:List Env) (s:Shared) (H:Hp) (args:Args) (us:List Value) (vs:List V) (Q:VK) (E:XK),Room k A->Env0 P w K mg base A outer s H->BindsTo s fd args (ps.zip us)->Vals vs us->sp vs H Q E ->
  codeAny (model P w) A (.call (.ref f) args) (CR CX outer P w H s Q E) s
theorem FnOk.mono {P:Program}{w:World}{K:PySem.W.Frag}{c:Str->Option Value}{base:Heap}{CX:CXT}{j k:Nat}{f:Addr}{b:FuncData}{ps:List Str}{sp:Sp}(F:FnOk P w K c base CX j f b ps sp) (h:j<=k) :
  FnOk P w K c base CX k f b ps sp:=⟨F.len,fun A outer s H args us vs Q E d=>F.run A outer s H args us vs Q E (d.mono h)⟩
theorem FnOk.imp {P:Program}{w:World}{K:PySem.W.Frag}{c:Str->Option Value}{base:Heap}{CX:CXT}{k:Nat}{f:Addr}{d:FuncData}{ps:List Str}{sp b:Sp}(F:FnOk P w K c base CX k f d ps sp)
  (h:∀ vs H Q E,b vs H Q E->sp vs H Q E):FnOk P w K c base CX k f d ps b :=
 ⟨fun vs H Q E q=>F.len vs H Q E (h _ _ _ _ q),fun A outer s H args us vs Q E i j g e hs=>F.run A outer s H args us vs Q E i j g e (h _ _ _ _ hs)⟩
theorem Env0.make {P:Program}{w:World}{K:PySem.W.Frag}{b:Str->Option Value}{base:Heap}{A:Around}{outer:List Env}{s:Shared}{H:Hp}(e:Env0 P w K b base A outer s H) C us c :
  Env0 P w K b base (A.under (.builtin "type.__call__" ⟨.ref C::us,c⟩)) outer s H:=⟨by first|exact e.frames|omega,e.mod,e.bs,e.bsz,e.funs,e.frf,e.hok,e.bare⟩
section
variable {X:Cx}{pins:List (Addr×Obj)}{σ:St}{H:Hp}{s s':Shared}
theorem Inv.env0 (I:Inv X pins σ H s):Env0 X.prog X.w X.K X.mg X.base X.A X.stack s H :=
 ⟨I.ok.frames,I.ok.mod,I.bs,Nat.le_trans I.ok.bsz I.sz,I.stack,I.stkFree,I.hok,I.bare⟩
theorem Inv.after {Q:VK}{u:Value}(I:Inv X pins σ H s) (h:CE X.stack X.prog X.w H s Q u s'):EP X pins σ Q u s':=by
 obtain ⟨v,f,os,a,i,e,r,q⟩:=h
 obtain ⟨j,g,d,t,c⟩:=s'
 obtain rfl:c=s.os:=os
 exact ⟨v,f,I.call i e a fun b z=>absurd z (by simp),r,q⟩
end
def ytg (sp:Sp) (dvs:List V) (E:XK) (t:TA):TE:=fun σ H Q=>t σ H fun vs H1=>sp (vs++dvs) H1 Q E
def ywY (C:Addr) (m:Str) (sp:Sp) (dvs:List V) (E:XK) (ta:TE) (t:TA):TE:=fun σ H Q=>ta σ H fun x H1=>∃ a dx fs,x=.ref a/\H1 a=some (.ins C dx fs)/\fs.lookup m=none /\
 t σ H1 fun vs H2=>sp (x::(vs++dvs)) H2 Q E
def yth (C:Addr) (sp:Sp) (dvs:List V) (E:XK) (t:TA):TE:=fun σ H Q=>t σ H fun vs H1=>∀ x dx,H1 x=none->H1 dx=none->dx≠x ->
 sp (.ref x::(vs++dvs)) (upd (upd H1 dx (.own x)) x (.ins C dx [])) (fun v H2=>v=.non/\Q (.ref x) H2) E
noncomputable def Binds (K:PySem.W.Frag) (fd:FuncData) (ps:List Str) (ds:List Value):Prop :=
 ∀ (s:Shared) (us:List Value),K.In s.heap->(us++ds).length=ps.length->BindsTo s fd ⟨us,[]⟩ (ps.zip (us++ds))
theorem Binds.all {K:PySem.W.Frag}{fd:FuncData}{ps:List Str}(h:∀ us:List Value,us.length=ps.length->bindArgs fd ⟨us,[]⟩=pure (ps.zip us)):Binds K fd ps []:=fun s us _ hl=>by
 rw [append_nil] at hl ⊢
 exact .of_eq (h us hl)
def yfT (CX:CXT) (X:Cx) (E:XK):Prop:=∀ (pins:List (Addr×Obj)) (σ:St) (H:Hp) (s:Shared) (e:Value) (s':Shared),Inv X pins σ H s->CX X.stack H s E e s'->X.xe e s'
section
variable {X:Cx}{CX:CXT}{k:Nat}{f C:Addr}{fd:FuncData}{ps:List Str}{sp:Sp}{dvs:List V}{ds:List Value}{E:XK}{x m:Str}{p pos apos:Pos}{e o:Expr}{es:List Expr}{ta:TE}{t:TA}
theorem ykO {b:List _}{σ:St}{H:Hp}{s:Shared}{Q:VK}{us:List Value}{vs:List V}(F:FnOk X.prog X.w X.K X.mg X.base CX k f fd ps sp) (j:Room k X.A) (i:Binds X.K fd ps ds) (d:Vals dvs ds) (g:yfT CX X E)
  (I:Inv X b σ H s) (r:Vals vs us) (h:sp (vs++dvs) H Q E):wpAny (model X.prog X.w) X.A (call (.ref f) us) (EP X b σ Q) X.xe s:=by
 have r2:=r.append d
 have hl:(us++ds).length=ps.length:=by rw [<- r2.length];exact F.len _ _ _ _ h
 refine wpAny_call (codeAny_mono (F.run X.A X.stack s H _ _ _ Q E j I.env0 (i s us I.kIn hl) r2 h) fun r s' c=>?_)
 cases r with
 | error e=>exact g b σ H s e s' I c
 | ok fl =>
  cases fl with
  | ret u=>exact I.after c
  | next=>exact False.elim c
  | brk=>exact False.elim c
  | cont=>exact False.elim c
theorem ywZ (F:FnOk X.prog X.w X.K X.mg X.base CX k f fd ps sp) (j:Room k X.A) (u:Gl X x) (i:X.mg x=some (.ref f)) (n:keepIn X.K (.ref f)=true) (l:Binds X.K fd ps ds) (z:Vals dvs ds) (y:yfT CX X E)
  (w:PA X (e::es) t) (d:(x == "__debug__")=false:=by decide) (v:starEach (e::es) X.env=(false,eval e X.env)::starEach es X.env:=by rfl) (c:(backTo pos (starEach es X.env)).any (·.1)=false:=by rfl) :
  PE X (.Call (.Name x p) (e::es) [] pos) (ytg sp dvs E t):=by
 intro b s σ H Q I h
 refine wpAny_Call_Name_kw (yhu I u i ?_ d)
 refine PySem.W.callWith_K I.ok.mod.kin n (thn (w pos b s σ H _ I h) fun us s1 ⟨vs,A,g,r,q⟩=>⟨g.kIn,?_⟩) v c
 exact ykO F j l z y g r q
theorem yxa {pl:Sem Bool}(L:PE X o ta) (c:Cls X.K C) (w:Meth X.K C m f) (F:FnOk X.prog X.w X.K X.mg X.base CX k f fd ps sp) (A:Room k X.A) (z:Binds X.K fd ps ds) (O:Vals dvs ds) (G:yfT CX X E) (M:PA X (e::es) t)
  (i:starEach (e::es) X.env=(false,eval e X.env)::starEach es X.env:=by rfl) (g:(backTo pos (starEach es X.env)).any (·.1)=false:=by rfl)
  (D:eval (.Call (.Attribute o m apos) (e::es) [] pos) X.env=(do
   let n <- eval o X.env
   standAt apos.atName
   let (f,first) <- holding [n] (getMethod n m pl)
   callWith pos f first (backTo pos (starEach (e::es) X.env)) (backToKw pos (keywordEach [] X.env))):=by rfl) :
  PE X (.Call (.Attribute o m apos) (e::es) [] pos) (ywY C m sp dvs E ta t):=by
 intro d s σ H Q I h
 refine PySem.W.methodCall_KW (thn (L d s σ H _ I h) fun u s1 ⟨x,P,j,B,a,S,fs,y,N,l,q⟩=>?_) D
 subst y
 obtain rfl:u=Value.ref a:=B
 refine ygv j N c w l ?_
 refine PySem.W.callWith_K I.ok.mod.kin w.kp (thn (M pos d s1 σ P _ j q) fun us s2 ⟨vs,R,v,r,J⟩=>⟨v.kIn,?_⟩) i g
 exact ykO (vs:=.ref a::vs) F A z O G v (.cons rfl r) J
theorem yti {pl:Sem Bool}(B:PE X o ta) (c:Cls X.K C) (i:Meth X.K C m f) (F:FnOk X.prog X.w X.K X.mg X.base CX k f fd ps sp) (v:Room k X.A) (r:Binds X.K fd ps ds) (n:Vals dvs ds) (A:yfT CX X E)
  (y:eval (.Call (.Attribute o m apos) [] [] pos) X.env=(do
   let j <- eval o X.env
   standAt apos.atName
   let (f,first) <- holding [j] (getMethod j m pl)
   callWith pos f first (backTo pos (starEach [] X.env)) (backToKw pos (keywordEach [] X.env))):=by rfl) :
  PE X (.Call (.Attribute o m apos) [] [] pos) (ywY C m sp dvs E ta yvK):=by
 intro d s σ H Q I h
 refine PySem.W.methodCall_KW (thn (B d s σ H _ I h) fun u s1 ⟨x,G,g,w,a,J,fs,D,z,l,q⟩=>?_) y
 subst D
 obtain rfl:u=Value.ref a:=w
 refine ygv g z c i l ?_
 exact PySem.W.callWith_K0 g.kIn i.kp (ykO (us:=[.ref a]) (vs:=[.ref a]) F v r n A g (.cons rfl .nil) q)
structure Mk (K:PySem.W.Frag) (C f:Addr):Prop where
 makes:makesIn K C=true
 init:findIn K (.ref C) "__init__" = some (some (.ref f))
 fn:isFn K (.ref f)=true
 kp:keepIn K (.ref C)=true
theorem ynJ {c:List _}{σ:St}{H:Hp}{s:Shared}{Q:VK}{us:List Value}{vs:List V}(M:Mk X.K C f) (F:FnOk X.prog X.w X.K X.mg X.base CX k f fd ps sp) (A:Room (k+1) X.A) (q:Binds X.K fd ps ds) (B:Vals dvs ds)
  (y:yfT CX X E) (I:Inv X c σ H s) (r:Vals vs us)
  (h:∀ x d,H x=none->H d=none->d≠x->sp (.ref x::(vs++dvs)) (upd (upd H d (.own x)) x (.ins C d [])) (fun v z=>v=.non/\Q (.ref x) z) E) :
  wpAny (model X.prog X.w) X.A (call (.ref C) us) (EP X c σ Q) X.xe s:=by
 have i:=h _ s.heap.objs.size (I.hok.fresh (Nat.le_succ _)) (I.hok.fresh (Nat.le_refl _)) (ne_of_lt (Nat.lt_succ_self _))
 have g:=Inv.made (C:=C) I
 have r2:Vals (V.ref (s.heap.objs.size+1)::(vs++dvs)) _:=.cons rfl (r.append B)
 have hl:=by
  have e:=r2.length
  rw [F.len _ _ _ _ i] at e
  exact e.symm
 refine wpAny_call (ytf I.kIn M.makes M.init (beq_iff_eq.mp M.fn) (codeAny_mono (F.run _ X.stack _ _ _ _ _ _ E (A.make C us [])
  (g.env0.make C us []) (q _ _ g.kIn hl) r2 i) fun r s' b=>?_))
 cases r with
 | error e=>exact y c σ _ _ e s' g b
 | ok fl =>
  cases fl with
  | ret u =>
   obtain ⟨v,w,n,j,ev,l⟩:=g.after b
   subst ev
   exact ⟨j,⟨V.ref _,w,n,rfl,l⟩⟩
  | next=>exact False.elim b
  | brk=>exact False.elim b
  | cont=>exact False.elim b
theorem ypV (M:Mk X.K C f) (F:FnOk X.prog X.w X.K X.mg X.base CX k f fd ps sp) (w:Room (k+1) X.A) (n:Gl X x) (i:X.mg x=some (.ref C)) (j:Binds X.K fd ps ds) (y:Vals dvs ds) (l:yfT CX X E)
  (v:PA X (e::es) t) (d:(x == "__debug__")=false:=by decide) (u:starEach (e::es) X.env=(false,eval e X.env)::starEach es X.env:=by rfl) (c:(backTo pos (starEach es X.env)).any (·.1)=false:=by rfl) :
  PE X (.Call (.Name x p) (e::es) [] pos) (yth C sp dvs E t):=by
 intro b s σ H Q I h
 refine wpAny_Call_Name_kw (yhu I n i ?_ d)
 refine PySem.W.callWith_K I.ok.mod.kin M.kp (thn (v pos b s σ H _ I h) fun us s1 ⟨vs,z,g,r,q⟩=>⟨g.kIn,?_⟩) u c
 exact ynJ M F w j y l g r q
theorem ytj (M:Mk X.K C f) (F:FnOk X.prog X.w X.K X.mg X.base CX k f fd ps sp) (j:Room (k+1) X.A) (d:Gl X x) (g:X.mg x=some (.ref C)) (i:Binds X.K fd ps ds) (n:Vals dvs ds) (l:yfT CX X E)
  (b:(x == "__debug__")=false:=by decide):PE X (.Call (.Name x p) [] [] pos) (yth C sp dvs E yvK):=by
 intro c s σ H Q I h
 exact wpAny_Call_Name_kw (yhu I d g (PySem.W.callWith_K0 I.kIn M.kp (ynJ (us:=[]) M F j i n l I .nil h)) b)
end
structure yek (N P:List Str) (sc:Scope):Prop where
 kind:sc.kind=.function
 co:sc.isCoroutine=false
 gen:sc.isGenerator=false
 nd:N.Nodup
 pre:N.take P.length=P
 par:∀ x∈P,sc.names.lookup x=some .local \/ sc.names.lookup x=some .cell
 nofree:∀ y∈sc.names,y.2≠.free
theorem ykP {kindOf:Str->Option NameKind}{x:Str}:∀ {b:List _}{m:Str->Option Value},(∀ v,(x,v)∉b)->bindL kindOf b m x=m x
 | [],_,_=>rfl
 | (n,v)::r,m,h=>by
  unfold bindL
  rw [ykP fun w c=>h w (mem_cons_of_mem _ c)]
  split
  .have:x≠n:=by rintro rfl;exact h v mem_cons_self
   simp [this]
  .rfl
theorem ykQ {kindOf:Str->Option NameKind}{x:Str}:∀ {b:List _}{m:Str->Option Value},(∀ v,(x,v)∉b)->bindC kindOf b m x=m x
 | [],_,_=>rfl
 | (n,v)::r,m,h=>by
  unfold bindC
  rw [ykQ fun w c=>h w (mem_cons_of_mem _ c)]
  split
  .rfl
  grind
theorem ykR {kindOf:Str->Option NameKind}{x:Str}{v:Value}:∀ {P:List Str}{vs:List Value}{i:Nat}{m:Str->Option Value},P.Nodup->P[i]?=some x->vs[i]?=some v->kindOf x=some .local ->
  bindL kindOf (P.zip vs) m x=some v
 | [],_,_,_,_,h,_,_=>by simp at h
 | _::_,[],_,_,_,_,h,_=>by simp at h
 | p::P,w::vs,0,m,c,h1,h2,b=>by
  simp at h1 h2;subst h1;subst h2
  show bindL kindOf ((p,w)::P.zip vs) m p=_
  unfold bindL
  rw [ykP fun v d=>(List.nodup_cons.mp c).1 (of_mem_zip d).1,if_pos b]
  simp
 | p::P,w::vs,i+1,m,c,h1,h2,b=>by
  unfold bindL
  exact ykR (List.nodup_cons.mp c).2 (by simpa using h1) (by simpa using h2) b
theorem ykS {kindOf:Str->Option NameKind}{x:Str}{v:Value}:∀ {P:List Str}{vs:List Value}{i:Nat}{m:Str->Option Value},P.Nodup->P[i]?=some x->vs[i]?=some v->kindOf x≠some .local ->
  bindC kindOf (P.zip vs) m x=some v
 | [],_,_,_,_,h,_,_=>by simp at h
 | _::_,[],_,_,_,_,h,_=>by simp at h
 | p::P,w::vs,0,m,c,h1,h2,b=>by
  simp at h1 h2;subst h1;subst h2
  show bindC kindOf ((p,w)::P.zip vs) m p=_
  unfold bindC
  rw [ykQ fun v d=>(List.nodup_cons.mp c).1 (of_mem_zip d).1,if_neg b]
  simp
 | p::P,w::vs,i+1,m,c,h1,h2,b=>by
  unfold bindC
  exact ykS (List.nodup_cons.mp c).2 (by simpa using h1) (by simpa using h2) b
noncomputable def start (N:List Str) (vs:List V):St:=vs.map some++replicate (N.length-vs.length) none
def ytk (CX:CXT) (P:Program) (w:World) (K:PySem.W.Frag) (mg:Str->Option Value) (base:Heap) (N:List Str) (qual:Str) (scope:Scope) (f:Addr) (cd:Value) (A:Around) (outer:List Env) (s:Shared) (H:Hp) (E:XK):Cx where
 prog:=P
 w:=w
 K:=K
 mg:=mg
 base:=base
 A:=A.deeper (envOfC qual scope s.heap.objs.size f cd)
 N:=N
 s₀:=s
 H₀:=H
 env:=envOfC qual scope s.heap.objs.size f cd
 outer:=outer
 stack:=envOfC qual scope s.heap.objs.size f cd::outer
 ex:=[]
 calm:=true
 fn:=fun _=>true
 pn:=[]
 xe:=fun e s'=>wpAny (model P w) (A.deeper (envOfC qual scope s.heap.objs.size f cd)) (leaving (envOfC qual scope s.heap.objs.size f cd) e) (fun _ s''=>CX outer H s E e s'') (fun e' s''=>CX outer H s E e' s'') s'
theorem ynK {b:Scope}{n:Nat}{x:Str}(h:b.names.lookup x=some .cell):∃ c,(cellsFrom n b.names []).lookup x=some c:=by
 have q:=PySem.W.cellsFrom_some b.names n [] (.inl h)
 exact Option.isSome_iff_exists.mp q
theorem ypW {CX:CXT}{P:Program}{w:World}{K:PySem.W.Frag}{t:Str->Option Value}{base:Heap}{N ps:List Str}{d:Str}{scope:Scope}{f:Addr}{o:Value}{A:Around}{outer:List Env}{s s1:Shared}{H:Hp}{E:XK}{us:List Value}{vs:List V}
  (S:yek N ps scope) (G:A.handled=none) (g:Env0 P w K t base A outer s H) (hl:vs.length=ps.length) (r:Vals vs us)
  (x:InCallC s s.heap.objs.size (bindL (envOfC d scope s.heap.objs.size f o).kindOf (ps.zip us) fun _=>none) (cellsFrom (s.heap.objs.size+1) scope.names []) (bindC (envOfC d scope s.heap.objs.size f o).kindOf (ps.zip us) fun _=>none) s1) :
  Inv (ytk CX P w K t base N d scope f o A outer s H E) [] (start N vs) H s1:=by
 have F:ps.length<=N.length:=by have:=congrArg length S.pre;grind
 obtain ⟨h1,J,rfl,B⟩:=x.done
 have j:∀ b:Addr,b∉(ytk CX P w K t base N d scope f o A outer s H E).ex:=fun b z=>absurd (show b∈([]:List Addr) from z) (by simp)
 refine ⟨⟨g.mod,S.kind,rfl,rfl,Nat.le_refl _,fun y z c h1 h2=>?_,fun y l=>?_,fun y c _ h=>?_,fun _=>G,Around.frames_deeper g.frames,.inr ⟨rfl,rfl⟩,fun b z=>absurd z (j b),g.bs,g.bsz,fun b _ _=>j b,fun b z=>absurd z (j b),g.funs,g.frf⟩,
  rfl,g.bare,Un.kept B,⟨_,x.toInCall.ns,fun i y v h1 h2 L=>?_⟩,fun y c h=>⟨_,x.cell y c h⟩,g.hok.fresh (Nat.le_refl _),fun y c h=>?_,fun p hp=>absurd (show p∈[] from hp) (by simp),g.hok.kept B,?_⟩
 .exact name_of_addr x.apart (PySem.mem_of_lookup h1) (PySem.mem_of_lookup h2)
 .rcases l with l|l
  .exact ynK l
  .exact absurd rfl (S.nofree _ (PySem.mem_of_lookup l))
 .exact le_of_lt (x.above y c (PySem.mem_of_lookup h))
 .have n:i<vs.length:=by
   unfold start at h2
   by_cases n:i<vs.length
   .exact n
   .rw [getElem?_append_right (by simpa using n)] at h2
    rw [getElem?_replicate] at h2
    split at h2<;>cases h2
  have I:vs[i]?=some v:=by
   unfold start at h2
   rw [getElem?_append_left (by simpa using n),getElem?_map] at h2
   simp_all
  obtain ⟨u,C,D⟩:=r.get I
  have hp:ps[i]?=some y:=by
   rw [<- S.pre,List.getElem?_take_of_lt (by omega)];exact h1
  have m:ps.Nodup:=by rw [<- S.pre];exact S.nd.sublist (List.take_sublist _ _)
  refine ⟨u,D,?_⟩
  rcases S.par y (mem_of_getElem? hp) with k|k
  .exact .inl ⟨k,ykR m hp C k⟩
  .obtain ⟨c,e⟩:=ynK k
   refine .inr ⟨.inl k,c,e,?_⟩
   have q:=x.cell y c e
   rw [ykS m hp C (by show scope.names.lookup y≠_;rw [k];decide)] at q
   exact q
 .exact g.hok.fresh (le_of_lt (x.above y c (PySem.mem_of_lookup h)))
 .unfold start
  show _=N.length
  simp_all
theorem yDd {CX:CXT}{P:Program}{w:World}{K:PySem.W.Frag}{D:Str->Option Value}{base:Heap}{k:Nat}{f:Addr}{name c:Str}{g:Arguments}{body:List Stmt}{scope:Scope}{U kV B T d W oc:Value}{R od:Option Addr}
  {G:Array _}{N ps:List Str}{sp:Sp}(lk:K.lookup f=some ⟨oc,od,.func (fnOf name c g body scope U kV B T R d W),G⟩) (M:codeIn K d c=true) (S:yek N ps scope)
  (z:∀ vs H Q E,sp vs H Q E->vs.length=ps.length)
  (j:∀ A outer s H vs Q E,Room k (A.deeper (envOfC c scope s.heap.objs.size f d))->sp vs H Q E ->
   ∃ t,PSs (ytk CX P w K D base N c scope f d A outer s H E) body t/\t { nx:=fun _ i=>Q .non i,rt:=Q } (start N vs) H) :
  FnOk P w K D base CX (k+1) f (fnOf name c g body scope U kV B T R d W) ps sp:=by
 refine ⟨z,fun A outer s H args us vs Q E O p Y r C=>?_⟩
 have hl:=z _ _ _ _ C
 have X:=p.mod.kin.keeps fun b o e=>(p.bs b o e).1
 have L:=p.mod.nolimit.keeps fun b o e=>(p.bs b o e).1
 have l:∀ y∈ps.zip us,scope.names.lookup y.1=some _\/(scope.names.lookup y.1=some _/\((cellsFrom (s.heap.objs.size+1) scope.names []).lookup y.1).isSome=true):=fun ⟨n,v⟩ hy=>by
  rcases S.par n (of_mem_zip hy).1 with q|q
  .exact .inl q
  .exact .inr ⟨q,PySem.W.cellsFrom_some _ _ _ (.inl q)⟩
 refine codeAny_call_function O.depth (X _ _ lk) rfl S.co S.gen rfl (PySem.W.codeRec_of X M) (Y _ _ _ _ ?_)
 refine wpAny_newFunctionEnv_cells S.kind l fun env he s1 x=>?_
 subst he
 refine ⟨L.keeps x.toInCall.keep,codeAny_func ?_⟩
 obtain ⟨t,ht,Z⟩:=j A outer s H vs Q E (O.deeper _) C
 have I:Inv (ytk CX P w K D base N c scope f d A outer s H E) [] _ H s1:=ypW S O.hd p hl r x
 refine wpAny_mono (ht [] s1 _ H _ I Z) (fun fl s' hs=>?_) fun e s' hs=>hs
 have m:∀ {h:St}{i:Hp}{v:V}{u:Value},Inv (ytk CX P w K D base N c scope f d A outer s H E) [] h i s'->RelV v u->Q v i->CE outer P w H s Q u s' :=
  fun {h i v u} J F q=>⟨v,i,J.os,J.bare,J.base,J.hok,F,q⟩
 cases fl with
 | ret u =>
  obtain ⟨v,h,i,J,F,q⟩:=hs
  exact m J F q
 | next =>
  obtain ⟨h,i,J,q⟩:=hs
  exact m (v:=V.non) J rfl q
 | brk =>
  obtain ⟨_,_,_,q⟩:=hs
  exact False.elim q
 | cont =>
  obtain ⟨_,_,_,q⟩:=hs
  exact False.elim q
end L2
namespace L2
open PySem PySem.Spec PyProof.Rows
section
variable {X:Cx}{x:Str}{p pos:Pos}{e:Expr}{es:List Expr}{t:TA}{id T:String}{r:List V->Hp->VK->Prop}
def tCB (r:List V->Hp->VK->Prop) (t:TA):TE:=fun σ H Q=>t σ H fun vs H1=>r vs H1 Q
theorem yjx (q:yfg X (.builtin id) r) (j:Gl X x) (g:X.mg x=none) (f:bootBuiltins x=some (.builtin id)) (l:PA X (e::es) t) (n:x≠"__name__":=by decide) (d:(x == "__debug__")=false:=by decide)
  (k:starEach (e::es) X.env=(false,eval e X.env)::starEach es X.env:=by rfl) (c:(backTo pos (starEach es X.env)).any (·.1)=false:=by rfl):PE X (.Call (.Name x p) (e::es) [] pos) (tCB r t):=by
 intro b s σ H Q I h
 exact wpAny_Call_Name_kw (ykK I j g f (PyProof.Rows.callWith_builtin1 (thn (l pos b s σ H _ I h) fun us s1 ⟨vs,o,u,i,m⟩=>q b s1 σ o vs us Q u i m) k c) n d)
theorem ykT (q:yfg X (.type T) r) (j:Gl X x) (g:X.mg x=none) (f:bootBuiltins x=some (.type T)) (l:PA X (e::es) t) (n:x≠"__name__":=by decide) (d:(x == "__debug__")=false:=by decide)
  (k:starEach (e::es) X.env=(false,eval e X.env)::starEach es X.env:=by rfl) (c:(backTo pos (starEach es X.env)).any (·.1)=false:=by rfl):PE X (.Call (.Name x p) (e::es) [] pos) (tCB r t):=by
 intro b s σ H Q I h
 exact wpAny_Call_Name_kw (ykK I j g f (PyProof.Rows.callWith_type1 (thn (l pos b s σ H _ I h) fun us s1 ⟨vs,o,u,i,m⟩=>q b s1 σ o vs us Q u i m) k c) n d)
end
end L2
namespace HT
open PySem PyProof.Rows
section
variable {prog:Program}{w:World}{A:Around}{E:Value->Shared->Prop}{s:Shared}
noncomputable def sIx (n d:Nat):Option Int->Nat
 | none=>d
 | some v=>if v<0 then (v+(n:Int)).toNat else min v.toNat n
theorem sIx_none (n d:Nat):sIx n d none=d:=rfl
theorem sIx_nat (n d k:Nat):sIx n d (some (k:Int))=min k n:=by
 show (if (k:Int)<0 then ((k:Int)+(n:Int)).toNat else min (k:Int).toNat n)=min k n
 rw [if_neg (by omega),Int.toNat_natCast]
end
end HT
namespace L2
open PySem PySem.Spec PyProof.Rows
noncomputable abbrev TO:=St->Hp->(Option Int->Hp->Prop)->Prop
def PO (X:Cx) (e:Option Expr) (t:TO):Prop :=
 ∀ (pins:List (Addr×Obj)) (s:Shared) (σ:St) (H:Hp) (Q:Option Int->Hp->Prop),Inv X pins σ H s->t σ H Q ->
  wpAny (model X.prog X.w) X.A (evalPart e X.env) (fun u s'=>∃ o H',Inv X pins σ H' s'/\IsPart u o/\Q o H') X.xe s
def ypX:TO:=fun _ H Q=>Q none H
def yAh (t:TE):TO:=fun σ H Q=>t σ H fun x H1=>∃ i,x=.int i/\Q (some i) H1
theorem intsAre_of {ns:List Int}:∀ {us:List Value},Vals (ns.map V.int) us->IntsAre us ns:=by
 induction ns with
 | nil=>intro us r;cases r;exact .nil
 | cons n ns ih =>
  intro us r
  cases r with
  | cons r1 r2 =>
   obtain ⟨t,e⟩:=r1
   subst e
   exact .cons n t (ih r2)
section
variable {X:Cx}{e:Expr}{te:TE}{lo hi:Option Expr}{tl th:TO}{pos p2:Pos}
theorem yxb:PO X none ypX:=by
 intro a s σ H Q I h
 exact wpAny_pure ⟨none,H,I,.none,h⟩
theorem yxc (h:PE X e te):PO X (some e) (yAh te):=by
 intro b s σ H Q I f
 refine thn (h b s σ H _ I f) fun u s1 ⟨x,d,g,c,j⟩=>?_
 obtain ⟨i,rfl,q⟩:=j
 obtain ⟨t,rfl⟩:=c
 exact ⟨_,d,g,.int i t,q⟩
def SlR (X:Cx) (r:V->Option Int->Option Int->Hp->VK->Prop):Prop :=
 ∀ (pins:List (Addr×Obj)) (s:Shared) (σ:St) (H:Hp) (x:V) (v vl vu:Value) (lo hi:Option Int) (sl:Addr) (Q:VK),Inv X pins σ H s->RelV x v->s.heap.IsSliceOf sl vl vu .none->IsPart vl lo->IsPart vu hi->r x lo hi H Q ->
  ∃ T id,typeLookup (.type T) "__getitem__" = pure (some (.builtin id))/\s.TypeIs v T/\wpAny (model X.prog X.w) X.A (getItem v (.ref sl)) (EP X pins σ Q) X.xe s
def tSl (r:V->Option Int->Option Int->Hp->VK->Prop) (te:TE) (tl th:TO):TE:=fun σ H Q=>te σ H fun x H1=>tl σ H1 fun l H2=>th σ H2 fun u H3=>r x l u H3 Q
theorem ytl {r:V->Option Int->Option Int->Hp->VK->Prop}(j:SlR X r) (z:PE X e te) (hl:PO X lo tl) (p:PO X hi th):PE X (.Subscript e (.Slice lo hi none p2) pos) (tSl r te tl th):=by
 intro c s σ H Q I h
 refine Subscript_ (thn (z c s σ H _ I h) fun v s1 ⟨x,B,n,t,A⟩=>?_)
 refine wpAny_Slice (thn (hl c s1 σ B _ n A) fun f s2 ⟨l,D,o,pl,w⟩=>thn (p c s2 σ D _ o w) fun g s3 ⟨u,d,i,F,k⟩=>?_)
 refine wpAny_pure ?_
 have E:Inv X c σ d { s3 with heap:=s3.heap.push { cls:=.type "slice",data:=.fields #[f,g,.none] } }:=i.kept fun b G q=>Heap.get?_push_of_some _ q
 obtain ⟨T,id,C,m,y⟩:=j c _ σ d x v f g l u s3.heap.objs.size Q E t (Heap.IsSliceOf.new ..) pl F k
 exact tail_any m C y (rfl)
noncomputable def yCD (xs:List V) (lo hi:Option Int):List V:=(xs.drop (HT.sIx xs.length 0 lo)).take (HT.sIx xs.length xs.length hi-HT.sIx xs.length 0 lo)
theorem ymA xs lo hi:(yCD xs lo hi).length<=xs.length:=by
 unfold yCD
 rw [length_take,length_drop]
 omega
end
end L2
namespace L2
open PySem PySem.Spec PyProof.Rows
noncomputable def ixN (n:Nat) (i:Int):Option Nat:=if 0<=i then (if i<n then some i.toNat else none) else if -(n:Int)<=i then some (i+n).toNat else none
def atI {α:Type}(xs:List α) (i:Int):Option α:=(ixN xs.length i).bind fun j=>xs[j]?
theorem ypY {n:Nat}{i:Int}{j:Nat}(h:ixN n i=some j):seqIndex? i n=some j/\j<n/\-n<=i/\i<n:=by
 unfold ixN at h
 by_cases b:0<=i
 .rw [if_pos b] at h
  by_cases h1:i<n
  .rw [if_pos h1] at h
   have e:=Option.some.inj h
   exact ⟨by rw [seqIndex_of b h1,e],by omega,by omega,h1⟩
  simp_all
 .rw [if_neg b] at h
  by_cases h1:-n<=i
  .rw [if_pos h1] at h
   have e:=Option.some.inj h
   exact ⟨by rw [seqIndex_neg (by omega) h1,e],by omega,h1,by omega⟩
  grind
theorem ymB {α:Type}{xs:List α}{i:Int}{v:α}(h:atI xs i=some v):∃ j,seqIndex? i xs.length=some j/\xs[j]?=some v/\j<xs.length/\-xs.length<=i/\i<xs.length:=by
 unfold atI at h
 cases e:ixN xs.length i with
 | none=>rw [e] at h;cases h
 | some j =>
  rw [e] at h
  obtain ⟨h1,h2,b,a⟩:=ypY e
  exact ⟨j,h1,h,h2,b,a⟩
theorem ydi {α:Type}{xs:List α}{j:Nat}{v:α}(h:xs[j]?=some v):atI xs j=some v:=by
 have b:=(List.getElem?_eq_some_iff.mp h).1
 have e:ixN xs.length j=some j:=by
  unfold ixN
  simp_all
 unfold atI;rw [e];exact h
noncomputable def ypZ (b:Expr):Prop:=∀ o i,subscripted b false o i=operate [o,i] (getItem o i)
def IxR (X:Cx) (r:R2):Prop :=
 ∀ (value slice:Expr) (pins:List (Addr×Obj)) (s:Shared) (σ:St) (H:Hp) (x y:V) (v u:Value) (Q:VK),Inv X pins σ H s->RelV x v->RelV y u->r x y H Q ->
  subscripted slice false v u=operate [v,u] (getItem v u)->wpAny (model X.prog X.w) X.A (subscriptTail value slice v u) (EP X pins σ Q) X.xe s
def MtR (X:Cx) (id:String) (r:V->List V->Hp->VK->Prop):Prop :=
 ∀ (pins:List (Addr×Obj)) (s:Shared) (σ:St) (H:Hp) (x:V) (xs:List V) (v:Value) (us:List Value) (Q:VK),Inv X pins σ H s->RelV x v->Vals xs us->r x xs H Q ->
  wpAny (model X.prog X.w) X.A (call (.builtin id) (v::us)) (EP X pins σ Q) X.xe s
section
variable {X:Cx}{a b:Expr}{ta tb:TE}{pos:Pos}
theorem IxR.or {r e:R2}(h:IxR X r) (h':IxR X e):IxR X fun x y H Q=>r x y H Q\/e x y H Q:=by
 intro value slice c s σ H x y v u Q I d f q hs
 rcases q with q|q
 .exact h value slice c s σ H x y v u Q I d f q hs
 .exact h' value slice c s σ H x y v u Q I d f q hs
theorem yDe {r:R2}(i:IxR X r) (j:PE X a ta) (f:PE X b tb) (hs:ypZ b):PE X (.Subscript a b pos) (tOp r ta tb):=by
 intro d s σ H Q I h
 exact Subscript_ (yCY j f I h fun v u s2 x y g e l k q=>i a b d s2 σ g x y v u Q e l k q (hs _ _))
def yDf (K:PySem.W.Frag):R2:=fun x y H Q=>∃ p xs i v,x=.ref p/\y=.int i/\SqL K H p xs/\atI xs i=some v/\Q v H
def yDg (K:PySem.W.Frag):R2:=fun x y H Q=>∃ p xs i v,x=.ref p/\y=.int i/\SqT K H p xs/\atI xs i=some v/\Q v H
def yDh:R2:=fun x y H Q=>∃ z i c,x=.str z/\y=.int i/\z.length<=sizeLine/\atI z.cps.toList i=some c/\Q (.str ⟨#[c]⟩) H
theorem ix_list:IxR X (yDf X.K):=by
 intro value slice e s σ H x y v u Q I B C h hs
 obtain ⟨p,xs,i,z,rfl,rfl,m,A,q⟩:=h
 cases B
 obtain ⟨t,rfl⟩:=C
 obtain ⟨its,r,pl,hz⟩:=I.list m
 obtain ⟨j,h1,h2,D,o,n⟩:=ymB A
 obtain ⟨w,l,g⟩:=r.get h2
 have hl:=r.length
 have E:=yiO
 have d:EP X e σ Q w s:=⟨z,H,I,g,q⟩
 by_cases k:0<=i
 .have f:=by
   rw [seqIndex_of k n] at h1
   exact Option.some.inj h1
  exact item_listR pl.isList k (by omega) (by rw [f];simpa using l) d hs
 .have f:(i+its.toArray.size).toNat=j:=by
   rw [seqIndex_neg (by omega) o] at h1
   rw [size_toArray,<- hl]
   exact Option.some.inj h1
  exact subscriptTail_builtinR pl.isList.typeIs slot_list_getitem.lookup
   (wpAny_getItem_list_neg pl.isList (by omega) (by simp_all) (by omega) (by rw [f];simpa using l) ⟨rfl,d⟩) hs
theorem ix_tup:IxR X (yDg X.K):=by
 intro value slice d s σ H x y v u Q I m g h hs
 obtain ⟨p,xs,i,z,rfl,rfl,k,l,q⟩:=h
 cases m
 obtain ⟨t,rfl⟩:=g
 obtain ⟨its,r,pl,hz⟩:=I.tuple k
 obtain ⟨j,h1,h2,A,o,C⟩:=ymB l
 obtain ⟨w,n,f⟩:=r.get h2
 have hl:=r.length
 have B:=yiO
 have e:EP X d σ Q w s:=⟨z,H,I,f,q⟩
 exact subscriptTail_builtinR pl.typeIs slot_tuple_getitem.lookup
  (getItem_tuple (j:=j) pl (by omega) (by omega) (by simp_all) (by simpa using n) ⟨rfl,e⟩) hs
theorem yvL:IxR X yDh:=by
 intro value slice e s σ H x y v u Q I l m h hs
 obtain ⟨z,i,c,rfl,rfl,hz,g,q⟩:=h
 obtain ⟨t,rfl⟩:=l
 obtain ⟨t',rfl⟩:=m
 obtain ⟨j,h1,h2,o,k,f⟩:=ymB g
 have hl:z.cps.toList.length=z.length:=rfl
 rw [hl] at h1 k f
 have n:=yiO
 exact tail_any (typeIs_str s z t) slot_str_getitem.lookup (getItem_str (by
  grind) (by simp_all) ⟨.str _,H,I.tok _,⟨_,rfl⟩,q⟩) hs
def rIx (K:PySem.W.Frag):R2:=fun x y H Q=>yDf K x y H Q\/yDg K x y H Q\/yDh x y H Q
theorem yvM:IxR X (rIx X.K):=ix_list.or (ix_tup.or yvL)
theorem yoM (its:List Value) n j u:Obj.mapSeq (·.setIfInBounds j u) { cls:=.type "list",data:=.seq its.toArray n }={ cls:=.type "list",data:=.seq (its.set j u).toArray n }:=by
 simp [Obj.mapSeq]
theorem Inv.lst {d:List _}{σ:St}{H:Hp}{s:Shared}{p:Addr}{xs:List V}(I:Inv X d σ H s) (h:H p=some (.lst xs)) :
  ∃ (its:List Value) (n:Nat),Vals xs its/\s.heap.get? p=some { cls:=.type "list",data:=.seq its.toArray n }/\xs.length<=sizeLine:=by
 obtain ⟨z,its,n,r,e⟩:=I.hok p _ h
 grind
theorem Inv.lstUpd {d:List _}{σ:St}{H:Hp}{s:Shared}{p:Addr}{xs ys:List V}{its its':List Value}{n g:Nat}{f:Obj->Obj}(I:Inv X d σ H s) (h:H p=some (.lst xs))
  (j:s.heap.get? p=some { cls:=.type "list",data:=.seq its.toArray n }) (i:f { cls:=.type "list",data:=.seq its.toArray n }={ cls:=.type "list",data:=.seq its'.toArray g }) (r:Vals ys its') (hz:ys.length<=sizeLine) t :
  Inv X d σ (upd H p (.lst ys)) { s with heap:=s.heap.update p f,toks:=t }:=by
 have e:(s.heap.update p f).get? p=some { cls:=.type "list",data:=.seq its'.toArray g }:=by
  rw [Heap.get?_update_self f j (by rw [i]<;>rfl),i]
 refine I.write (by rw [h];trivial) (.inl rfl) (fun b u k q=>(Heap.get?_update_other _ _ (Ne.symm k)).trans q) ⟨_,e⟩ ?_
 exact ⟨hz,its',g,r,e⟩
def yAi:V->V->V->Hp->(Hp->Prop)->Prop:=fun o i v H Q=>∃ p xs k j,o=.ref p/\i=.int k/\H p=some (.lst xs)/\ixN xs.length k=some j/\Q (upd H p (.lst (xs.set j v)))
theorem set_list:yEQ X yAi:=by
 intro g s σ H o i v C B u Q I m x A h
 obtain ⟨p,xs,k,j,rfl,rfl,hp,z,q⟩:=h
 cases m
 obtain ⟨t,rfl⟩:=x
 obtain ⟨its,n,r,e,hz⟩:=I.lst hp
 obtain ⟨h1,h2,y,w⟩:=ypY z
 have hl:=r.length
 have D:=yiO
 have l :=
  I.lstUpd hp e (yoM its n j u) (r.set A j) (by rw [length_set];exact hz) s.toks
 by_cases f:0<=k
 .have d:=by
   rw [seqIndex_of f w] at h1
   exact Option.some.inj h1
  exact PySem.W.ki_setAt e f (by omega) (by simp_all) (by rw [d];exact ⟨_,l,q⟩)
 .have d:(k+its.toArray.size).toNat=j:=by
   rw [seqIndex_neg (by omega) y] at h1
   rw [size_toArray,<- hl]
   exact Option.some.inj h1
  exact PySem.W.ki_setBack e (by omega) (by simp_all) (by omega) (by rw [d];exact ⟨_,l,q⟩)
theorem ykU (lo hi:Option Int) (n:Nat):(sliceBounds lo hi none n).1=((HT.sIx n 0 lo:Nat):Int)/\(sliceBounds lo hi none n).2.1=((HT.sIx n n hi:Nat):Int)/\(sliceBounds lo hi none n).2.2=1:=by
 refine ⟨?_,?_,rfl⟩
 .cases lo with
  | none=>simp [sliceBounds,HT.sIx]
  | some i =>
   simp only [sliceBounds,HT.sIx,Option.getD_none,show (1:Int)>0 by decide,if_true]
   by_cases h:i<0
   .simp only [h,if_true]<;>omega
   .simp only [h,if_false]<;>omega
 .cases hi with
  | none=>simp [sliceBounds,HT.sIx]
  | some i =>
   simp only [sliceBounds,HT.sIx,Option.getD_none,show (1:Int)>0 by decide,if_true]
   by_cases h:i<0
   .simp only [h,if_true]<;>omega
   .simp only [h,if_false]<;>omega
theorem yjy (its:List Value) (lo hi:Option Int):slicePick its.toArray lo hi none=((its.drop (HT.sIx its.length 0 lo)).take (HT.sIx its.length its.length hi-HT.sIx its.length 0 lo)).toArray:=by
 obtain ⟨h1,h2,h3⟩:=ykU lo hi its.toArray.size
 unfold slicePick
 rw [h1,h2,h3]
 simp only [sliceRange_one,pick_run,size_toArray]<;>rfl
def yEY (K:PySem.W.Frag):V->Option Int->Option Int->Hp->VK->Prop:=fun x lo hi H Q=>∃ a xs,x=.ref a/\SqL K H a xs/\∀ p,H p=none->Q (.ref p) (upd H p (.lst (yCD xs lo hi)))
theorem yjz:SlR X (yEY X.K):=by
 intro f s σ H x v n m lo k sl Q I i hs pl g h
 obtain ⟨a,xs,rfl,j,q⟩:=h
 cases i
 obtain ⟨its,r,e,hz⟩:=I.list j
 have d:=r.length
 refine ⟨_,_,slot_list_getitem.lookup,e.isList.typeIs,?_⟩
 refine wpAny_getItem_list_slice e.isList hs pl g .none (by simp) ?_
 rw [yjy,<- d]
 refine ⟨.ref s.heap.objs.size,_,I.laid (fun b l q=>Heap.get?_push_of_some _ q) (Nat.le_refl _) ?_,rfl,q _ (I.hok.fresh (Nat.le_refl _))⟩
 exact ⟨Nat.le_trans (ymA xs lo k) hz,_,0,(r.drop _).take _,Heap.get?_push_size _ rfl⟩
noncomputable def yfU:V->Bool
 | .non=>true
 | .bl _=>true
 | .int _=>true
 | .str _=>true
 | _=>false
noncomputable def eqV:V->V->Bool
 | .non,.non=>true
 | .bl a,.bl b=>a == b
 | .bl a,.int b=>(if a then 1 else 0) == b
 | .int a,.bl b=>a == (if b then 1 else 0)
 | .int a,.int b=>a == b
 | .str a,.str b=>a == b
 | _,_=>false
theorem eqAt_V {A:Around}{s:Shared}{y x:V}{u v:Value}(f:RelV y u) (d:RelV x v) (g:yfU y=true) (e:yfU x=true):SeqAt.EqAt A s u v (eqV y x):=by
 cases y with
 | non =>
  cases f
  cases x with
  | non=>cases d;exact SeqAt.EqAt.same _
  | bl b=>cases d;exact SeqAt.EqAt.none_bool b
  | int b=>obtain ⟨t,rfl⟩:=d;exact SeqAt.EqAt.none_int b t
  | str b=>obtain ⟨t,rfl⟩:=d;exact SeqAt.EqAt.none_str b t
  | _=>exact absurd (show false=true from e) Bool.false_ne_true
 | bl a =>
  cases f
  cases x with
  | non=>cases d;exact SeqAt.EqAt.bool_none a
  | bl b=>cases d;exact SeqAt.EqAt.bool_bool a b
  | int b=>obtain ⟨t,rfl⟩:=d;exact SeqAt.EqAt.bool_int a b t
  | str b=>obtain ⟨t,rfl⟩:=d;exact SeqAt.EqAt.bool_str a b t
  | _=>exact absurd (show false=true from e) Bool.false_ne_true
 | int a =>
  obtain ⟨t',rfl⟩:=f
  cases x with
  | non=>cases d;exact SeqAt.EqAt.int_none a t'
  | bl b=>cases d;exact SeqAt.EqAt.int_bool a t' b
  | int b=>obtain ⟨t,rfl⟩:=d;exact SeqAt.EqAt.int_int a t' b t
  | str b=>obtain ⟨t,rfl⟩:=d;exact SeqAt.EqAt.int_str a t' b t
  | _=>exact absurd (show false=true from e) Bool.false_ne_true
 | str a =>
  obtain ⟨t',rfl⟩:=f
  cases x with
  | non=>cases d;exact SeqAt.EqAt.str_none a t'
  | bl b=>cases d;exact SeqAt.EqAt.str_bool a t' b
  | int b=>obtain ⟨t,rfl⟩:=d;exact SeqAt.EqAt.str_int a t' b t
  | str b=>obtain ⟨t,rfl⟩:=d;exact SeqAt.EqAt.str_str a t' b t
  | _=>exact absurd (show false=true from e) Bool.false_ne_true
 | _=>exact absurd (show false=true from g) Bool.false_ne_true
def eqU (x:V) (u:Value):Bool:=match u with
 | .none=>eqV .non x
 | .bool b=>eqV (.bl b) x
 | .int i _=>eqV (.int i) x
 | .str z _=>eqV (.str z) x
 | _=>false
theorem yvN {x y:V}{u:Value}(r:RelV y u) (f:yfU y=true):eqU x u=eqV y x:=by
 cases y with
 | non=>cases r;rfl
 | bl b=>cases r;rfl
 | int i=>obtain ⟨t,rfl⟩:=r;rfl
 | str z=>obtain ⟨t,rfl⟩:=r;rfl
 | _=>exact absurd (f) Bool.false_ne_true
theorem yhz {x:V}:∀ {xs:List V}{us:List Value},Vals xs us->xs.all yfU=true->us.any (eqU x)=xs.any fun y=>eqV y x
 | _,_,.nil,_=>rfl
 | y::xs,u::us,.cons r t,f=>by
  rw [List.all_cons,and_eq_true] at f
  rw [any_cons,any_cons,yvN r f.1,yhz t f.2]
theorem yfV {A:Around}{s:Shared}{x:V}{v:Value}(e:RelV x v) (g:yfU x=true):∀ {xs:List V}{us:List Value},Vals xs us->xs.all yfU=true->∀ u∈us,SeqAt.EqAt A s u v (eqU x u)
 | _,_,.nil,_=>fun u d=>by cases d
 | y::xs,u::us,.cons r t,f=>fun h d=>by
  rw [List.all_cons,and_eq_true] at f
  rcases mem_cons.mp d with rfl|d
  .rw [yvN r f.1];exact eqAt_V r e f.1 g
  .exact yfV e g t f.2 h d
def inV (x:V) (xs:List V):Bool:=xs.any fun y=>eqV y x
def rIn (K:PySem.W.Frag) (neg:Bool):R2:=fun x y H Q=>∃ p xs,y=.ref p/\(SqL K H p xs\/SqT K H p xs)/\yfU x=true/\xs.all yfU=true/\Q (.bl (if neg then !inV x xs else inV x xs)) H
theorem yhA:OpR X (compareOp .In) (rIn X.K false):=by
 intro f s σ H x y v u Q I g j h
 obtain ⟨p,xs,rfl,d,i,fs,q⟩:=h
 cases j
 rcases d with d|d
 .obtain ⟨its,r,pl,hz⟩:=I.list d
  refine SeqAt.in_listAt _ pl.isList (fun w e=>yfV g i r fs w (by simpa using e)) ⟨.bl _,H,I,rfl,?_⟩
  rw [show its.toArray.any _=its.any (eqU x) by simp,yhz r fs]
  exact q
 .obtain ⟨its,r,pl,hz⟩:=I.tuple d
  refine SeqAt.in_tupleAt _ pl (fun w e=>yfV g i r fs w (by simpa using e)) ⟨.bl _,H,I,rfl,?_⟩
  rw [show its.toArray.any _=its.any (eqU x) by simp,yhz r fs]
  exact q
theorem ykV:OpR X (compareOp .NotIn) (rIn X.K true):=by
 intro f s σ H x y v u Q I g j h
 obtain ⟨p,xs,rfl,d,i,fs,q⟩:=h
 cases j
 rcases d with d|d
 .obtain ⟨its,r,pl,hz⟩:=I.list d
  refine SeqAt.notIn_listAt _ pl.isList (fun w e=>yfV g i r fs w (by simpa using e)) ⟨.bl _,H,I,rfl,?_⟩
  rw [show its.toArray.any _=its.any (eqU x) by simp,yhz r fs]
  exact q
 .obtain ⟨its,r,pl,hz⟩:=I.tuple d
  refine SeqAt.notIn_tupleAt _ pl (fun w e=>yfV g i r fs w (by simpa using e)) ⟨.bl _,H,I,rfl,?_⟩
  rw [show its.toArray.any _=its.any (eqU x) by simp,yhz r fs]
  exact q
theorem yt:yfg X (.builtin "len") fun xs H Q=>∃ p ys,xs=[.ref p]/\(SqL X.K H p ys\/SqT X.K H p ys)/\Q (.int ys.length) H:=by
 intro g s σ H xs us Q I r h
 obtain ⟨p,ys,rfl,e,q⟩:=h
 obtain ⟨u,rfl,i⟩:=vals1 r
 cases i
 have j:=yiO
 rcases e with e|e
 .obtain ⟨its,f,pl,hz⟩:=I.list e
  have d:=f.length
  exact Calls.call_len_list pl.isList (by grind) ⟨.int ys.length,H,I.tok _,⟨s.toks+1,by grind⟩,q⟩
 .obtain ⟨its,f,pl,hz⟩:=I.tuple e
  have d:=f.length
  exact len_tuple pl (by grind) ⟨.int ys.length,H,I.tok _,⟨s.toks+1,by grind⟩,q⟩
theorem ydG:yfg X (.builtin "len") fun xs H Q=>∃ z,xs=[.str z]/\z.length<=sizeLine/\Q (.int z.length) H:=by
 intro d s σ H xs us Q I r h
 obtain ⟨z,rfl,hz,q⟩:=h
 obtain ⟨u,rfl,t,rfl⟩:=vals1 r
 have e:=yiO
 exact len_str (by omega) ⟨.int z.length,H,I.tok _,⟨_,rfl⟩,q⟩
theorem yK:yfg X (.type "list") fun xs H Q=>∃ p ys,xs=[.ref p]/\(SqL X.K H p ys\/SqT X.K H p ys)/\∀ l,H l=none->Q (.ref l) (upd H l (.lst ys)):=by
 intro j s σ H xs us Q I r h
 obtain ⟨p,ys,rfl,f,q⟩:=h
 obtain ⟨u,rfl,x⟩:=vals1 r
 cases x
 have i:∀ its,Vals ys its->ys.length<=sizeLine->∀ (h':Heap) c',(∀ b w,s.heap.get? b=some w->h'.get? b=some w) ->
   h'.get? s.heap.objs.size=some _->EP X j σ Q _ _:=fun its d hz h' c' k e =>
  ⟨.ref s.heap.objs.size,_,I.laid (t':=s.toks) k (Nat.le_refl _) (show ObjOk X.prog X.w _ h' _ (.lst ys) from ⟨hz,its,c',d,e⟩),rfl,q _ (I.hok.fresh (Nat.le_refl _))⟩
 rcases f with f|f
 .obtain ⟨its,d,pl,hz⟩:=I.list f
  have g:=d.length
  obtain ⟨o,t,v,n,m⟩:=pl.isList
  exact call_list_seq p (.inl rfl) t v m fun h' c' k e=>i its d hz h' c' k e
 .obtain ⟨its,d,pl,hz⟩:=I.tuple f
  have g:=d.length
  obtain ⟨o,t,v,n,m⟩:=pl
  exact call_list_seq p (.inr rfl) t v m fun h' c' k e=>i its d hz h' c' k e
def tyV (K:PySem.W.Frag) (T:String) (x:V) (H:Hp):Prop:=match x with
 | .str _=>T = "str"
 | .int _=>T = "int"
 | .ref p=>(T = "list"/\∃ xs,SqL K H p xs)\/(T = "tuple"/\∃ o,K.lookup p=some o/\o.cls=.type "tuple"/\o.dict=none) \/
   (T = "dict"/\((∃ kvs,H p=some (.dK kvs))\/∃ kvs,H p=some (.dT kvs)))\/(T = "set"/\∃ S n,H p=some (.set S n))
 | _=>False
theorem yvO {g:List _}{σ:St}{H:Hp}{s:Shared}{T:String}{x:V}{v:Value}(I:Inv X g σ H s) (r:RelV x v) (h:tyV X.K T x H) :
  s.TypeIs v T/\∀ a,v=.ref a->∃ l,s.heap.get? a=some l/\l.dict=none:=by
 cases x with
 | str z =>
  obtain ⟨t,rfl⟩:=r
  cases show T = "str" from h
  exact ⟨typeIs_str s z t,fun _ e=>nomatch e⟩
 | int i =>
  obtain ⟨t,rfl⟩:=r
  cases show T = "int" from h
  exact ⟨typeIs_int s i t,fun _ e=>nomatch e⟩
 | ref p =>
  cases r
  rcases h with ⟨rfl,xs,q⟩|⟨rfl,o,d,m,k⟩|⟨rfl,d⟩|⟨rfl,S,n,d⟩
  .obtain ⟨its,_,pl,_⟩:=I.list q
   refine ⟨pl.isList.typeIs,fun a e=>?_⟩
   cases e
   obtain ⟨o,n,e,c,k,_⟩:=pl
   exact ⟨o,e,k⟩
  .refine ⟨⟨o,I.kIn p o d,m⟩,fun a e=>?_⟩
   cases e
   exact ⟨o,I.kIn _ o d,k⟩
  .have z:∃ o,s.heap.get? p=some o/\o.ExactDict:=by
    rcases d with ⟨kvs,d⟩|⟨kvs,d⟩
    .obtain ⟨_,_,_,_,o,_,_,e,f,_⟩:=I.hok p _ d
     exact ⟨o,e,f⟩
    .obtain ⟨_,_,_,_,o,_,_,e,f,_⟩:=I.hok p _ d
     exact ⟨o,e,f⟩
   obtain ⟨o,e,f⟩:=z
   refine ⟨⟨o,e,f.1⟩,fun a j=>?_⟩
   cases j
   exact ⟨o,e,f.2.1⟩
  .obtain ⟨o,_,_,_,e,f,_⟩:=I.hok p _ d
   refine ⟨⟨o,e,f.1⟩,fun a j=>?_⟩
   cases j
   exact ⟨o,e,f.2.1⟩
 | _=>exact False.elim h
def yDi (K:PySem.W.Frag) (T:String) (r:V->List V->Hp->VK->Prop) (to:TE):TE:=fun σ H Q=>to σ H fun x H1=>tyV K T x H1/\r x [] H1 Q
def tBM (K:PySem.W.Frag) (T:String) (r:V->List V->Hp->VK->Prop) (to:TE) (t:TA):TE:=fun σ H Q=>to σ H fun x H1=>tyV K T x H1/\t σ H1 fun xs H2=>r x xs H2 Q
variable {o e:Expr}{es:List Expr}{to:TE}{t:TA}{name:Str}{apos cpos:Pos}{T id:String}{r:V->List V->Hp->VK->Prop}
theorem yvP (p:PlainAttrs T) (i:Slot T name id) (j:typeOf (.builtin id)=pure (.type "method_descriptor")) (m:MtR X id r) (w:PE X o to)
  (g:attributeBase o name X.env (eval o X.env)=eval o X.env:=by rfl) (f:(apos.endLine == cpos.line)=true:=by rfl):PE X (.Call (.Attribute o name apos) [] [] cpos) (yDi X.K T r to):=by
 intro d s σ H Q I h
 refine wpAny_Call_method0_late g f (thn (w d s σ H _ I h) fun v s1 ⟨x,u,l,k,n,q⟩=>?_)
 obtain ⟨h1,h2⟩:=yvO l k n
 exact ⟨T,id,p,i,j,h1,h2,Calls.callWith_builtin rfl (PySem.evalArgs_none (m d s1 σ u x [] v [] Q l k .nil q))⟩
theorem yxd (y:PlainAttrs T) (j:Slot T name id) (l:typeOf (.builtin id)=pure (.type "method_descriptor")) (A:MtR X id r) (D:PE X o to) (z:PA X (e::es) t)
  (i:attributeBase o name X.env (eval o X.env)=eval o X.env:=by rfl)
  (k:((backTo cpos (starEach (e::es) X.env)).all (fun x=>!x.1) && (backToKw cpos (keywordEach [] X.env)).all (fun x=>x.1.isSome)
   && decide ((e::es).length+([]:List Keyword).length+(if ([]:List Keyword).isEmpty then 0 else 1)<30))=true:=by rfl)
  (g:(apos.endLine == cpos.line)=true:=by rfl) (hs:starEach (e::es) X.env=(false,eval e X.env)::starEach es X.env:=by rfl) (f:(backTo cpos (starEach es X.env)).any (·.1)=false:=by rfl) :
  PE X (.Call (.Attribute o name apos) (e::es) [] cpos) (tBM X.K T r to t):=by
 intro d s σ H Q I h
 refine wpAny_Call_method_late i k g rfl (thn (D d s σ H _ I h) fun v s1 ⟨x,C,m,p,u,B⟩=>?_)
 obtain ⟨h1,h2⟩:=yvO m p u
 refine ⟨T,id,y,j,l,h1,h2,?_⟩
 have n:=z cpos d s1 σ C _ m B
 rw [hs] at n ⊢
 refine Calls.callWith_builtin (by show (false || (backTo cpos _).any _)=false;rw [f]<;>rfl) (Calls.evalArgs_plain ?_)
 exact thn n fun us s2 ⟨vs,E,w,r2,q⟩=>A d s2 σ E x vs v us Q w p r2 q
end
end L2
namespace L2
open PySem PySem.Spec PyProof.Rows
def MtM (X:Cx) (id:String) (r:V->List V->Hp->VK->Prop):Prop :=
 ∀ (pins:List (Addr×Obj)) (s:Shared) (σ:St) (H:Hp) (x:V) (xs:List V) (v:Value) (us:List Value) (Q:VK),Inv X pins σ H s->RelV x v->Vals xs us->r x xs H Q ->
  wpAny (model X.prog X.w) X.A (call (.builtin id) (v::us)) (EP X pins σ Q) X.xe s
theorem Vals.one:∀ {x:V}{us:List Value},Vals [x] us->∃ u,us=[u]/\RelV x u
 | _,_,.cons r .nil=>⟨_,rfl,r⟩
theorem Vals.zero:∀ {us:List Value},Vals [] us->us=[]
 | _,.nil=>rfl
theorem Vals.dropLast {xs:List V}{us:List Value}(h:Vals xs us):Vals xs.dropLast us.dropLast:=by
 induction h with
 | nil=>exact .nil
 | cons r t ih =>
  cases t with
  | nil=>exact .nil
  | cons q t'=>exact .cons r ih
theorem Vals.rep {xs:List V}{us:List Value}(h:Vals xs us):∀ k,Vals (replicate k xs).flatten (replicate k us).flatten
 | 0=>.nil
 | k+1=>by
  exact Vals.append h (Vals.rep h k)
theorem foldl_rep its:∀ k (b:List Value),
  List.foldl (fun x1 x2=>x1++x2) b.toArray (replicate k its.toArray)=(b++(replicate k its).flatten).toArray
 | 0,b=>by simp
 | k+1,b=>by
  have e:b.toArray++its.toArray=(b++its).toArray:=by simp
  have c:b++its++(replicate k its).flatten=b++(replicate (k+1) its).flatten:=by
   grind
  rw [<- c,<- foldl_rep its k _,<- e,List.replicate_succ,List.foldl_cons]
section
variable {X:Cx}{pins:List (Addr×Obj)}{σ:St}{H:Hp}{s:Shared}{l b:Addr}{xs ys zs:List V}
theorem Inv.lset {its its':List Value}{n:Nat}{f:Array Value->Array Value}{t':Nat}(I:Inv X pins σ H s) (d:H l=some (.lst xs))
  (e:s.heap.get? l=some { cls:=.type "list",data:=.seq its.toArray n }) (h:f its.toArray=its'.toArray) (c:Vals ys its') (hz:ys.length<=sizeLine) :
  Inv X pins σ (upd H l (.lst ys)) { s with heap:=s.heap.update l (Obj.mapSeq f),toks:=t' }:=by
 have q:=PySem.IsL.update e f
 rw [h] at q
 refine I.write (by rw [d];exact trivial) (.inl rfl) (fun i u g a=>(Heap.get?_update_other s.heap _ (Ne.symm g)).trans a) ⟨_,q⟩ ?_
 exact ⟨hz,its',_,c,q⟩
theorem Inv.lnew {its:List Value}{t':Nat}(I:Inv X pins σ H s) (a:Vals ys its) (hz:ys.length<=sizeLine) :
  Inv X pins σ (upd H s.heap.objs.size (.lst ys)) { s with heap:=s.heap.push { cls:=.type "list",data:=.seq its.toArray },toks:=t' } :=
 I.laid (fun _ _ q=>Heap.get?_push_of_some _ q) (Nat.le_refl _) ⟨hz,its,0,a,Heap.get?_push_size _ rfl⟩
theorem Inv.fresh (I:Inv X pins σ H s):H s.heap.objs.size=none:=I.hok.fresh (Nat.le_refl _)
theorem Inv.lstM (I:Inv X pins σ H s) (a:H l=some (.lst xs)):xs.length<=sizeLine/\∃ (its:List Value) (n:Nat),Vals xs its/\xs.length=its.length/\s.heap.get? l=some { cls:=.type "list",data:=.seq its.toArray n }:=by
 obtain ⟨z,its,n,r,e⟩:=I.hok l _ a
 exact ⟨z,its,n,r,r.length,e⟩
theorem ynL {n:Nat}(h:n<=sizeLine):Builtin.List.listTooLong n=false:=by
 exact decide_eq_false (by omega)
end
section
variable {X:Cx}
def ymC:V->List V->Hp->VK->Prop:=fun x vs H Q=>∃ l xs y,x=.ref l/\vs=[y]/\H l=some (.lst xs)/\xs.length<sizeLine/\Q .non (upd H l (.lst (xs++[y])))
theorem ydX:MtM X "list.append" ymC:=by
 intro c s σ H x vs v us Q I f g h
 obtain ⟨l,xs,y,rfl,rfl,b,hz,q⟩:=h
 cases f
 obtain ⟨u,rfl,d⟩:=g.one
 obtain ⟨z,its,n,r,hl,e⟩:=I.lstM b
 refine call_meets F.slot_list_append ⟨_,e,rfl⟩ F.entry_list_append (F.args_list_append_2 _ _) (PySem.list_append l its.toArray n u (by simp_all)) ⟨e,?_⟩
 refine ⟨.non,_,I.lset b e (by simp) (r.append (.cons d .nil)) ?_,rfl,q⟩
 grind
def yqa:V->List V->Hp->VK->Prop:=fun x vs H Q=>∃ l b xs zs,x=.ref l/\vs=[.ref b]/\H l=some (.lst xs)/\H b=some (.lst zs)/\xs.length+zs.length<=sizeLine/\Q .non (upd H l (.lst (xs++zs)))
theorem yqb:MtM X "list.extend" yqa:=by
 intro f s σ H x vs v us Q I k t h
 obtain ⟨l,b,xs,w,rfl,rfl,g,i,hz,q⟩:=h
 cases k
 obtain ⟨u,rfl,j⟩:=t.one
 cases j
 obtain ⟨z,its,n,r,hl,e⟩:=I.lstM g
 obtain ⟨y,c,o,r2,m,p⟩:=I.lstM i
 have hsz:its.toArray.size+c.toArray.size<=sizeLine:=by simp_all
 have d:¬ (!its.toArray.isEmpty && Builtin.List.listTooLong (its.toArray.size+c.toArray.size))=true:=by
  rw [ynL hsz,Bool.and_false]
  exact Bool.false_ne_true
 refine call_meets F.slot_list_extend ⟨_,e,rfl⟩ F.entry_list_extend (F.args_list_extend_2 _ _)
  (AutoSeq1.list_extend_list_list_0 l its.toArray n b c.toArray o d (by grind)) ⟨e,p,?_⟩
 refine ⟨.non,_,I.lset g e (by simp) (r.append r2) ?_,rfl,q⟩
 simp_all
def yEZ:V->List V->Hp->VK->Prop:=fun x vs H Q=>∃ l xs y,x=.ref l/\vs=[]/\H l=some (.lst xs)/\xs[xs.length-1]?=some y/\Q y (upd H l (.lst xs.dropLast))
theorem ynM:MtM X "list.pop" yEZ:=by
 intro f s σ H x vs v us Q I i j h
 obtain ⟨l,xs,y,rfl,rfl,d,g,q⟩:=h
 cases i
 have b:=j.zero
 subst b
 obtain ⟨z,its,n,r,hl,e⟩:=I.lstM d
 obtain ⟨u,m,k⟩:=r.get g
 have c:its.toArray[its.toArray.size-1]?=some u:=by
  simp_all
 refine call_meets F.slot_list_pop ⟨_,e,rfl⟩ F.entry_list_pop (F.args_list_pop_1 _) (MeetsSeq.list_pop_last l its.toArray n u c) ⟨e,?_⟩
 refine ⟨y,_,I.lset d e ?_ r.dropLast ?_,k,q⟩
 .simp_all
 .rw [List.length_dropLast]
  omega
def yFa:R2:=fun x y H Q=>∃ l b xs zs,x=.ref l/\y=.ref b/\H l=some (.lst xs)/\H b=some (.lst zs)/\xs.length+zs.length<=sizeLine/\∀ p,H p=none->Q (.ref p) (upd H p (.lst (xs++zs)))
theorem yiQ:OpR X (binaryOp .Add) yFa:=by
 intro d s σ H x y v u Q I o m h
 obtain ⟨l,b,xs,t,rfl,rfl,k,g,hz,q⟩:=h
 cases o
 cases m
 obtain ⟨z,its,n,r,hl,e⟩:=I.lstM k
 obtain ⟨p,c,w,r2,i,j⟩:=I.lstM g
 refine PySem.P.add_list e j ?_ (by simp_all)
 have f:its.toArray++c.toArray=(its++c).toArray:=by simp
 rw [f]
 exact ⟨.ref _,_,I.lnew (r.append r2) (by rw [length_append];omega),rfl,q _ I.fresh⟩
def yFb:R2:=fun x y H Q=>∃ l k xs,x=.ref l/\y=.int k/\H l=some (.lst xs)/\-(2 ^ 63)<=k/\k<2 ^ 63/\xs.length*k.toNat<=sizeLine /\
 ∀ p,H p=none->Q (.ref p) (upd H p (.lst (replicate k.toNat xs).flatten))
theorem len_rep {α:Type}(xs:List α) k:(replicate k xs).flatten.length=k*xs.length:=by
 simp_all
theorem yvQ:OpR X (binaryOp .Mult) yFb:=by
 intro j s σ H x y v u Q I w p h
 obtain ⟨l,k,xs,rfl,rfl,o,h1,h2,hz,q⟩:=h
 cases w
 obtain ⟨t,rfl⟩:=p
 obtain ⟨z,its,n,r,hl,e⟩:=I.lstM o
 have f:its.toArray.size*k.toNat<=sizeLine:=by simp_all
 have d:¬ its.toArray.size*k.toNat>(2 ^ 63-1)/8:=by
  have:sizeLine<=(2 ^ 63-1)/8:=by decide
  omega
 have g:¬ (!Builtin.List.listFitsIndex k)=true:=by
  rw [fitsIndex_both h1 h2]
  exact Bool.false_ne_true
 have c:¬ Builtin.List.listTooLong (its.toArray.size*k.toNat)=true:=by
  rw [ynL f]
  exact Bool.false_ne_true
 have i:List.foldl (fun x1 x2=>x1++x2) #[] (replicate (if its.toArray.isEmpty=true then 0 else k.toNat) its.toArray)=(replicate k.toNat its).flatten.toArray:=by
  have f0:=fun m=>by
   have:=foldl_rep its m []
   rw [List.nil_append] at this
   exact this
  cases its with
  | nil=>simp
  | cons a r'=>grind
 refine wpAny_binaryOp_repeat_ref (rfl) ⟨_,e,rfl⟩ (fun s'=>typeIs_int s' k t) noFill_list_mul F.fills_int_mul F.slot_int_rmul repeat_list F.slot_int_index.lookup
  (call_meets F.slot_int_rmul (typeIs_int s k t) F.entry_int_rmul (F.args_int_rmul_2 _ _) (int___rmul___int_list k t l its.toArray n)
   ⟨e,rfl,⟨_,e,rfl⟩,call_meets F.slot_list_mul ⟨_,e,rfl⟩ F.entry_list_mul (F.args_list_mul_2 _ _) (AutoListH.list___mul___list_int_3 l its.toArray n k t g d c) ⟨e,?_⟩⟩)
 rw [i]
 exact ⟨.ref _,_,I.lnew (r.rep k.toNat) (by rw [len_rep,Nat.mul_comm];exact hz),rfl,q _ I.fresh⟩
end
end L2
namespace Att
open PySem PySem.W PySem.Calls PyProof.Rows
theorem yhB {P:Params}{h:Heap}:∀ ns vs,WellAll P h vs (ns.map WData.int)->IntsAre vs ns:=by
 intro ns
 induction ns with
 | nil =>
  intro vs w
  cases w
  exact .nil
 | cons n ns ih =>
  intro vs w
  cases w with
  | cons a b =>
   cases a
   exact .cons _ _ (ih _ b)
theorem yqc {l:OpenLaw}{n:Nat}(m:l.most=some n) {P:Params}{h:Heap}{args:List WData}{c:List Value}
  (e:l.row.toRowW.claim.pre args=true) (j:WellAll P h c args) :
  ∃ a vs ns,c=[Value.ref a]/\args=[WData.list (ns.map WData.int)]/\h.get? a=some { cls:=.type "list",data:=.seq vs.toArray }/\IntsAre vs ns/\ns.length<=n:=by
 have i:=(pre_splitW e).1
 have o:l.pre.holds [] _=true:=(pre_splitW e).2
 obtain ⟨d,r,rfl,h1,h2⟩:=hasAllW_cons i
 obtain rfl:=hasAllW_nil h2
 obtain ⟨xs,rfl,k⟩:=hasW_list h1
 obtain ⟨ns,rfl⟩:=items_int k
 have f:ns.length<=n:=by
  have g:=by
   have g:=(holds_andW o).1
   rw [m] at g
   exact g
  have p:=condW_of g (w_not (w_lt w_lit (w_len_list (w_arg rfl))))
  grind
 cases j with
 | cons w1 w2 =>
  cases w2
  cases w1 with
  | list ho hall=>exact ⟨_,_,ns,rfl,rfl,ho,yhB ns _ hall,f⟩
theorem yqd (l:OpenLaw) args:l.row.toRowW.claim.post args (.bool true) args=true :=
 postW_of
  (by first|rfl|decide|simp [WShape.has,WShape.arms,WShape.armsAll])
  (w_eq_bool (w_res rfl) w_lit) rfl
theorem attach_call {l:OpenLaw}{n:Nat}{q:Program}{e:List Str}{D:(Str->Option Value)->Heap->Prop}{F:World->Heap->Prop}{d:DefRec}
  (L:l.most=some n) (v:d.params.defaults=[])
  (call:∀ w g c t u j o y s h a vs ns,
   Ground q e [] D w g t u c.heap->F w c.heap ->
   c.heap.get? j=some o->o.data=.func (docDef d.name d.params d.body d.scope y s h)->c.heap.CodeRec s d.name->t d.name=some (.ref j) ->
   c.heap.get? a=some { cls:=.type "list",data:=.seq vs.toArray }->IntsAre vs ns->ns.length<=n->c.gens = #[] ->
   codeAny (model l.prog w) callerA (.call (.ref j) ⟨[.ref a],[]⟩) (fun r s'=>r=.ok (.ret (.bool true))/\OldK c.heap s'.heap/\s'.os=c.os/\AllBare s'.gens) c) :
  WalkO q e D F l.row.toRowW d [] fun f vs=>PySem.call f vs:=by
 intro w g c t u G Y j o y s h Q S N O x E z P args C U m B I A R
 obtain rfl:Q=.none:=Dflts.none E v
 obtain rfl:S=.none:=Dflts.noKw E
 obtain ⟨a,vs,ns,rfl,rfl,p,i,k⟩:=yqc L m A
 refine enter_call (codeAny_mono (call w g c t u j o y s h a vs ns G Y N (fd_plain O) x z p i k P) fun r s' J=>?_)
 obtain ⟨rfl,h2,M,H⟩:=J
 exact ⟨.inl ⟨_,_,[],rfl,fun _=>rfl,.bool true,yqd l _,fun _=>⟨List.Pairwise.nil,fun _ T=>nomatch T⟩⟩,h2,M,H⟩
end Att
namespace L2
open PySem PySem.Spec PyProof.Rows
theorem yhC:∀ {vs:List Value}{ns:List Int},IntsAre vs ns->Vals (ns.map V.int) vs
 | _,_,.nil=>.nil
 | _,_,.cons n t h=>.cons ⟨t,rfl⟩ (yhC h)
noncomputable def yDj (H:Hp):Prop:=∀ b,H b=none\/∃ o xs,H b=some (.frz o (.lst xs))
theorem ytm {P:Program}{w:World}{K:PySem.W.Frag}{C S:Str->Option Value}{CX:CXT}{k:Nat}{R a:Addr}{T:FuncData}{x:Str}{sp:Sp}{f:Shared}{vs:List Value}{ns:List Int}
  (KX:K.In f.heap) (G:f.heap.Ns mainGlobals C) (i:f.heap.Ns builtinsNs S) (Q:∀ x:Str,x≠"__name__"->S x=bootBuiltins x) (E:f.heap.NoLimit) (hg:f.gens = #[])
  (M:f.heap.get? a=some { cls:=.type "list",data:=.seq vs.toArray }) (U:IntsAre vs ns) (hl:ns.length<=sizeLine) (hr:Room k callerA)
  (F:∀ base:Heap,K.In base->base.Ns mainGlobals C->FnOk P w K C base CX k R T [x] sp) (p:∀ (s:Shared) (u:Value),BindsTo s T ⟨[u],[]⟩ [(x,u)])
  (L:∀ H:Hp,yDj H->SqL K H a (ns.map V.int)->sp [.ref a] H (fun v _=>v=.bl true) fun _ _ _=>False)
  (N:∀ H e s',CX [] H f (fun _ _ _=>False) e s'->False) :
  codeAny (model P w) callerA (.call (.ref R) ⟨[.ref a],[]⟩) (fun r s'=>r=.ok (.ret (.bool true))/\OldK f.heap s'.heap/\s'.os=f.os/\AllBare s'.gens) f:=by
 have Y:=yhC U
 have B:=U.length
 have l:∀ H:Hp,yDj H->SqL K H a (ns.map V.int)->HOk P w H f.heap->(∀ b,H b≠none->b=a)->(H a≠none->K.lookup a=none) ->
   codeAny (model P w) callerA (.call (.ref R) ⟨[.ref a],[]⟩) (fun r s'=>r=.ok (.ret (.bool true))/\OldK f.heap s'.heap/\s'.os=f.os/\AllBare s'.gens) f:=by
  intro H Z hS y hA hK
  have g:∀ {b:Addr}{o:Obj},f.heap.get? b=some o->H b=none->(ysS f.heap H).get? b=some o:=fun e n=>ysT e n
  have O:∀ {b:Addr}{o:Obj}{es:Array DictEntry}{ep:Nat},f.heap.get? b=some o->o.data=.dict es ep->H b=none:=fun {b o es ep} e d=>by
   grind
  have j:∀ {b:Addr}{m:Str->Option Value},f.heap.Ns b m->(ysS f.heap H).Ns b m:=fun {b m} ⟨o,es,ep,e,d,r⟩=>⟨o,es,ep,g e (O e d),d,r⟩
  have A:K.In (ysS f.heap H):=fun b o e=>g (KX b o e) (by
   grind)
  have hM:Mod K C (ysS f.heap H):=⟨A,j G,⟨S,j i,Q⟩,let ⟨mc,h1,h2⟩:=E;⟨mc,j h1,h2⟩⟩
  have e0:Env0 P w K C (ysS f.heap H) callerA [] f H:=⟨rfl,hM,fun b o e=>ywL e,le_of_eq (ypD _ _),trivial,fun b i=>absurd (show b∈([]:List Addr) from i) (by simp),y,.of_eq hg⟩
  refine codeAny_mono ((F _ A (j G)).run callerA [] f H ⟨[.ref a],[]⟩ [.ref a] [.ref a] _ _ hr e0 (p f (.ref a)) (.cons rfl .nil) (L H Z hS)) fun r s' h=>?_
  cases r with
  | error e=>exact (N H e s' h).elim
  | ok fl =>
   cases fl with
   | next=>exact False.elim h
   | brk=>exact False.elim h
   | cont=>exact False.elim h
   | ret u =>
    obtain ⟨v,H',os,I,W,D,r',q⟩:=h
    have q':v=.bl true:=q
    subst q'
    obtain rfl:u=Value.bool true:=r'
    refine ⟨rfl,OldK.of_keep fun b o e=>?_,os,I⟩
    cases q:H b with
    | none=>exact W.keep b o e q (by intro z;exact absurd (show b∈([]:List Addr) from z) (by simp)) (by simp)
    | some u =>
     rcases Z b with z|⟨ob,xs,z⟩
     .rw [q] at z;cases z
     .have z2:=W.frzs b ob _ z
      obtain ⟨X,_⟩:=y b _ z
      obtain ⟨e2,_⟩:=D b _ z2
      rw [e] at X;cases X
      exact e2
 cases J:K.lookup a with
 | some o =>
  have e:=KX a o J
  rw [M] at e
  cases e
  refine l (fun _=>none) (fun _=>.inl rfl) (.inr ⟨_,vs.toArray,_,J,rfl,rfl,rfl,by rw [size_toArray,B];exact hl,by simpa using Y⟩) (fun b u z=>by have t:(none:Option HO)=some u:=z;cases t) (fun b z=>absurd rfl z) fun z=>absurd rfl z
 | none =>
  refine l (fun b=>if b=a then some _ else none) (fun b=>?_) (.inl (.inr ⟨{ cls:=.type "list",data:=.seq vs.toArray },if_pos rfl⟩)) (fun b u z=>?_) (fun b z=>?_) fun _=>J
  .grind
  .by_cases i:b=a
   .have t:=(if_pos i).symm.trans z
    cases t
    subst i
    exact ⟨M,by rw [length_map];exact hl,vs,_,Y,M⟩
   .have t:=(if_neg i).symm.trans z
    cases t
  .by_cases i:b=a
   .exact i
   .exact absurd (if_neg i) z
end L2
namespace L2
open PySem PySem.Spec PyProof.Rows
theorem walk_of {l:PySem.W.OpenLaw}{n k:Nat}{q:Program}{g:List Str}{T:(Str->Option Value)->Heap->Prop}{I:World->Heap->Prop}{d:DefRec}{K:Params->PySem.W.Frag}{CX:World->CXT}{sp:World->Sp}{x:Str}
  (Q:l.most=some n) (C:n<=sizeLine) (z:d.params.defaults=[]) (P:Room k callerA)
  (L:∀ w h,I w h->(K w.params).In h)
  (F:∀ w j r h,(K w.params).In h->h.Ns mainGlobals j->j d.name=some (.ref r) ->
   ∃ y:FuncData,(∀ s u,BindsTo s y ⟨[u],[]⟩ [(x,u)]) /\
    ∀ base,(K w.params).In base->base.Ns mainGlobals j->FnOk l.prog w (K w.params) j base (CX w) k r y [x] (sp w))
  (t:∀ w H a (ns:List Int),ns.length<=n->yDj H->SqL (K w.params) H a (ns.map V.int)->sp w [.ref a] H (fun v _=>v=.bl true) fun _ _ _=>False)
  (A:∀ w H s e s',CX w [] H s (fun _ _ _=>False) e s'->False) :
  PySem.W.WalkO q g T I l.row.toRowW d [] fun f vs=>PySem.call f vs:=by
 refine Att.attach_call Q z fun w E m j mb r o Z W R a vs ns G Y ho X O B p i c M=>?_
 have D:=L w _ Y
 obtain ⟨y,S,U⟩:=F w j r _ D G.T.g B
 exact ytm D G.T.g G.T.b G.T.builtins G.T.nolimit M p i (Nat.le_trans c C) P U S (fun H J N=>t w H a ns c J N) fun H e s'=>A w H m e s'
end L2
namespace L2
open PySem PySem.Spec PyProof.Rows
noncomputable def inClass (s:Stmt) (j:Nat):Stmt:=match s with
 | .ClassDef _ _ _ body _ _ _ _ _ _ _=>body.getD j (.Pass ⟨0,0,0,0⟩)
 | _=>.Pass ⟨0,0,0,0⟩
noncomputable def ymD (s:Stmt):Arguments:=match s with
 | .FunctionDef _ a _ _ _ _ _ _ _ _=>a
 | _=>{ posonlyargs:=[],args:=[],vararg:=none,kwonlyargs:=[],kw_defaults:=[],kwarg:=none,defaults:=[] }
noncomputable def yfy (s:Stmt):List Stmt:=match s with
 | .FunctionDef _ _ b _ _ _ _ _ _ _=>b
 | _=>[]
noncomputable def ybA (s:Stmt):Scope:=match s with
 | .FunctionDef _ _ _ _ _ _ sc _ _ _=>sc
 | _=>{ kind:=.function,names:=[],isGenerator:=false,isCoroutine:=false }
abbrev CX0:CXT:=fun _ _ _ _ _ _=>False
abbrev E0:XK:=fun _ _ _=>False
theorem ykW {X:Cx}:yfT CX0 X E0:=fun _ _ _ _ _ _ _ h=>h.elim
structure Fun (K:PySem.W.Frag) (x qual:Str) (st:Stmt) (f:Addr) (fd:FuncData):Prop where
 ex:∃ (oc:Value) (od:Option Addr) (kV doc pm:Value) (an:Option Addr) (cdv ct:Value) (osl:Array (Option Value)),
  fd=fnOf x qual (ymD st) (yfy st) (ybA st) .none kV doc pm an cdv ct/\K.lookup f=some ⟨oc,od,.func fd,osl⟩/\codeIn K cdv qual=true
 kp:keepIn K (.ref f)=true
section
variable {P:Program}{w:World}{K:PySem.W.Frag}{mg:Str->Option Value}{base:Heap}
theorem Fun.ok {x b:Str}{st:Stmt}{f:Addr}{j:FuncData}{N ps:List Str}{k:Nat}{sp:Sp}(F:Fun K x b st f j) (S:yek N ps (ybA st)) (g:∀ vs H Q E,sp vs H Q E->vs.length=ps.length)
  (d:∀ c A outer s H vs Q E,Room k (A.deeper (envOfC b (ybA st) s.heap.objs.size f c))->sp vs H Q E ->
   ∃ t,PSs (ytk CX0 P w K mg base N b (ybA st) f c A outer s H E).nox (yfy st) t/\t { nx:=fun _ p=>Q .non p,rt:=Q } (start N vs) H):FnOk P w K mg base CX0 (k+1) f j ps sp:=by
 obtain ⟨v,od,kV,o,y,u,c,r,n,rfl,l,i⟩:=F.ex
 refine yDd l i S g fun A outer s H vs Q E m e=>?_
 obtain ⟨t,h,q⟩:=d c A outer s H vs Q E m e
 exact ⟨t,h.nox,q⟩
theorem fun_mk {x qual:Str}{st:Stmt}{f:Addr}{oc:Value}{od an:Option Addr}{osl:Array (Option Value)}{kV doc pm cdv ct:Value}(l:K.lookup f=some ⟨oc,od,.func (fnOf x qual (ymD st) (yfy st) (ybA st) .none kV doc pm an cdv ct),osl⟩)
  (c:codeIn K cdv qual=true) (k:keepIn K (.ref f)=true):Fun K x qual st f (fnOf x qual (ymD st) (yfy st) (ybA st) .none kV doc pm an cdv ct):=⟨⟨oc,od,kV,doc,pm,an,cdv,ct,osl,rfl,l,c⟩,k⟩
end
theorem ytn {A:Around}{k:Nat}(b:Room k A):A.units+1<cLine:=Nat.lt_of_le_of_lt (Nat.add_le_add_left (by decide) _) b.units
theorem ykX {n:Nat}(h:n<=1000):n<sizeLine:=Nat.lt_of_le_of_lt h (by decide)
noncomputable def Same (H H':Hp):Prop:=∀ b o,H b=some o->H' b=some o
theorem Same.refl H:Same H H:=fun _ _ h=>h
theorem Same.trans {H f e:Hp}(a:Same H f) (b:Same f e):Same H e:=fun c o h=>b c o (a c o h)
theorem Same.free {H a:Hp}(e:Same H a) {l:Addr}(h:a l=Option.none):H l=Option.none:=by
 cases q:H l with
 | none=>rfl
 | some o =>
  rw [e l o q] at h
  cases h
theorem Same.seq {K:PySem.W.Frag}{H c:Hp}{a:Addr}{xs:List V}(e:Same H c) (h:SqL K H a xs):SqL K c a xs:=by
 rcases h with (h|⟨o,h⟩)|h
 .exact .inl (.inl (e _ _ h))
 .exact .inl (.inr ⟨o,e _ _ h⟩)
 .exact .inr h
end L2
namespace L2
open PySem PySem.Spec PyProof.Rows
noncomputable def cV:V->Option Value
 | .ty n=>some (.type n)
 | .ref a=>some (.ref a)
 | _=>none
def IsI (K:PySem.W.Frag) (H:Hp) (x c:V) (b:Bool):Prop:=∃ t u,ynI K H x t/\cV c=some u/\PySem.W.kitOne K t u=some b
theorem ymE {K:PySem.W.Frag}{H:Hp}{i:Int}:IsI K H (.int i) (.ty "int") true:=⟨_,_,.int i,rfl,by with_unfolding_all rfl⟩
theorem ykY {K:PySem.W.Frag}{H:Hp}{i:Int}:IsI K H (.int i) (.ty "bool") false:=⟨_,_,.int i,rfl,by with_unfolding_all rfl⟩
theorem ymF {K:PySem.W.Frag}{H:Hp}:IsI K H .non (.ty "int") false:=⟨_,_,.non,rfl,by with_unfolding_all rfl⟩
theorem ymG {K:PySem.W.Frag}{H:Hp}{i:Bool}:IsI K H (.bl i) (.ty "bool") true:=⟨_,_,.bl i,rfl,by with_unfolding_all rfl⟩
theorem ymH {K:PySem.W.Frag}{H:Hp}{i:Str}:IsI K H (.str i) (.ty "str") true:=⟨_,_,.str i,rfl,by with_unfolding_all rfl⟩
theorem ykZ {K:PySem.W.Frag}{H:Hp}{a:Addr}{xs:List V}(e:H a=some (.lst xs)):IsI K H (.ref a) (.ty "list") true:=⟨_,_,.lst e,rfl,by with_unfolding_all rfl⟩
theorem str_len {v:Int}(b:0<=v) {k:Nat}(c:0<k) (h:v<10 ^ k):(Str.ofString (toString v)).length<=k:=toString_length_le b c h
end L2
namespace L2
open PySem
abbrev yDk:R2:=rI0 fun i j=>.int (i+j)
abbrev yDl:R2:=rI0 fun i j=>.int (i-j)
abbrev yDm:R2:=rI CMul fun i j=>.int (i*j)
abbrev yDn:R2:=rI yEU fun i j=>.int (i/j)
abbrev yDo:R2:=rI (fun _ j=>0<j) fun i j=>.int (i%j)
abbrev yDp:R2:=rI yDa fun i j=>.int (i ^ j.toNat)
abbrev yFA:R2:=rI0 fun i j=>.bl (decide (i<j))
abbrev yFB:R2:=rI0 fun i j=>.bl (decide (i<=j))
abbrev yFC:R2:=rI0 fun i j=>.bl (decide (j<i))
abbrev yFD:R2:=rI0 fun i j=>.bl (decide (j<=i))
abbrev yDq:V->Hp->VK->Prop:=rU fun i=>.int (-i)
noncomputable def yDr:R2:=fun x y H Q=>∃ i j,x=.str i/\y=.str j/\i.length+j.length<=sizeLine/\Q (.str (i++j)) H
noncomputable def yFE:R2:=fun x y H Q=>y=.non/\Q (.bl (decide (x=.non))) H
noncomputable def yDs:R2:=fun x y H Q=>y=.non/\Q (.bl (!decide (x=.non))) H
noncomputable def yDt:List V->Hp->VK->Prop:=fun xs H Q=>(∃ i,xs=[.int i]/\Q (.int i) H)\/∃ k,xs=[.bl k]/\Q (.int (if k then 1 else 0)) H
noncomputable def yDu:List V->Hp->VK->Prop:=fun xs H Q=>∃ z,xs=[.str z]/\z.length<=sizeLine/\Q (.int z.length) H
def yAj (K:PySem.W.Frag):List V->Hp->VK->Prop:=fun xs H Q=>∃ p ys,xs=[.ref p]/\(SqL K H p ys\/SqT K H p ys)/\Q (.int ys.length) H
noncomputable def yDv:List V->Hp->VK->Prop:=fun xs H Q=>∃ i,xs=[.int i]/\i.natAbs.log2<1920/\Q (.str (toString i)) H
def yFc (K:PySem.W.Frag):List V->Hp->VK->Prop:=fun xs H Q=>∃ x c b,xs=[x,c]/\IsI K H x c b/\Q (.bl b) H
theorem ydH {H:Hp}{p:Addr}(h:H p=none) o:Same H (upd H p o):=fun b u q=>by rw [yI (ybr q h)];exact q
section
variable {K:PySem.W.Frag}{σ:St}{H:Hp}{Q:VK}{ta tb tc:TE}{tA tB':TT}{t u:TS}{D:Ends}
theorem w_not {Q:Bool->Hp->Prop}:yCT tA σ H Q=tA σ H fun c H1=>Q (!c) H1:=rfl
end
end L2
namespace L2
open PySem
noncomputable def yxe (cs:List Nat):Int:=cs.foldl (fun (a:Int) (c:Nat)=>a*10+((c:Int)-48)) 0
def yAk:List V->Hp->VK->Prop:=fun xs H Q=>∃ x:Str,xs=[.str x]/\x.cps.toList≠[]/\(∀ c∈x.cps.toList,48<=c/\c<=57)/\x.length<=640/\Q (.int (yxe x.cps.toList)) H
noncomputable def yFd:R2:=fun x y H Q=>∃ (c:Nat) (j:Str),x=.str ⟨#[c]⟩/\y=.str j/\Q (.bl (decide (c∈j.cps.toList))) H
noncomputable def yqe:V->List V->Hp->VK->Prop:=fun x vs H Q=>∃ (z:Str) (c:Nat),x=.str z/\vs=[.str ⟨#[c]⟩]/\z.length<=1000/\c∈z.cps.toList/\Q (.int (z.cps.toList.idxOf c)) H
noncomputable def rJoin:V->List V->Hp->VK->Prop:=fun x vs H Q=>∃ (sep:Str) (p:Addr) (ts:List Str),x=.str sep/\vs=[.ref p]/\H p=some (.lst (ts.map V.str))/\sep.length<=16/\(ts.map (·.length)).sum+ts.length<=1048576/\Q (.str (Str.join sep ts)) H
noncomputable def yFe:List V->Hp->VK->Prop:=fun xs H Q=>∃ (p:Addr) (bs:List Bool),xs=[.ref p]/\H p=some (.lst (bs.map V.bl))/\Q (.bl (bs.all id)) H
noncomputable def yFf:List V->Hp->VK->Prop:=fun xs H Q=>∃ (p:Addr) (ns:List Int),xs=[.ref p]/\H p=some (.lst (ns.map V.int))/\Q (.int ns.sum) H
def yxf (K:PySem.W.Frag):List V->Hp->VK->Prop:=fun xs H Q=>∃ p ys,xs=[.ref p]/\(SqL K H p ys\/SqT K H p ys)/\∀ l,H l=none->Q (.ref l) (upd H l (.lst ys))
noncomputable def Its (z:Str):It:=⟨fun i _=>i<z.length,fun i H x H'=>H'=H/\∃ c,z.cps.toList[i]?=some c/\x=.str ⟨#[c]⟩,fun i _=>i=z.length⟩
def yFg (ta:TE):TI:=fun σ H R=>ta σ H fun x H1=>∃ z,x=.str z/\z.length<=sizeLine/\R (Its z) H1
def yDw (J:It) (te:TE) (inn:V->St) (D:Addr) (Q:VK) (H:Hp):Prop:=∃ W:Nat->Nat->Hp->Prop,(∃ m,W 0 m H)/\∀ i m H,W i m H ->
 (J.stop i H/\Q (.ref D) H)\/(J.go i H/\∀ x H',J.yld i H x H'->te (inn x) H' fun y H2=>∃ acc,H2 D=some (.lst acc)/\acc.length<sizeLine/\∃ m',m'<m/\W (i+1) m' (upd H2 D (.lst (acc++[y]))))
noncomputable def inner (ix:List Nat) (σ:St) (x:V):St:=some x::ix.map fun i=>(σ[i]?).getD none
def yoN (wi:TI) (ix:List Nat) (te:TE):TE:=fun σ H Q=>wi σ H fun J H1=>∀ D,H1 D=none->yDw J te (inner ix σ) D Q (upd H1 D (.lst []))
end L2
namespace L2
open PySem
def yvR (C:Addr):TE:=fun _ H Q=>∀ x dx,H x=none->H dx=none->dx≠x->Q (.ref x) (upd (upd H dx (.own x)) x (.ins C dx []))
def yvS {κ:Type}(A:κ->Addr) (m:Str) (sp:κ->Sp) (ta:TE):TE:=fun σ H Q=>ta σ H fun x H1=>∃ a k dx fs,x=.ref a/\H1 a=some (.ins (A k) dx fs)/\fs.lookup m=none/\sp k [x] H1 Q E0
theorem yAl {k b:Str}{v:V}{r:List _}(h:¬ k=b):List.lookup k ((b,v)::r)=List.lookup k r:=by
 have:(k == b)=false:=by simpa using h
 simp [List.lookup,this]
end L2
namespace L2
open PySem PySem.Builtin PySem.Builtin.Str
theorem at_one {z:Str}{c i:Nat}:StrLaws.At z ⟨#[c]⟩ z.length i ↔ z.cps.toList[i]?=some c:=by
 unfold StrLaws.At subAt
 have j:(⟨#[c]⟩:Str).length=1:=rfl
 rw [j]
 have f:(z.cps.extract i (i+1) == (⟨#[c]⟩:Str).cps)=true ↔ z.cps.extract i (i+1) = #[c]:=by simp
 rw [f]
 constructor
 .rintro ⟨h1,h2⟩
  have d:(z.cps.extract i (i+1)).toList=[c]:=by rw [h2]
  rw [Array.toList_extract,List.extract_eq_take_drop] at d
  have g:((z.cps.toList.drop i).take (i+1-i))[0]?=some c:=by rw [d];rfl
  simpa using g
 .intro h
  obtain ⟨b,k⟩:=List.getElem?_eq_some_iff.mp h
  have hl:i<z.length:=by simpa [Str.length] using b
  refine ⟨by omega,?_⟩
  apply Array.ext'
  rw [Array.toList_extract,List.extract_eq_take_drop]
  have e:i+1-i=1:=by omega
  rw [e,List.drop_eq_getElem_cons b,k]
  rfl
theorem yqf z c:occurrences z ⟨#[c]⟩ 0 z.length 1=[]/\c∉z.cps.toList\/∃ r,occurrences z ⟨#[c]⟩ 0 z.length 1=z.cps.toList.idxOf c::r/\c∈z.cps.toList:=by
 rcases StrLaws.occ_head z _ 1 (Nat.le_refl _) with ⟨h1,h2⟩|⟨i,r,h1,h2,l⟩
 .refine .inl ⟨h1,fun d=>?_⟩
  obtain ⟨i,b,e⟩:=getElem_of_mem d
  exact h2 i (at_one.mpr (List.getElem?_eq_some_iff.mpr ⟨b,e⟩))
 .have b:=at_one.mp h2
  obtain ⟨j,d⟩:=List.getElem?_eq_some_iff.mp b
  have g:=mem_of_getElem? b
  refine .inr ⟨r,?_,g⟩
  have f:=List.idxOf_lt_length_of_mem g
  have k:z.cps.toList[z.cps.toList.idxOf c]?=some c:=by
   rw [List.getElem?_eq_getElem f,List.getElem_idxOf f]
  have e:i=z.cps.toList.idxOf c:=by
   rcases Nat.lt_trichotomy i (z.cps.toList.idxOf c) with h|h|h
   .exact absurd d (by
     have:=List.not_of_lt_findIdx (p:=(· == c)) (xs:=z.cps.toList) (by simpa [List.idxOf] using h)
     simpa using this)
   .exact h
   .exact absurd (at_one.mpr k) (l _ h)
  rw [h1,e]
end L2
namespace L2
open PySem PySem.Spec PyProof.Rows
theorem ydR {env:Env} y:∀ b:List _,
  (b.map fun (n,k)=>if k == NameKind.free && env.scope.kind == .function && env.kindOf n == some .cell then (n,NameKind.cell) else (n,k)).lookup y
   = (b.lookup y).map fun k=>if k == NameKind.free && env.scope.kind == .function && env.kindOf y == some .cell then NameKind.cell else k
 | []=>rfl
 | (n,k)::r=>by
  have f:=ydR (env:=env) y r
  show List.lookup y ((if (k == NameKind.free && env.scope.kind == .function && env.kindOf n == some _)=true then (n,NameKind.cell) else (n,k))::_)=_
  cases d:y == n with
  | true =>
   have e:=eq_of_beq d
   subst e
   by_cases c:(k == NameKind.free && env.scope.kind == .function && env.kindOf y == some .cell)=true
   .simp_all
   .rw [if_neg c]
    simp_all
  | false =>
   by_cases c:(k == NameKind.free && env.scope.kind == .function && env.kindOf n == some .cell)=true
   .rw [if_pos c];simp only [lookup_cons,d];exact f
   .rw [if_neg c];simp only [lookup_cons,d];exact f
theorem yeF {env:Env}:∀ (b:List _) cs,(∀ n,(n,NameKind.free)∈b->∃ c,env.cells.lookup n=some c) ->
  ∃ f,forIn b cs (fun (x:Str×NameKind) (r:List (Str×Addr))=>if (x.2 == NameKind.free)=true then do let c <- cellOf env x.1;pure (ForInStep.yield ((x.1,c)::r)) else pure (ForInStep.yield r))=pure f /\
   (∀ y,(y,NameKind.free)∈b->f.lookup y=env.cells.lookup y)/\∀ y,(y,NameKind.free)∉b->f.lookup y=cs.lookup y
 | [],cs,_=>⟨cs,rfl,fun y h=>by simp at h,fun y _=>rfl⟩
 | (n,k)::r,cs,h=>by
  by_cases l:k=.free
  .subst l
   obtain ⟨c,j⟩:=h n mem_cons_self
   obtain ⟨f,e,h1,h2⟩:=yeF r ((n,c)::cs) fun y d=>h y (mem_cons_of_mem _ d)
   refine ⟨f,?_,fun y d=>?_,fun y d=>?_⟩
   .have m:cellOf env n=pure c:=by unfold cellOf;rw [j]
    simp_all
   .by_cases g:(y,NameKind.free)∈r
    .exact h1 y g
    simp_all
   .have g:=fun z=>d (mem_cons_of_mem _ z)
    rw [h2 y g]
    have i:(y == n)=false:=by
     simp_all
    simp [List.lookup,i]
  .obtain ⟨f,e,h1,h2⟩:=yeF r cs fun y d=>h y (mem_cons_of_mem _ d)
   refine ⟨f,?_,fun y d=>?_,fun y d=>?_⟩
   .simp_all
   .rcases mem_cons.mp d with z|z
    .simp_all
    .exact h1 y z
   simp_all
noncomputable def cxC (X:Cx) (scope:Scope) (cl:List (Str×Addr)) (C:Addr) (N:List Str) (s₃:Shared) (H₃:Hp) (fp:List Addr) (pins:List (Addr×Obj)):Cx :=
 { prog:=X.prog,w:=X.w,K:=X.K,mg:=X.mg,base:=X.base,A:=X.A,N:=N,s₀:=s₃,H₀:=H₃,env:=compEnvC scope cl C X.env,outer:=X.stack,stack:=X.stack,ex:=fp,fn:=fun _=>false,calm:=X.calm,pn:=X.pn++pins,xe:=fun _ _=>False }
noncomputable def FrOk (X:Cx) (scope:Scope):List Nat->List Str->Prop
 | [],[]=>True
 | i::is,y::ys=>X.N[i]?=some y/\scope.names.lookup y=some .free/\X.env.kindOf y=some .cell/\FrOk X scope is ys
 | _,_=>False
theorem FrOk.len {X:Cx}{scope:Scope}:∀ {a:List Nat}{ys:List Str},FrOk X scope a ys->a.length=ys.length
 | [],[],_=>rfl
 | _::a,_::ys,h=>by rw [length_cons,length_cons,FrOk.len h.2.2.2]
theorem FrOk.get {X:Cx}{scope:Scope}:∀ {b:List Nat}{ys:List Str}{j:Nat}{y:Str},FrOk X scope b ys->ys[j]?=some y->∃ i,b[j]?=some i/\X.N[i]?=some y/\scope.names.lookup y=some .free/\X.env.kindOf y=some .cell
 | [],[],_,_,_,e=>by simp at e
 | [],_::_,_,_,h,_=>h.elim
 | _::_,[],_,_,h,_=>h.elim
 | i::b,z::ys,0,y,h,e=>by
  simp at e
  subst e
  exact ⟨i,rfl,h.1,h.2.1,h.2.2.1⟩
 | i::b,z::ys,j+1,y,h,e=>by
  obtain ⟨k,h1,h2⟩:=FrOk.get h.2.2.2 (by simpa using e)
  simp_all
end L2
namespace L2
open PySem PySem.Spec PyProof.Rows
theorem yto {P:Program}{w:World}{K:PySem.W.Frag}{N:Expr}{r:String}(j:r = "str_ascii_iterator"\/r = "str_iterator") (z:Str) (t:Tok) (g:Addr):Turn P w K N (Its z) [g] g (fun i h=>h.IsStrIter g r z t i) where
 mem:=by simp
 obj:=fun i h st b l=>by
  have e:b=g:=by simpa using l
  subst e
  obtain ⟨o,e,c,d⟩:=st
  simp_all
 keep:=fun i h h' st k=>by
  obtain ⟨o,e,c,d⟩:=st
  exact ⟨o,k g (by simp) o e,c,d⟩
 item:=by
  intro X L G M F i m s σ H E I B st n
  subst L G M
  obtain ⟨f0,A,Q,C,y,v⟩:=B g (by simp)
  have n:i<z.length:=n
  obtain ⟨ch,hz⟩:∃ ch,z.cps[i]?=some ch:=⟨_,Array.getElem?_eq_getElem (show i<z.cps.size from n)⟩
  have p:∀ h',h'.IsStrIter g r z t (i+1)->Heap.SameBut g s.heap h'->∃ u,some (Value.str ⟨#[ch]⟩ s.toks)=some u /\
    wpAny (model X.prog X.w) X.A (letOwnedTupleGo N (.ref g) u) (fun _ s2=>∃ x D,Inv X m σ D s2/\RelV x u/\(Its z).yld i H x D/\s2.heap.IsStrIter g r z t (i+1)/\∀ b∈[g],D b=none) E { s with heap:=h',toks:=s.toks+1 }:=fun h' f q=>by
   have O:=I.turned (t':=s.toks+1) (fun b o l e=>(q.2 b l).trans e) f0 A C y v
   obtain ⟨o,e,c,d⟩:=id f
   refine ⟨_,rfl,ypI e c d (by rcases j with rfl|rfl<;>decide) ⟨.str ⟨#[ch]⟩,H,O,⟨_,rfl⟩,⟨rfl,_,by simpa using hz,rfl⟩,f,fun b l=>(B b l).1⟩⟩
  rcases j with rfl|rfl
  .exact wpAny_pyNext_ascii_item st hz fun h' f q=>p h' f q
  .exact wpAny_pyNext_wide_item st hz fun h' f q=>p h' f q
 done:=by
  intro X L G M F i m s σ H E I B st n
  subst L G M
  obtain ⟨f0,A,Q,C,y,v⟩:=B g (by simp)
  have n:i=z.length:=n
  have hz:z.cps[i]?=none:=by simp [n,Str.length]
  rcases j with rfl|rfl
  .exact wpAny_pyNext_ascii_end (I.ok.hd F) st hz fun h' J=>⟨rfl,I.turned (t':=s.toks) (fun b o l e=>J b o l e) f0 A C y v⟩
  .exact wpAny_pyNext_wide_end (I.ok.hd F) st hz fun h' J=>⟨rfl,I.turned (t':=s.toks) (fun b o l e=>J b o l e) f0 A C y v⟩
 self:=fun _ _ _ _ _ st h=>by
  rcases j with rfl|rfl
  .exact wpAny_pyIter_striter_ascii st h
  .exact wpAny_pyIter_striter_wide st h
section
variable {X:Cx}{tg:Expr}
theorem yAm {l:Expr}{tl:TE}(hl:PE X l tl):PI X tg l (yFg tl):=by
 intro c s σ H R I h
 refine thn (hl c s σ H _ I h) fun v s1 ⟨x,m,i,k,p⟩=>?_
 obtain ⟨z,e,hz,q⟩:=p
 subst e
 obtain ⟨t,rfl⟩:=k
 have d:∀ f,(f = "str_ascii_iterator"\/f = "str_iterator")->PIE X c σ tg R _ { s1 with heap:=s1.heap.push { cls:=.type f,data:=.fields _ } }:=fun f g=>by
  refine ⟨s1.heap.objs.size,_,_,_,m,rfl,i.kept fun b o e=>Heap.get?_push_of_some _ e,yto g z t _,⟨_,Heap.get?_push_size _ rfl,rfl,rfl⟩,fun b n=>?_,q⟩
  have e:=by simpa using n
  subst e
  exact i.fpOk (Nat.le_refl _) (i.hok.fresh (Nat.le_refl _))
 cases j:z.cps.all _
 .exact wpAny_pyIter_wide j (d _ (.inr rfl))
 .exact wpAny_pyIter_ascii j (d _ (.inl rfl))
theorem yjA:∀ {bs:List Bool}{us:List Value},Vals (bs.map V.bl) us->us=bs.map Value.bool
 | [],_,.nil=>rfl
 | b::bs,_,.cons r t=>by rw [r,yjA t];rfl
theorem ynN (hc:X.calm=true):yfg X (.builtin "all") yFe:=by
 intro pins s σ H xs us Q I r h
 obtain ⟨p,bs,rfl,hp,q⟩:=h
 obtain ⟨u,rfl,rx⟩:=vals1 r
 cases rx
 obtain ⟨its,n,rv,e,hz⟩:=I.lst hp
 have eb:=yjA rv
 subst eb
 have hl:s.heap.IsList p (bs.map Value.bool).toArray:=⟨_,e,rfl,n,rfl⟩
 have hlt:p<s.heap.objs.size:=Heap.lt_size e
 refine call_all_walk (wpAny_pyIter_list hl ?_)
 refine ⟨s.heap.objs.size,[s.heap.objs.size,p],[s.heap.objs.size],(bs.map Value.bool).toArray.size,_,_,fun i=>(bs[i]?).getD true,rfl,Walks.list (A:=X.A.in1) (I.ok.hd hc) _ p (ne_of_lt hlt) _,
  ⟨⟨_,Heap.get?_push_size _ rfl,rfl,rfl⟩,hl.push _⟩,fun i v s' Q' E' hP hQ=>?_,fun h' tk hk=>?_⟩
 .have hP:(bs.map Value.bool)[i]?=some v:=by simpa using hP
  rw [getElem?_map] at hP
  cases eb:bs[i]? with
  | none=>rw [eb] at hP;cases hP
  | some b =>
   rw [eb] at hP
   cases hP
   simp only [eb,Option.getD_some] at hQ
   exact wpAny_truthy_bool hQ
 .have ea:((List.range (bs.map Value.bool).toArray.size).all fun i=>(bs[i]?).getD true)=bs.all id:=by
   rw [size_toArray,length_map]
   exact LSm.range_all bs
  rw [ea]
  exact ⟨.bl _,H,I.kept (t':=tk) fun b o eo=>hk b o (fun hm=>by rw [List.mem_singleton.mp hm] at eo;exact absurd (Heap.lt_size eo) (lt_irrefl _)) (Heap.get?_push_of_some _ eo),rfl,q⟩
theorem ytp (i:X.calm=true):yfg X (.builtin "sum") yFf:=by
 intro c s σ H xs us Q I r h
 obtain ⟨p,ns,rfl,hp,q⟩:=h
 obtain ⟨u,rfl,k⟩:=vals1 r
 cases k
 obtain ⟨its,n,l,e,hz⟩:=I.lst hp
 have d:=intsAre_of l
 have hl:s.heap.IsList p its.toArray:=⟨_,e,rfl,n,rfl⟩
 obtain ⟨xs,f⟩:=d.allInts.items
 have b:=f ▸ hl
 refine sum_intListG (I.ok.hd i) b fun h' o t' g=>?_
 have j:ns=xs.toList.map (·.1):=by
  rw [<- nums_intItems,<- f]
  exact (d.numsOf).symm
 have m:preSum (numAt xs) xs.size=ns.sum:=by
  rw [preSum_eq,List.take_of_length_le (by simp),j]
 rw [m]
 exact ⟨.int ns.sum,H,I.kept g,⟨_,rfl⟩,q⟩
theorem yqg:∀ {ts:List Str}{us:List Value},Vals (ts.map V.str) us->StrsAre us ts
 | [],_,.nil=>.nil
 | y::ts,_,.cons r t=>by
  obtain ⟨k,e⟩:=(r)
  rw [e]
  exact .cons y k (yqg t)
theorem yxg:MtR X "str.join" rJoin:=by
 intro b s σ H x xs v us Q I d f h
 obtain ⟨sep,p,ts,rfl,rfl,hp,h1,h2,q⟩:=h
 obtain ⟨t,rfl⟩:=d
 obtain ⟨u,rfl,c⟩:=vals1 f
 cases c
 obtain ⟨its,n,r,e,hz⟩:=I.lst hp
 have hl:s.heap.IsList p its.toArray:=⟨_,e,rfl,n,rfl⟩
 refine join_listW hl (yqg r) h1 h2 fun t' k=>⟨.str _,H,I.tok k,⟨t',?_⟩,q⟩
 rw [show Txt.join sep ts=Str.join sep ts from StrLaws.glued_eq_join sep ts]
theorem yla:OpR X (compareOp .In) yFd:=by
 intro b s σ H x y v u Q I f d h
 obtain ⟨c,j,rfl,rfl,q⟩:=h
 refine ypQ b s σ H _ _ v u Q I f d ⟨_,_,rfl,rfl,?_⟩
 have e:(!(Builtin.Str.occurrences j ⟨#[c]⟩ 0 j.length 1).isEmpty)=decide (c∈j.cps.toList):=by
  rcases yqf j c with ⟨h1,h2⟩|⟨r,h1,h2⟩
  .rw [h1];simp [h2]
  .rw [h1];simp [h2]
 rw [e]
 exact q
theorem ytq {C:Addr}{x:Str}{p pos:Pos}(y:makesIn X.K C=true) (z:findIn X.K (.ref C) "__init__" = some (some (.builtin "object.__init__"))) (n:keepIn X.K (.ref C)=true)
  (u:Gl X x) (j:X.mg x=some (.ref C)) (k:(x == ("__debug__":Str))=false:=by decide):PE X (.Call (.Name x p) [] [] pos) (yvR C):=by
 intro l s σ H Q I h
 refine wpAny_Call_Name_kw (yhu I u j ?_ k)
 refine PySem.W.callWith_K0 I.kIn n (wpAny_call ?_)
 have m:=Inv.made (C:=C) I
 have q:=h (s.heap.objs.size+1) s.heap.objs.size (I.hok.fresh (Nat.le_succ _)) (I.hok.fresh (Nat.le_refl _)) (ne_of_lt (Nat.lt_succ_self _))
 have i:=I.kIn
 obtain ⟨c,g,d,t,os⟩:=s
 have Y:=PySem.W.makes_of (M:=model X.prog X.w) i y
 refine PySem.W.make_core Y (PySem.W.looks_findIn i z) (fun f=>PySem.W.Looks.of_pure (PySem.W.oi_bind f)) (.inr ⟨rfl,rfl⟩) ?_
 have v:=by
  have:=Heap.get?_push_size (h:=c.push emptyDict) (o:=instObj C c.objs.size) rfl
  rwa [Heap.size_push] at this
 have w:PySem.W.Looks (model X.prog X.w) _ (typeOf (.ref (c.objs.size+1))) (.ref C):=(PySem.W.Looks.ld v).andThen .now
 have r:PySem.W.Looks (model X.prog X.w) _ (isInstance (.ref (c.objs.size+1)) (.type "object")) true:=w.andThen (Y.top.keeps fun b o e=>Heap.get?_push_of_some _ (Heap.get?_push_of_some _ e))
 refine codeAny_call_builtin PySem.W.oi_plain PySem.W.entry_oi (@PySem.W.check_slot (model X.prog X.w) _ _ _ "object.__init__" "object" "__init__" (.ref (c.objs.size+1)) [] [] _ PySem.W.oi_kind PySem.W.oi_split r (PySem.W.oi_args (.ref (c.objs.size+1))) ?_)
 show wpAny _ _ (Builtin.«object.__init__» ⟨[.ref (c.objs.size+1)],[]⟩) _ _ _
 rw [PySem.W.oi_run]
 exact wpAny_pure (And.intro rfl ⟨.ref _,_,m,rfl,q⟩)
def ymI {κ:Type}(P:Program) (w:World) (K:PySem.W.Frag) (mg:Str->Option Value) (base:Heap) (k:Nat) (A:κ->Addr) (m:Str) (sp:κ->Sp):Prop :=
 ∀ c:κ,Cls K (A c)/\((∀ vs H Q E,¬ sp c vs H Q E)\/∃ f fd ps,Meth K (A c) m f/\FnOk P w K mg base CX0 k f fd ps (sp c)/\Binds K fd ps [])
theorem yqh {κ:Type}{A:κ->Addr}{m:Str}{sp:κ->Sp}{k:Nat}{o:Expr}{i:TE}{d pos:Pos}{pl:Sem Bool}(z:PE X o i) (G:ymI X.prog X.w X.K X.mg X.base k A m sp) (r:Room k X.A)
  (v:eval (.Call (.Attribute o m d) [] [] pos) X.env=(do
   let n <- eval o X.env
   standAt d.atName
   let (f,first) <- holding [n] (getMethod n m pl)
   callWith pos f first (backTo pos (starEach [] X.env)) (backToKw pos (keywordEach [] X.env))):=by rfl):PE X (.Call (.Attribute o m d) [] [] pos) (yvS A m sp i):=by
 intro e s σ H Q I h
 refine PySem.W.methodCall_KW (thn (z e s σ H _ I h) fun u s1 ⟨x,E,g,t,a,c,J,fs,w,C,l,q⟩=>?_) v
 subst w
 obtain rfl:u=Value.ref a:=t
 obtain ⟨p,B|⟨f,D,ps,j,F,y⟩⟩:=G c
 .exact (B _ _ _ _ q).elim
 refine ygv g C p j l ?_
 exact PySem.W.callWith_K0 g.kIn j.kp (ykO (us:=[.ref a]) (vs:=[.ref a]) F r y .nil ykW g (.cons rfl .nil) q)
end
end L2
namespace L2
open PySem PySem.Spec PyProof.Rows
noncomputable def ExO (D a:Addr):HO:=.ext fun h=>∃ ox,PySem.W.InstAt h a ox D none
noncomputable def xAd (K:PySem.W.Frag) (n:Str):Addr:=match nsIn K mainGlobals n with|some (some (.ref D))=>D|_=>0
section
variable {X:Cx}
theorem yT:yfg X (.builtin "isinstance") (yFc X.K):=by
 intro d s σ H xs us Q I r h
 obtain ⟨x,c,b,rfl,⟨t,i,g,f,l⟩,q⟩:=h
 obtain ⟨u,n,rfl,k,j⟩:=vals2 r
 have e:n=i:=by
  cases c<;>first|(cases f;exact j)|cases f
 subst e
 exact ypU I k g l fun m=>⟨.bl b,H,I.tok m,rfl,q⟩
theorem yiR:∀ (cs:List Nat) a,(∀ c∈cs,48<=c/\c<=57)->(cs.foldl (fun e c=>e*10+(c-48)) a:Nat)=cs.foldl (fun (a:Int) (c:Nat)=>a*10+(c-48)) a
 | [],_,_=>rfl
 | c::cs,a,h=>by
  have g:=h c mem_cons_self
  rw [List.foldl_cons,List.foldl_cons,yiR cs _ fun d f=>h d (mem_cons_of_mem _ f)]
  congr 1
  omega
theorem ylb:yfg X (.type "int") yAk:=by
 intro c s σ H xs us Q I r h
 obtain ⟨z,rfl,b,d,hl,q⟩:=h
 obtain ⟨u,rfl,t,rfl⟩:=vals1 r
 have e:=PySem.intText_digits d b (by omega)
 have f:(PySem.NumText.digitsVal z.cps.toList:Nat)=yxe z.cps.toList:=yiR z.cps.toList 0 d
 rw [f] at e
 exact PySem.W.KIN.call_text e hl ⟨.int _,H,I.tok _,⟨_,rfl⟩,q⟩
end
end L2
namespace L2
open PySem PySem.Spec PyProof.Rows
section
variable {X:Cx}
theorem yxh {x:Str}{n:Int}{t:Tok}{pos:Pos}(b:Gl X x) (d:X.mg x=some (.int n t)) (c:(x == "__debug__")=false:=by decide):PE X (.Name x pos) (tC (.int n)):=ymx b d ⟨t,rfl⟩ c
theorem yxi {x:Str}{n:Str}{t:Tok}{pos:Pos}(b:Gl X x) (d:X.mg x=some (.str n t)) (c:(x == "__debug__")=false:=by decide):PE X (.Name x pos) (tC (.str n)):=ymx b d ⟨t,rfl⟩ c
theorem ymJ {x:Str}{a:Addr}{pos:Pos}(c:Gl X x) (e:X.mg x=some (.ref a)) (d:(x == "__debug__")=false:=by decide):PE X (.Name x pos) (tC (.ref a)):=ymx c e rfl d
theorem yAn {x:Str}{n:String}{pos:Pos}(b:Gl X x) (f:X.mg x=none) (c:bootBuiltins x=some (.type n)) (e:x≠"__name__":=by decide) (d:(x == "__debug__")=false:=by decide):PE X (.Name x pos) (tC (.ty n)):=ywN b f c rfl e d
end
end L2
namespace L2
open PySem PySem.Spec PyProof.Rows
theorem ymK {K:PySem.W.Frag}{H:Hp}{i:Int}:IsI K H (.int i) (.ty "str") false:=⟨_,_,.int i,rfl,by with_unfolding_all rfl⟩
theorem ylc {K:PySem.W.Frag}{H:Hp}{i:Int}:IsI K H (.int i) (.ty "list") false:=⟨_,_,.int i,rfl,by with_unfolding_all rfl⟩
theorem yjB {K:PySem.W.Frag}{H:Hp}{i:Int}:IsI K H (.int i) (.ty "tuple") false:=⟨_,_,.int i,rfl,by with_unfolding_all rfl⟩
theorem yle {K:PySem.W.Frag}{H:Hp}{i:Int}:IsI K H (.int i) (.ty "dict") false:=⟨_,_,.int i,rfl,by with_unfolding_all rfl⟩
theorem yoO {K:PySem.W.Frag}{H:Hp}{i:Bool}:IsI K H (.bl i) (.ty "int") true:=⟨_,_,.bl i,rfl,by with_unfolding_all rfl⟩
theorem yoP {K:PySem.W.Frag}{H:Hp}{i:Bool}:IsI K H (.bl i) (.ty "str") false:=⟨_,_,.bl i,rfl,by with_unfolding_all rfl⟩
theorem ymL {K:PySem.W.Frag}{H:Hp}{i:Bool}:IsI K H (.bl i) (.ty "list") false:=⟨_,_,.bl i,rfl,by with_unfolding_all rfl⟩
theorem ylf {K:PySem.W.Frag}{H:Hp}{i:Bool}:IsI K H (.bl i) (.ty "tuple") false:=⟨_,_,.bl i,rfl,by with_unfolding_all rfl⟩
theorem ymM {K:PySem.W.Frag}{H:Hp}{i:Bool}:IsI K H (.bl i) (.ty "dict") false:=⟨_,_,.bl i,rfl,by with_unfolding_all rfl⟩
theorem ymN {K:PySem.W.Frag}{H:Hp}{i:Str}:IsI K H (.str i) (.ty "int") false:=⟨_,_,.str i,rfl,by with_unfolding_all rfl⟩
theorem ylg {K:PySem.W.Frag}{H:Hp}{i:Str}:IsI K H (.str i) (.ty "bool") false:=⟨_,_,.str i,rfl,by with_unfolding_all rfl⟩
theorem ylh {K:PySem.W.Frag}{H:Hp}{i:Str}:IsI K H (.str i) (.ty "list") false:=⟨_,_,.str i,rfl,by with_unfolding_all rfl⟩
theorem yjC {K:PySem.W.Frag}{H:Hp}{i:Str}:IsI K H (.str i) (.ty "tuple") false:=⟨_,_,.str i,rfl,by with_unfolding_all rfl⟩
theorem yli {K:PySem.W.Frag}{H:Hp}{i:Str}:IsI K H (.str i) (.ty "dict") false:=⟨_,_,.str i,rfl,by with_unfolding_all rfl⟩
theorem ylj {K:PySem.W.Frag}{H:Hp}:IsI K H .non (.ty "bool") false:=⟨_,_,.non,rfl,by with_unfolding_all rfl⟩
theorem ymO {K:PySem.W.Frag}{H:Hp}:IsI K H .non (.ty "str") false:=⟨_,_,.non,rfl,by with_unfolding_all rfl⟩
theorem ylk {K:PySem.W.Frag}{H:Hp}:IsI K H .non (.ty "list") false:=⟨_,_,.non,rfl,by with_unfolding_all rfl⟩
theorem yjD {K:PySem.W.Frag}{H:Hp}:IsI K H .non (.ty "tuple") false:=⟨_,_,.non,rfl,by with_unfolding_all rfl⟩
theorem yll {K:PySem.W.Frag}{H:Hp}:IsI K H .non (.ty "dict") false:=⟨_,_,.non,rfl,by with_unfolding_all rfl⟩
theorem ymP {K:PySem.W.Frag}{H:Hp}{a:Addr}{xs:List V}(e:H a=some (.lst xs)):IsI K H (.ref a) (.ty "int") false:=⟨_,_,.lst e,rfl,by with_unfolding_all rfl⟩
theorem ylm {K:PySem.W.Frag}{H:Hp}{a:Addr}{xs:List V}(e:H a=some (.lst xs)):IsI K H (.ref a) (.ty "bool") false:=⟨_,_,.lst e,rfl,by with_unfolding_all rfl⟩
theorem ymQ {K:PySem.W.Frag}{H:Hp}{a:Addr}{xs:List V}(e:H a=some (.lst xs)):IsI K H (.ref a) (.ty "str") false:=⟨_,_,.lst e,rfl,by with_unfolding_all rfl⟩
theorem yjE {K:PySem.W.Frag}{H:Hp}{a:Addr}{xs:List V}(e:H a=some (.lst xs)):IsI K H (.ref a) (.ty "tuple") false:=⟨_,_,.lst e,rfl,by with_unfolding_all rfl⟩
theorem yln {K:PySem.W.Frag}{H:Hp}{a:Addr}{xs:List V}(e:H a=some (.lst xs)):IsI K H (.ref a) (.ty "dict") false:=⟨_,_,.lst e,rfl,by with_unfolding_all rfl⟩
theorem yjF {K:PySem.W.Frag}{H:Hp}{a:Addr}(e:(∃ xs,H a=some (.tup xs))\/∃ o,K.lookup a=some o/\o.cls=.type "tuple"):IsI K H (.ref a) (.ty "tuple") true:=e.elim (fun ⟨_,e⟩=>⟨_,_,.tup e,rfl,by with_unfolding_all rfl⟩) fun ⟨_,e,c⟩=>⟨_,_,.kt e c,rfl,by with_unfolding_all rfl⟩
theorem ymR {K:PySem.W.Frag}{H:Hp}{a:Addr}(e:(∃ xs,H a=some (.tup xs))\/∃ o,K.lookup a=some o/\o.cls=.type "tuple"):IsI K H (.ref a) (.ty "int") false:=e.elim (fun ⟨_,e⟩=>⟨_,_,.tup e,rfl,by with_unfolding_all rfl⟩) fun ⟨_,e,c⟩=>⟨_,_,.kt e c,rfl,by with_unfolding_all rfl⟩
theorem ylo {K:PySem.W.Frag}{H:Hp}{a:Addr}(e:(∃ xs,H a=some (.tup xs))\/∃ o,K.lookup a=some o/\o.cls=.type "tuple"):IsI K H (.ref a) (.ty "bool") false:=e.elim (fun ⟨_,e⟩=>⟨_,_,.tup e,rfl,by with_unfolding_all rfl⟩) fun ⟨_,e,c⟩=>⟨_,_,.kt e c,rfl,by with_unfolding_all rfl⟩
theorem ymS {K:PySem.W.Frag}{H:Hp}{a:Addr}(e:(∃ xs,H a=some (.tup xs))\/∃ o,K.lookup a=some o/\o.cls=.type "tuple"):IsI K H (.ref a) (.ty "str") false:=e.elim (fun ⟨_,e⟩=>⟨_,_,.tup e,rfl,by with_unfolding_all rfl⟩) fun ⟨_,e,c⟩=>⟨_,_,.kt e c,rfl,by with_unfolding_all rfl⟩
theorem ylp {K:PySem.W.Frag}{H:Hp}{a:Addr}(e:(∃ xs,H a=some (.tup xs))\/∃ o,K.lookup a=some o/\o.cls=.type "tuple"):IsI K H (.ref a) (.ty "list") false:=e.elim (fun ⟨_,e⟩=>⟨_,_,.tup e,rfl,by with_unfolding_all rfl⟩) fun ⟨_,e,c⟩=>⟨_,_,.kt e c,rfl,by with_unfolding_all rfl⟩
theorem ylq {K:PySem.W.Frag}{H:Hp}{a:Addr}(e:(∃ xs,H a=some (.tup xs))\/∃ o,K.lookup a=some o/\o.cls=.type "tuple"):IsI K H (.ref a) (.ty "dict") false:=e.elim (fun ⟨_,e⟩=>⟨_,_,.tup e,rfl,by with_unfolding_all rfl⟩) fun ⟨_,e,c⟩=>⟨_,_,.kt e c,rfl,by with_unfolding_all rfl⟩
end L2
namespace L2
open PySem PySem.Spec PyProof.Rows
theorem ytr {K:PySem.W.Frag}{C:Addr}:PySem.W.kitOne K (.ref C) (.ref C)=some true:=by
 unfold PySem.W.kitOne
 simp_all
theorem yts {K:PySem.W.Frag}{C d:Addr}{b:Bool}(f:mroIn K d (.type "object")=some true) (g:typeIn K (.ref d)=some (.type "type")) (hs:subIn K (.ref C) (.ref d)=some b):PySem.W.kitCls K (.ref C) (.ref d)=some b:=by
 unfold PySem.W.kitCls
 have h1:(PySem.W.clsIn K d).isSome=true:=by
  unfold mroIn at f
  cases e:PySem.W.clsIn K d with
  | none=>rw [e] at f;cases f
  | some c=>rfl
 have h2:(typeIn K (.ref d) == some (.type "type"))=true:=by rw [g];simp
 simp_all
theorem ytt {K:PySem.W.Frag}{C b:Addr}(e:(C == b)=false) (d:mroIn K b (.type "object")=some true) (c:typeIn K (.ref b)=some (.type "type")) (hs:subIn K (.ref C) (.ref b)=some false):PySem.W.kitOne K (.ref C) (.ref b)=some false:=by
 unfold PySem.W.kitOne
 have:¬ (Value.ref C == Value.ref b)=true:=by
  simp_all
 rw [if_neg this]
 exact yts d c hs
end L2
namespace PX
open PySem L2
structure Ck where
 K:PySem.W.Frag
 A:Nat->Addr
inductive PV where
 | non|bl (b:Bool)|int (i:Int)|str (s:Str)|ty (n:String)|cls (k:Nat)
 | scr (ns:List Int)
 | lst (xs:List PV)|tup (xs:List PV)
 | ins (k:Nat) (ns:List Str) (xs:List PV)
 | loc (n:Nat)
 | exc (n:Str)|xcl (n:Str)
inductive Nd where
 | lst (xs:List PV)|dct (ks:List Key) (xs:List PV)|fz (ks:List Key) (xs:List PV)|ins (k:Nat) (ns:List Str) (xs:List PV)|dead
abbrev AH:=List Nd
inductive PVar where|no|val (x:PV)|own (d:Nd)
abbrev PSt:=List PVar
inductive Out where|nx (ρ:PSt)|rt (x:PV)|bk (ρ:PSt)|ct (ρ:PSt)
noncomputable abbrev XE:=PSt->AH->Option (PV×AH)
noncomputable abbrev XT:=PSt->AH->Option (Bool×AH)
noncomputable abbrev XA:=PSt->AH->Option (List PV×AH)
noncomputable abbrev XO:=PSt->AH->Option (Nd×AH)
noncomputable abbrev XS:=PSt->AH->Option (Out×AH)
noncomputable abbrev Fn:=List PV->AH->Option (PV×AH)
def KTp (K:PySem.W.Frag) (a:Addr) (xs:List V):Prop:=∃ (o:Obj) (its:Array Value) (n:Nat),K.lookup a=some o/\o.cls=.type "tuple"/\o.data=.seq its n/\its.size<=sizeLine/\Vals xs its.toList
def TpAt (K:PySem.W.Frag) (F:Hp) (a:Addr) (xs:List V):Prop:=F a=some (.tup xs)\/KTp K a xs
theorem TpAt.mono {K:PySem.W.Frag}{F c:Hp}{a:Addr}{xs:List V}(s:Same F c) (h:TpAt K F a xs):TpAt K c a xs:=h.elim (fun h=>.inl (s _ _ h)) .inr
mutual
noncomputable def Rep (K:Ck) (F:Hp) (m:List Addr):PV->V->Prop
 | .non,v=>v=.non
 | .bl b,v=>v=.bl b
 | .int i,v=>v=.int i
 | .str s,v=>v=.str s
 | .ty n,v=>v=.ty n
 | .cls k,v=>v=.ref (K.A k)
 | .scr ns,v=>∃ a,v=.ref a/\SqL K.K F a (ns.map V.int)
 | .lst xs,v=>∃ a vs,v=.ref a/\F a=some (.lst vs)/\RepL K F m xs vs
 | .tup xs,v=>∃ a vs,v=.ref a/\TpAt K.K F a vs/\RepL K F m xs vs
 | .ins k ns xs,v=>∃ a dx vs,v=.ref a/\F a=some (.ins (K.A k) dx (ns.zip vs))/\vs.length=ns.length/\RepL K F m xs vs
 | .loc n,v=>∃ a,v=.ref a/\m[n]?=some a
 | .exc n,v=>∃ a,v=.ref a/\F a=some (ExO (xAd K.K n) a)
 | .xcl n,v=>v=.ref (xAd K.K n)
noncomputable def RepL (K:Ck) (F:Hp) (m:List Addr):List PV->List V->Prop
 | [],vs=>vs=[]
 | x::xs,vs=>∃ v r,vs=v::r/\Rep K F m x v/\RepL K F m xs r
end
section
variable {K:Ck}{F F' H H':Hp}{m m':List Addr}
theorem ydS {n:Nat}{a:Addr}(p:m <+: m') (h:m[n]?=some a):m'[n]?=some a:=by
 obtain ⟨r,rfl⟩:=p
 rw [getElem?_append_left (List.getElem?_eq_some_iff.mp h).1];exact h
mutual
theorem Rep.mono (s:Same F F') (p:m <+: m'):∀ (x:PV) (v:V),Rep K F m x v->Rep K F' m' x v
 | .non,_,h=>h
 | .bl _,_,h=>h
 | .int _,_,h=>h
 | .str _,_,h=>h
 | .ty _,_,h=>h
 | .cls _,_,h=>h
 | .scr _,_,⟨a,e,h⟩=>⟨a,e,s.seq h⟩
 | .lst xs,_,⟨a,vs,e,h,r⟩=>⟨a,vs,e,s _ _ h,RepL.mono s p xs vs r⟩
 | .tup xs,_,⟨a,vs,e,h,r⟩=>⟨a,vs,e,h.mono s,RepL.mono s p xs vs r⟩
 | .ins _ _ xs,_,⟨a,dx,vs,e,h,l,r⟩=>⟨a,dx,vs,e,s _ _ h,l,RepL.mono s p xs vs r⟩
 | .loc _,_,⟨a,e,h⟩=>⟨a,e,ydS p h⟩
 | .exc _,_,⟨a,e,h⟩=>⟨a,e,s _ _ h⟩
 | .xcl _,_,h=>h
theorem RepL.mono (s:Same F F') (p:m <+: m'):∀ (xs:List PV) (vs:List V),RepL K F m xs vs->RepL K F' m' xs vs
 | [],_,h=>h
 | x::xs,_,⟨v,r,e,h,l⟩=>⟨v,r,e,Rep.mono s p x v h,RepL.mono s p xs r l⟩
end
theorem RepL.len:∀ {xs:List PV}{vs:List V},RepL K F m xs vs->vs.length=xs.length
 | [],_,h=>by rw [h];rfl
 | x::xs,_,⟨v,r,e,h,l⟩=>by rw [e,length_cons,length_cons,RepL.len l]
theorem RepL.get:∀ {xs:List PV}{vs:List V}{i:Nat}{x:PV},RepL K F m xs vs->xs[i]?=some x->∃ v,vs[i]?=some v/\Rep K F m x v
 | x::xs,_,0,y,⟨v,r,e,h,l⟩,q=>by
  grind
 | x::xs,_,i+1,y,⟨v,r,e,h,l⟩,q=>by
  obtain ⟨w,h1,h2⟩:=RepL.get l (by simpa using q)
  grind
theorem RepL.get' {xs:List PV}{vs:List V}{i:Nat}{v:V}(h:RepL K F m xs vs) (e:vs[i]?=some v):∃ x,xs[i]?=some x/\Rep K F m x v:=by
 have hl:=h.len
 have c:=(List.getElem?_eq_some_iff.mp e).1
 have b:xs[i]?=some xs[i]:=List.getElem?_eq_getElem _
 obtain ⟨w,h1,h2⟩:=h.get b
 grind
theorem RepL.app:∀ {xs ys:List PV}{vs us:List V},RepL K F m xs vs->RepL K F m ys us->RepL K F m (xs++ys) (vs++us)
 | [],_,_,_,h,k=>by rw [h];exact k
 | x::xs,ys,_,us,⟨v,r,e,h,l⟩,k=>by subst e;exact ⟨v,_,rfl,h,RepL.app l k⟩
theorem RepL.snoc {xs:List PV}{vs:List V}{x:PV}{v:V}(h:RepL K F m xs vs) (k:Rep K F m x v):RepL K F m (xs++[x]) (vs++[v]):=h.app ⟨v,[],rfl,k,rfl⟩
theorem RepL.drop:∀ {xs:List PV}{vs:List V} n,RepL K F m xs vs->RepL K F m (xs.drop n) (vs.drop n)
 | _,_,0,h=>by simpa using h
 | [],_,n+1,h=>by rw [h];rfl
 | x::xs,_,n+1,⟨v,r,e,h,l⟩=>by subst e;simpa using RepL.drop n l
theorem RepL.take:∀ {xs:List PV}{vs:List V} n,RepL K F m xs vs->RepL K F m (xs.take n) (vs.take n)
 | _,_,0,h=>rfl
 | [],_,n+1,h=>by rw [h];rfl
 | x::xs,_,n+1,⟨v,r,e,h,l⟩=>by subst e;exact ⟨v,_,rfl,h,RepL.take n l⟩
theorem RepL.set:∀ {xs:List PV}{vs:List V}{x:PV}{v:V} i,RepL K F m xs vs->Rep K F m x v->RepL K F m (xs.set i x) (vs.set i v)
 | [],_,_,_,_,h,_=>by rw [h];rfl
 | y::xs,_,x,v,0,⟨w,r,e,h,l⟩,k=>by subst e;exact ⟨v,r,rfl,k,l⟩
 | y::xs,_,x,v,i+1,⟨w,r,e,h,l⟩,k=>by subst e;exact ⟨w,_,rfl,h,RepL.set i l k⟩
theorem RepL.of_ints:∀ (ns:List Int),RepL K F m (ns.map PV.int) (ns.map V.int)
 | []=>rfl
 | n::ns=>⟨_,_,rfl,rfl,RepL.of_ints ns⟩
end
noncomputable def NdAt (K:Ck) (F H:Hp) (m:List Addr):Nd->Addr->Prop
 | .dead,a=>∃ o,H a=some o
 | .lst xs,a=>F a=none/\∃ vs,H a=some (.lst vs)/\RepL K F m xs vs
 | .dct ks xs,a=>F a=none/\∃ vs,H a=some (.dK (ks.zip vs))/\vs.length=ks.length/\RepL K F m xs vs
 | .fz ks xs,a=>F a=none/\∃ o vs,H a=some (.frz o (.dK (ks.zip vs)))/\vs.length=ks.length/\RepL K F m xs vs
 | .ins k ns xs,a=>F a=none/\∃ dx vs,H a=some (.ins (K.A k) dx (ns.zip vs))/\vs.length=ns.length/\RepL K F m xs vs
structure Wd where
 F:Hp
 H:Hp
 m:List Addr
 h:AH
structure WOk (K:Ck) (W:Wd):Prop where
 le:Same W.F W.H
 len:W.m.length=W.h.length
 nd:W.m.Nodup
 at_:∀ (n:Nat) (d:Nd) (a:Addr),W.h[n]?=some d->W.m[n]?=some a->NdAt K W.F W.H W.m d a
structure Le (K:Ck) (W W':Wd):Prop where
 ok:WOk K W'
 fs:Same W.F W'.F
 pre:W.m <+: W'.m
 keep:∀ b o,W.H b=some o->b∉W.m->W'.H b=some o
 new:∀ b o,W.H b=some o->b∉W.m->W.F b=none->W'.F b=none
 mn:∀ b∈W'.m,b∉W.m->W.H b=none
 fz:∀ (n:Nat) (ks:List Key) (xs:List PV),W.h[n]?=some (.fz ks xs)->W'.h[n]?=some (.fz ks xs)/\∀ a,W.m[n]?=some a->W'.H a=W.H a
theorem Le.refl {K:Ck}{W:Wd}(h:WOk K W):Le K W W:=⟨h,Same.refl _,prefix_refl _,fun _ _ e _=>e,fun _ _ _ _ e=>e,fun _ h h'=>absurd h h',fun _ _ _ e=>⟨e,fun _ _=>rfl⟩⟩
theorem Le.trans {K:Ck}{W g h:Wd}(a:Le K W g) (b:Le K g h):Le K W h where
 ok:=b.ok
 fs:=a.fs.trans b.fs
 pre:=a.pre.trans b.pre
 keep:=fun c o e n=>b.keep c o (a.keep c o e n) fun z=>by rw [a.mn c z n] at e;cases e
 new:=fun c o e n f=>b.new c o (a.keep c o e n) (fun z=>by rw [a.mn c z n] at e;cases e) (a.new c o e n f)
 mn:=fun c z n=>by
  by_cases i:c∈g.m
  .exact a.mn c i n
  .have:=b.mn c z i
   cases e:W.H c with
   | none=>rfl
   | some o=>rw [a.keep c o e n] at this;cases this
 fz:=fun n ks xs e=>by
  obtain ⟨p,k⟩:=a.fz n ks xs e
  obtain ⟨l,m⟩:=b.fz n ks xs p
  exact ⟨l,fun c j=>(m c (ydS a.pre j)).trans (k c j)⟩
noncomputable abbrev ycC (K:Ck) (W:Wd) (x:PV) (v:V):Prop:=Rep K W.F W.m x v
noncomputable abbrev ycy (K:Ck) (W:Wd) (x:List PV) (v:List V):Prop:=RepL K W.F W.m x v
theorem Le.rep {K:Ck}{W a:Wd}(l:Le K W a) {x:PV}{v:V}(h:ycC K W x v):ycC K a x v:=Rep.mono l.fs l.pre x v h
theorem Le.repL {K:Ck}{W a:Wd}(l:Le K W a) {x:List PV}{v:List V}(h:ycy K W x v):ycy K a x v:=RepL.mono l.fs l.pre x v h
theorem NdAt.mono {K:Ck}{F g H i:Hp}{m m':List Addr}(s:Same F g) (p:m <+: m') {d:Nd}{a:Addr}(b:∀ o,H a=some o->i a=some o) (c:F a=none->g a=none) (h:NdAt K F H m d a):NdAt K g i m' d a:=by
 cases d with
 | dead=>obtain ⟨o,e⟩:=h;exact ⟨o,b _ e⟩
 | lst xs=>obtain ⟨f,vs,e,r⟩:=h;exact ⟨c f,vs,b _ e,RepL.mono s p _ _ r⟩
 | dct ks xs=>obtain ⟨f,vs,e,l,r⟩:=h;exact ⟨c f,vs,b _ e,l,RepL.mono s p _ _ r⟩
 | fz ks xs=>obtain ⟨f,o,vs,e,l,r⟩:=h;exact ⟨c f,o,vs,b _ e,l,RepL.mono s p _ _ r⟩
 | ins C ns xs=>obtain ⟨f,j,vs,e,l,r⟩:=h;exact ⟨c f,j,vs,b _ e,l,RepL.mono s p _ _ r⟩
theorem NdAt.some {K:Ck}{F H:Hp}{m:List Addr}{d:Nd}{a:Addr}(h:NdAt K F H m d a):∃ o,H a=some o:=by
 cases d with
 | dead=>exact h
 | lst xs=>obtain ⟨f,vs,e,r⟩:=h;exact ⟨_,e⟩
 | dct ks xs=>obtain ⟨f,vs,e,r⟩:=h;exact ⟨_,e⟩
 | fz ks xs=>obtain ⟨f,o,vs,e,r⟩:=h;exact ⟨_,e⟩
 | ins C ns xs=>obtain ⟨f,b,vs,e,r⟩:=h;exact ⟨_,e⟩
structure Good (K:Ck) (W0 W:Wd) (ρ:PSt) (σ:St):Prop where
 le:Le K W0 W
 len:σ.length=ρ.length
 val:∀ (i:Nat) (x:PV),ρ[i]?=some (.val x)->∃ v,σ[i]?=some (some v)/\ycC K W x v
 own:∀ (i:Nat) (d:Nd),ρ[i]?=some (.own d)->∃ p,σ[i]?=some (some (.ref p))/\p∉W.m/\W0.H p=none/\d≠.dead/\NdAt K W.F W.H W.m d p
 ne:∀ (i j:Nat) (d d':Nd),i≠j->ρ[i]?=some (.own d)->ρ[j]?=some (.own d')->σ[i]?≠σ[j]?
theorem Good.ok {K:Ck}{a W:Wd}{ρ:PSt}{σ:St}(g:Good K a W ρ σ):WOk K W:=g.le.ok
theorem Good.step {K:Ck}{j W b:Wd}{ρ:PSt}{σ:St}(g:Good K j W ρ σ) (l:Le K W b):Good K j b ρ σ where
 le:=g.le.trans l
 len:=g.len
 val:=fun i x e=>let ⟨v,h1,h2⟩:=g.val i x e;⟨v,h1,l.rep h2⟩
 own:=fun i d e=>by
  obtain ⟨p,h1,h2,k,m,h⟩:=g.own i d e
  obtain ⟨o,c⟩:=h.some
  have n:p∉b.m:=fun z=>by rw [l.mn p z h2] at c;cases c
  refine ⟨p,h1,n,k,m,h.mono l.fs l.pre (fun o e=>l.keep p o e h2) fun f=>l.new p o c h2 f⟩
 ne:=g.ne
theorem WOk.some {K:Ck}{W:Wd}(w:WOk K W) {a:Addr}(h:a∈W.m):∃ o,W.H a=some o:=by
 obtain ⟨n,c,e⟩:=getElem_of_mem h
 have hl:n<W.h.length:=by rw [<- w.len];exact c
 exact (w.at_ n _ a (List.getElem?_eq_getElem hl) (by simp_all)).some
theorem Le.fresh {K:Ck}{W b:Wd}(l:Le K W b) {p:Addr}(h:b.H p=none):W.H p=none:=by
 cases e:W.H p with
 | none=>rfl
 | some o =>
  by_cases c:p∈W.m
  .obtain ⟨o,q⟩:=l.ok.some (l.pre.subset c)
   rw [h] at q;cases q
  .rw [l.keep p o e c] at h;cases h
theorem WOk.out {K:Ck}{W:Wd}(w:WOk K W) {p:Addr}(h:W.H p=none):p∉W.m:=fun z=>by
 obtain ⟨o,q⟩:=w.some z
 rw [h] at q;cases q
theorem WOk.ff {K:Ck}{W:Wd}(w:WOk K W) {p:Addr}(h:W.H p=none):W.F p=none:=Same.free w.le h
structure Lf (K:Ck) (W W':Wd):Prop where
 fs:Same W.F W'.F
 pre:W.m <+: W'.m
 fz:∀ (n:Nat) (ks:List Key) (xs:List PV),W.h[n]?=some (.fz ks xs)->W'.h[n]?=some (.fz ks xs)/\∀ a,W.m[n]?=some a->W'.H a=W.H a
theorem Le.lf {K:Ck}{W a:Wd}(l:Le K W a):Lf K W a:=⟨l.fs,l.pre,l.fz⟩
theorem Lf.refl {K:Ck}{W:Wd}:Lf K W W:=⟨Same.refl _,prefix_refl _,fun _ _ _ e=>⟨e,fun _ _=>rfl⟩⟩
theorem Lf.trans {K:Ck}{W g h:Wd}(a:Lf K W g) (b:Lf K g h):Lf K W h:=⟨a.fs.trans b.fs,a.pre.trans b.pre,fun n ks xs e=>by
  obtain ⟨j,l⟩:=a.fz n ks xs e
  obtain ⟨i,k⟩:=b.fz n ks xs j
  exact ⟨i,fun c f=>(k c (ydS a.pre f)).trans (l c f)⟩⟩
theorem Lf.rep {K:Ck}{W a:Wd}(l:Lf K W a) {x:PV}{v:V}(h:ycC K W x v):ycC K a x v:=Rep.mono l.fs l.pre x v h
def ybM (K:Ck) (t:TE) (e:XE):Prop:=∀ (W0 W:Wd) (ρ:PSt) (σ:St) (Q:VK) (x:PV) (h':AH),Good K W0 W ρ σ->e ρ W.h=some (x,h') ->
 (∀ v W',W'.h=h'->Le K W W'->ycC K W' x v->Q v W'.H)->t σ W.H Q
def ymo (K:Ck) (t:TT) (e:XT):Prop:=∀ (W0 W:Wd) (ρ:PSt) (σ:St) (Q:Bool->Hp->Prop) (x:Bool) (h':AH),Good K W0 W ρ σ->e ρ W.h=some (x,h') ->
 (∀ W',W'.h=h'->Le K W W'->Q x W'.H)->t σ W.H Q
def ymp (K:Ck) (t:TA) (e:XA):Prop:=∀ (W0 W:Wd) (ρ:PSt) (σ:St) (Q:List V->Hp->Prop) (x:List PV) (h':AH),Good K W0 W ρ σ->e ρ W.h=some (x,h') ->
 (∀ v W',W'.h=h'->Le K W W'->ycy K W' x v->Q v W'.H)->t σ W.H Q
def ymq (K:Ck) (t:TE) (e:XO):Prop:=∀ (W0 W:Wd) (ρ:PSt) (σ:St) (Q:VK) (d:Nd) (h':AH),Good K W0 W ρ σ->e ρ W.h=some (d,h') ->
 (∀ p W',W'.h=h'->Le K W W'->p∉W'.m->W.H p=none->d≠.dead->NdAt K W'.F W'.H W'.m d p->Q (.ref p) W'.H)->t σ W.H Q
def Ends.Ok (K:Ck) (W0 W:Wd) (D:Ends) (h':AH):Out->Prop
 | .nx ρ'=>∀ W' σ',W'.h=h'->Lf K W W'->Good K W0 W' ρ' σ'->D.nx σ' W'.H
 | .bk ρ'=>∀ W' σ',W'.h=h'->Lf K W W'->Good K W0 W' ρ' σ'->D.bk σ' W'.H
 | .ct ρ'=>∀ W' σ',W'.h=h'->Lf K W W'->Good K W0 W' ρ' σ'->D.ct σ' W'.H
 | .rt x=>∀ W' v,W'.h=h'->Le K W0 W'->ycC K W' x v->D.rt v W'.H
def yeG (K:Ck) (t:TS) (s:XS):Prop:=∀ (W0 W:Wd) (ρ:PSt) (σ:St) (D:Ends) (o:Out) (h':AH),Good K W0 W ρ σ->s ρ W.h=some (o,h')->Ends.Ok K W0 W D h' o->t D σ W.H
noncomputable def ob {α β:Type}(o:Option (α×AH)) (f:α->AH->Option β):Option β:=o.bind fun q=>f q.1 q.2
theorem yg {α c:Type}{o:Option _}{f:α->AH->Option c}{b:c}(h:ob o f=some b):∃ x h',o=some (x,h')/\f x h'=some b:=by
 obtain ⟨⟨x,h'⟩,e,k⟩:=Option.bind_eq_some_iff.mp h
 exact ⟨x,h',e,k⟩
end PX
namespace PX
open PySem L2
variable {K:Ck}
def yd (i:Nat):XE:=fun ρ h=>match ρ[i]? with|some (.val x)=>some (x,h)|_=>none
def xC (x:PV):XE:=fun _ h=>some (x,h)
noncomputable abbrev P2:=PV->PV->AH->Option (PV×AH)
noncomputable abbrev P2O:=PV->PV->AH->Option (Nd×AH)
def xOp (p:P2) (a b:XE):XE:=fun ρ h=>ob (a ρ h) fun x h1=>ob (b ρ h1) fun y h2=>p x y h2
def yqi (p:P2O) (a b:XE):XO:=fun ρ h=>ob (a ρ h) fun x h1=>ob (b ρ h1) fun y h2=>p x y h2
def xUn (p:PV->AH->Option (PV×AH)) (a:XE):XE:=fun ρ h=>ob (a ρ h) fun x h1=>p x h1
noncomputable def oB (x:PV) (h:AH):Option (Bool×AH):=match x with|.bl b=>some (b,h)|_=>none
def yfn (p p':P2) (a b c:XE):XE:=fun ρ h=>ob (a ρ h) fun x h1=>ob (b ρ h1) fun y h2=>ob (p x y h2) fun z h3=>ob (oB z h3) fun k h3=>if k=true then ob (c ρ h3) fun w h4=>p' y w h4 else some (.bl false,h3)
def yr (a:XE):XT:=fun ρ h=>ob (a ρ h) oB
def yfh (a b:XE):XE:=fun ρ h=>ob (a ρ h) fun x h1=>ob (oB x h1) fun k h1=>if k=true then b ρ h1 else some (.bl false,h1)
def ytu (a:XE):XE:=fun ρ h=>ob (a ρ h) fun x h1=>ob (oB x h1) fun k h1=>some (.bl (!k),h1)
def yqj (a b:XT):XT:=fun ρ h=>ob (a ρ h) fun k h1=>if k=true then b ρ h1 else some (false,h1)
def xOr (a b:XT):XT:=fun ρ h=>ob (a ρ h) fun k h1=>if k=true then some (true,h1) else b ρ h1
def yjG (a:XT):XT:=fun ρ h=>ob (a ρ h) fun k h1=>some (!k,h1)
def xIf (c:XT) (a b:XE):XE:=fun ρ h=>ob (c ρ h) fun k h1=>if k=true then a ρ h1 else b ρ h1
def yh:XA:=fun _ h=>some ([],h)
def yc (a:XE) (r:XA):XA:=fun ρ h=>ob (a ρ h) fun x h1=>ob (r ρ h1) fun xs h2=>some (x::xs,h2)
def yfz (a:XA):XE:=fun ρ h=>ob (a ρ h) fun xs h1=>if xs.length<=1000 then some (.tup xs,h1) else none
def ydY (a:XA):XO:=fun ρ h=>ob (a ρ h) fun xs h1=>if xs.length<=1000 then some (.lst xs,h1) else none
def xFz (e:XO):XE:=fun ρ h=>ob (e ρ h) fun d h1=>match d with|.lst xs=>some (.lst xs,h1)|.ins k ns xs=>some (.ins k ns xs,h1)|_=>none
def ygI (e:XO):XE:=fun ρ h=>ob (e ρ h) fun d h1=>some (.loc h1.length,h1++[d])
def yW (f:Fn) (a:XA):XE:=fun ρ h=>ob (a ρ h) f
def xCB (p:List PV->AH->Option (PV×AH)) (a:XA):XE:=fun ρ h=>ob (a ρ h) p
def yhm (p:List PV->AH->Option (Nd×AH)) (a:XA):XO:=fun ρ h=>ob (a ρ h) p
noncomputable abbrev PM:=PV->List PV->AH->Option (PV×AH)
def xBM (c:PV->AH->Bool) (p:PM) (o:XE) (a:XA):XE:=fun ρ h=>ob (o ρ h) fun x h1=>if c x h1=true then ob (a ρ h1) fun xs h2=>p x xs h2 else none
def ygU (e:XE):PSt->AH->Option (Option Int×AH):=fun ρ h=>ob (e ρ h) fun x h1=>match x with|.int i=>some (some i,h1)|_=>none
noncomputable def ydT:PSt->AH->Option (Option Int×AH):=fun _ h=>some (none,h)
def yqk (p:PV->Option Int->Option Int->AH->Option (Nd×AH)) (e:XE) (lo hi:PSt->AH->Option (Option Int×AH)):XO:=fun ρ h=>ob (e ρ h) fun x h1=>ob (lo ρ h1) fun l h2=>ob (hi ρ h2) fun u h3=>p x l u h3
def yci (K:Ck) (r:R2) (p:P2):Prop:=∀ (W:Wd) (x y:PV) (v u:V) (Q:VK) (z:PV) (h':AH),WOk K W->ycC K W x v->ycC K W y u->p x y W.h=some (z,h')->(∀ w W',W'.h=h'->Le K W W'->ycC K W' z w->Q w W'.H)->r v u W.H Q
def yoQ (K:Ck) (W:Wd) (d:Nd) (h':AH) (Q:VK):Prop:=∀ p W',W'.h=h'->Le K W W'->p∉W'.m->W.H p=none->d≠.dead->NdAt K W'.F W'.H W'.m d p->Q (.ref p) W'.H
def ynO (K:Ck) (r:R2) (p:P2O):Prop:=∀ (W:Wd) (x y:PV) (v u:V) (Q:VK) (d:Nd) (h':AH),WOk K W->ycC K W x v->ycC K W y u->p x y W.h=some (d,h')->yoQ K W d h' Q->r v u W.H Q
def yxj (K:Ck) (r:V->Hp->VK->Prop) (p:PV->AH->Option (PV×AH)):Prop:=∀ (W:Wd) (x:PV) (v:V) (Q:VK) (z:PV) (h':AH),WOk K W->ycC K W x v->p x W.h=some (z,h')->(∀ w W',W'.h=h'->Le K W W'->ycC K W' z w->Q w W'.H)->r v W.H Q
def ygV (K:Ck) (r:List V->Hp->VK->Prop) (p:List PV->AH->Option (PV×AH)):Prop:=∀ (W:Wd) (xs:List PV) (vs:List V) (Q:VK) (z:PV) (h':AH),WOk K W->ycy K W xs vs->p xs W.h=some (z,h')->(∀ w W',W'.h=h'->Le K W W'->ycC K W' z w->Q w W'.H)->r vs W.H Q
def yql (K:Ck) (r:List V->Hp->VK->Prop) (p:List PV->AH->Option (Nd×AH)):Prop:=∀ (W:Wd) (xs:List PV) (vs:List V) (Q:VK) (d:Nd) (h':AH),WOk K W->ycy K W xs vs->p xs W.h=some (d,h')->yoQ K W d h' Q->r vs W.H Q
def yix (K:Ck) (T:String) (c:PV->AH->Bool) (r:V->List V->Hp->VK->Prop) (p:PM):Prop :=
 (∀ (W:Wd) (x:PV) (v:V),WOk K W->ycC K W x v->c x W.h=true->tyV K.K T v W.H) /\
 ∀ (W:Wd) (x:PV) (v:V) (xs:List PV) (vs:List V) (Q:VK) (z:PV) (h':AH),WOk K W->ycC K W x v->ycy K W xs vs->p x xs W.h=some (z,h')->(∀ w W',W'.h=h'->Le K W W'->ycC K W' z w->Q w W'.H)->r v vs W.H Q
theorem yxk i:ybM K (ypw i) (yd i):=by
 intro c W ρ σ Q x h' g e q
 unfold yd at e
 split at e
 .rename_i y b
  cases e
  obtain ⟨v,h1,h2⟩:=g.val i _ b
  exact ⟨v,h1,q v W rfl (.refl g.ok) h2⟩
 .cases e
theorem yoR {v:V}{x:PV}(h:∀ W,ycC K W x v):ybM K (tC v) (xC x):=by
 intro b W ρ σ Q y h' g e q
 cases e
 exact q v W rfl (.refl g.ok) (h W)
theorem yqm {i:Int}:ybM K (tC (.int i)) (xC (.int i)):=yoR fun _=>rfl
theorem yqn {i:Str}:ybM K (tC (.str i)) (xC (.str i)):=yoR fun _=>rfl
theorem yAo {i:Bool}:ybM K (tC (.bl i)) (xC (.bl i)):=yoR fun _=>rfl
theorem yxl:ybM K (tC .non) (xC .non):=yoR fun _=>rfl
theorem yAp {n:String}:ybM K (tC (.ty n)) (xC (.ty n)):=yoR fun _=>rfl
theorem yxm {k:Nat}:ybM K (tC (.ref (K.A k))) (xC (.cls k)):=yoR fun _=>rfl
section
variable {ta tb tc:TE}{ea eb ec:XE}{t:TA}{e:XA}
theorem ynP {r:R2}{p:P2}(o:yci K r p) (a:ybM K ta ea) (b:ybM K tb eb):ybM K (tOp r ta tb) (xOp p ea eb):=by
 intro h W ρ σ Q z h' g e q
 obtain ⟨x,h1,A,D⟩:=yg e
 obtain ⟨y,h2,l,E⟩:=yg D
 refine a h W ρ σ _ x h1 g A fun v F j f m=>?_
 subst j
 refine b h F ρ σ _ y h2 (g.step f) l fun u s k d r2=>?_
 subst k
 exact o s x y v u Q z h' d.ok (d.rep m) r2 E fun w B C i n=>q w B C (f.trans (d.trans i)) n
theorem ygw {W b:Wd}{d:Nd}{h':AH}{Q:VK}(l:Le K W b) (q:yoQ K W d h' Q):yoQ K b d h' Q:=fun p c e l' n f=>q p c e (l.trans l') n (l.fresh f)
theorem yxn {r:R2}{p:P2O}(o:ynO K r p) (a:ybM K ta ea) (b:ybM K tb eb):ymq K (tOp r ta tb) (yqi p ea eb):=by
 intro h W ρ σ Q z h' g e q
 obtain ⟨x,h1,m,n⟩:=yg e
 obtain ⟨y,h2,A,l⟩:=yg n
 refine a h W ρ σ _ x h1 g m fun v k s f i=>?_
 subst s
 refine b h k ρ σ _ y h2 (g.step f) A fun u j w d r2=>?_
 subst w
 exact o j x y v u Q z h' d.ok (d.rep i) r2 l (ygw (f.trans d) q)
theorem yAq {r} {p} (o:yxj K r p) (a:ybM K ta ea):ybM K (tUn r ta) (xUn p ea):=by
 intro i W ρ σ Q z h' g e q
 obtain ⟨x,h1,s,m⟩:=yg e
 refine a i W ρ σ _ x h1 g s fun v k n c d=>?_
 subst n
 exact o k x v Q z h' c.ok d m fun w f h j l=>q w f h (c.trans j) l
theorem yjH {x:PV}{h:AH}{k:Bool}{h':AH}(e:oB x h=some (k,h')):x=.bl k/\h'=h:=by
 unfold oB at e
 grind
theorem ylr {r s:R2}{p D:P2}(o:yci K r p) (X:yci K s D) (a:ybM K ta ea) (b:ybM K tb eb) (c:ybM K tc ec):ybM K (ypR r s ta tb tc) (yfn p D ea eb ec):=by
 intro m W ρ σ Q z h' g e q
 obtain ⟨x,h1,T,F⟩:=yg e
 obtain ⟨y,h2,e2,f2⟩:=yg F
 obtain ⟨z',h3,e3,f3⟩:=yg f2
 obtain ⟨k,I,j,i⟩:=yg f3
 obtain ⟨rfl,rfl⟩:=yjH j
 refine a m W ρ σ _ x h1 g T fun v W1 G C J=>?_
 subst G
 refine b m W1 ρ σ _ y h2 (g.step C) e2 fun u O H h r2=>?_
 subst H
 refine o O x y v u _ _ _ h.ok (h.rep J) r2 e3 fun w n R A N=>⟨k,N,?_⟩
 subst R
 have l:=C.trans (h.trans A)
 cases k with
 | false =>
  rw [if_neg (by decide)] at i ⊢
  cases i
  exact q _ n rfl l rfl
 | true =>
  obtain ⟨B,S,Z,M⟩:=yg i
  refine c m n ρ σ _ B S (g.step l) Z fun Y P w4 f r4=>?_
  subst w4
  exact X P y B u Y Q z h' f.ok ((A.trans f).rep r2) r4 M fun w W5 E L U=>q w W5 E (l.trans (f.trans L)) U
theorem yhn (a:ybM K ta ea):ymo K (ywT ta) (yr ea):=by
 intro d W ρ σ Q k h' g e q
 obtain ⟨x,h1,l,i⟩:=yg e
 obtain ⟨rfl,rfl⟩:=yjH i
 exact a d W ρ σ _ _ _ g l fun v f j h c=>⟨k,c,q f j h⟩
theorem yAr (a:ybM K ta ea):ymo K (tB ta) (yr ea):=yhn a
theorem ytv (a:ybM K ta ea) (b:ybM K tb eb):ybM K (yzS ta tb) (yfh ea eb):=by
 intro i W ρ σ Q z h' g e q
 obtain ⟨x,h1,u,p⟩:=yg e
 obtain ⟨k,n,f,h⟩:=yg p
 obtain ⟨rfl,rfl⟩:=yjH f
 refine a i W ρ σ _ _ _ g u fun v j r d l=>⟨k,l,?_⟩
 subst r
 cases k with
 | false =>
  cases h
  exact q _ j rfl d rfl
 | true =>
  exact b i j ρ σ _ z h' (g.step d) h fun v o s m r2=>q v o s (d.trans m) r2
theorem ytw (a:ybM K ta ea):ybM K (yzT ta) (ytu ea):=by
 intro h W ρ σ Q z h' g e q
 obtain ⟨x,h1,f,m⟩:=yg e
 obtain ⟨k,o,c,j⟩:=yg m
 obtain ⟨rfl,rfl⟩:=yjH c
 cases j
 exact a h W ρ σ _ _ _ g f fun v i n l d=>⟨k,d,q _ i n l rfl⟩
section
variable {tA tB':TT}{eA eB:XT}
theorem yxo (a:ymo K tA eA) (b:ymo K tB' eB):ymo K (yEN tA tB') (yqj eA eB):=by
 intro d W ρ σ Q z h' g e q
 obtain ⟨k,h1,l,m⟩:=yg e
 refine a d W ρ σ _ _ _ g l fun j n f=>?_
 subst n
 cases k with
 | false =>
  grind
 | true =>
  exact b d j ρ σ _ z h' (g.step f) m fun i o h=>q i o (f.trans h)
theorem yAs (a:ymo K tA eA) (b:ymo K tB' eB):ymo K (tOr tA tB') (xOr eA eB):=by
 intro d W ρ σ Q z h' g e q
 obtain ⟨k,h1,l,m⟩:=yg e
 refine a d W ρ σ _ _ _ g l fun j n f=>?_
 subst n
 cases k with
 | true =>
  grind
 | false =>
  exact b d j ρ σ _ z h' (g.step f) m fun i o h=>q i o (f.trans h)
theorem yxp (a:ymo K tA eA):ymo K (yCT tA) (yjG eA):=by
 intro d W ρ σ Q z h' g e q
 obtain ⟨k,h1,c,i⟩:=yg e
 cases i
 exact a d W ρ σ _ _ _ g c fun f j h=>q f j h
theorem yAt (c:ymo K tA eA) (a:ybM K ta ea) (b:ybM K tb eb):ybM K (tIf tA ta tb) (xIf eA ea eb):=by
 intro j W ρ σ Q z h' g e q
 obtain ⟨k,h1,o,m⟩:=yg e
 refine c j W ρ σ _ _ _ g o fun n p f=>?_
 subst p
 cases k with
 | true =>
  exact a j n ρ σ _ z h' (g.step f) m fun v i l h r2=>q v i l (f.trans h) r2
 | false =>
  exact b j n ρ σ _ z h' (g.step f) m fun v i l h r2=>q v i l (f.trans h) r2
end
theorem yjI:ymp K yvK yh:=by
 intro b W ρ σ Q z h' g e q
 cases e
 exact q [] W rfl (.refl g.ok) rfl
theorem ytx (a:ybM K ta ea) (r:ymp K t e):ymp K (ymz ta t) (yc ea e):=by
 intro d W ρ σ Q z h' g e q
 obtain ⟨x,h1,l,m⟩:=yg e
 obtain ⟨xs,h2,p,k⟩:=yg m
 cases k
 refine a d W ρ σ _ x h1 g l fun v j n c h=>?_
 subst n
 exact r d j ρ σ _ xs _ (g.step c) p fun vs i o f r2=>q _ i o (c.trans f) ⟨v,vs,rfl,f.rep h,r2⟩
def yxq (W:Wd) (p:Addr) (o:HO):Wd:=⟨upd W.F p o,upd W.H p o,W.m,W.h⟩
theorem yqo {W:Wd}{p:Addr}{o:HO}(w:WOk K W) (h:W.H p=none):Le K W (yxq W p o):=by
 have k:=w.out h
 have q:=w.ff h
 have m:=ydH q o
 refine ⟨⟨?_,w.len,w.nd,fun n d a i g=>?_⟩,m,prefix_refl _,fun b u e _=>ydH h o b u e,fun b u e _ f=>?_,fun b z n=>absurd z n,fun n ks xs i=>⟨i,fun a g=>yI fun z=>k (z ▸ mem_of_getElem? g)⟩⟩
 .intro b u e
  show upd W.H p o b=some u
  by_cases j:b=p
  .subst j;rw [show (yxq W b o).F b=upd W.F b o b from rfl,yB] at e;rw [yB];exact e
  .rw [show (yxq W p o).F b=upd W.F p o b from rfl,yI j] at e;rw [yI j];exact w.le _ _ e
 .have l:a≠p:=fun z=>k (z ▸ mem_of_getElem? g)
  exact (w.at_ n d a i g).mono m (prefix_refl _) (fun u e=>by rw [show (yxq W p o).H a=upd W.H p o a from rfl,yI l];exact e) fun f=>(yI l).trans f
 .have:=ybr e h
  rw [show (yxq W p o).F b=upd W.F p o b from rfl,yI this];exact f
def yiw (W:Wd) (p:Addr) (o:HO):Wd:=⟨W.F,upd W.H p o,W.m,W.h⟩
theorem ycE {W:Wd}{p:Addr}{o:HO}(w:WOk K W) (h:W.H p=none):Le K W (yiw W p o):=by
 have j:=w.out h
 refine ⟨⟨?_,w.len,w.nd,fun n d a g i=>?_⟩,Same.refl _,prefix_refl _,fun b u e _=>ydH h o b u e,fun b u e _ f=>f,fun b z n=>absurd z n,fun n ks xs g=>⟨g,fun a i=>yI fun z=>j (z ▸ mem_of_getElem? i)⟩⟩
 .exact fun b u e=>ydH h o b u (w.le _ _ e)
 .exact (w.at_ n d a g i).mono (Same.refl _) (prefix_refl _) (fun u e=>ydH h o _ _ e) id
theorem small {n:Nat}(h:n<=1000):n<=sizeLine:=le_of_lt (ykX h)
theorem yxr (a:ymp K t e):ybM K (yEW t) (yfz e):=by
 intro i W ρ σ Q z h' g e q
 obtain ⟨xs,h1,l,c⟩:=yg e
 split at c
 .rename_i hl
  cases c
  refine a i W ρ σ _ xs _ g l fun vs j k f d=>⟨small (by rw [d.len];exact hl),fun p hp=>?_⟩
  have h:=yqo (o:=.tup vs) f.ok hp
  exact q _ (yxq j p _) k (f.trans h) ⟨p,vs,rfl,.inl yB,h.repL d⟩
 .cases c
theorem yxs (a:ymp K t e):ymq K (yEX t) (ydY e):=by
 intro l W ρ σ Q z h' g e q
 obtain ⟨xs,h1,j,d⟩:=yg e
 split at d
 .rename_i hl
  cases d
  refine a l W ρ σ _ xs _ g j fun vs h k c f=>⟨small (by rw [f.len];exact hl),fun p hp=>?_⟩
  have i:=ycE (o:=.lst vs) c.ok hp
  exact q p (yiw h p _) k (c.trans i) (c.ok.out hp) (c.fresh hp) (fun z=>by cases z) ⟨c.ok.ff hp,vs,yB,f⟩
 .cases d
def yty (W:Wd) (p:Addr) (o:HO):Wd:=⟨upd W.F p o,W.H,W.m,W.h⟩
theorem yqp {W:Wd}{p:Addr}{o:HO}(w:WOk K W) (h:W.H p=some o) (l:p∉W.m) (m:W.F p=none):WOk K (yty W p o)/\Same W.F (upd W.F p o):=by
 have i:=ydH m o
 refine ⟨⟨?_,w.len,w.nd,fun n d a q j=>?_⟩,i⟩
 .intro b u e
  by_cases g:b=p
  .subst g;rw [show (yty W b o).F b=upd W.F b o b from rfl,yB] at e;cases e;exact h
  .rw [show (yty W p o).F b=upd W.F p o b from rfl,yI g] at e;exact w.le _ _ e
 .have k:a≠p:=fun z=>l (z ▸ mem_of_getElem? j)
  exact (w.at_ n d a q j).mono i (prefix_refl _) (fun u e=>e) fun f=>(yI k).trans f
theorem ymT {W c:Wd}{p:Addr}{o:HO}(l:Le K W c) (h:c.H p=some o) (j:p∉c.m) (g:c.F p=none) (d:W.H p=none):Le K W (yty c p o):=by
 obtain ⟨k,i⟩:=yqp l.ok h j g
 refine ⟨k,l.fs.trans i,l.pre,l.keep,fun b u e n f=>?_,l.mn,l.fz⟩
 have:=ybr e d
 rw [show (yty c p o).F b=upd c.F p o b from rfl,yI this];exact l.new b u e n f
theorem yvT {o:XO}(a:ymq K ta o):ybM K ta (xFz o):=by
 intro u W ρ σ Q z h' g e q
 obtain ⟨d,h1,v,h⟩:=yg e
 refine a u W ρ σ _ d h1 g v fun p l m k n j w f=>?_
 split at h
 .cases h
  obtain ⟨c,vs,hp,r⟩:=f
  have i:=ymT k hp n c j
  exact q _ (yty l p _) m i ⟨p,vs,rfl,yB,RepL.mono (ydH c _) (prefix_refl _) _ _ r⟩
 .cases h
  obtain ⟨c,s,vs,hp,hl,r⟩:=f
  have i:=ymT k hp n c j
  exact q _ (yty l p _) m i ⟨p,s,vs,rfl,yB,hl,RepL.mono (ydH c _) (prefix_refl _) _ _ r⟩
 .cases h
theorem ymU {o:XO}(a:ymq K ta o):ybM K ta (ygI o):=by
 intro u W ρ σ Q z h' g e q
 obtain ⟨d,h1,h,m⟩:=yg e
 cases m
 refine a u W ρ σ _ d h1 g h fun p i v f x y w r=>?_
 subst v
 have pre:i.m <+: i.m++[p]:=List.prefix_append _ _
 refine q (.ref p) ⟨i.F,i.H,i.m++[p],i.h++[d]⟩ rfl ⟨⟨f.ok.le,?_,?_,fun n d' a h j=>?_⟩,f.fs,f.pre.trans pre,f.keep,f.new,fun b z n=>?_,fun n ks xs h=>⟨by
  have:=(f.fz n ks xs h).1
  grind,(f.fz n ks xs h).2⟩⟩ ⟨p,rfl,?_⟩
 .rw [length_append,length_append,f.ok.len];rfl
 .rw [List.nodup_append]
  refine ⟨f.ok.nd,by simp,?_⟩
  grind
 .by_cases l:n<i.h.length
  .rw [getElem?_append_left l] at h
   rw [getElem?_append_left (by rw [f.ok.len];exact l)] at j
   exact (f.ok.at_ n d' a h j).mono (Same.refl _) pre (fun _ m=>m) id
  .rw [getElem?_append_right (by omega)] at h
   rw [getElem?_append_right (by rw [f.ok.len];omega)] at j
   rw [f.ok.len] at j
   cases s:n-i.h.length with
   | zero =>
    rw [s] at h j
    simp at h j
    subst h j
    exact r.mono (Same.refl _) pre (fun _ m=>m) id
   | succ k=>rw [s] at h;simp at h
 .rcases List.mem_append.mp z with z|z
  .exact f.mn b z n
  simp_all
 .rw [<- f.ok.len];simp
def spE (K:Ck) (n:Nat) (f:Fn):Sp:=fun vs H Q _=>∃ (W:Wd) (xs:List PV) (x:PV) (h':AH),W.H=H/\WOk K W/\ycy K W xs vs/\xs.length=n/\f xs W.h=some (x,h')/\∀ v W',W'.h=h'->Le K W W'->ycC K W' x v->Q v W'.H
theorem ytz {n:Nat}{f:Fn}{r:XK}(a:ymp K t e) (l:∀ ρ h xs h',e ρ h=some (xs,h')->xs.length=n):ybM K (ytg (spE K n f) [] r t) (yW f e):=by
 intro o W ρ σ Q z h' g j q
 obtain ⟨xs,h1,d,m⟩:=yg j
 refine a o W ρ σ _ xs h1 g d fun vs p s c i=>?_
 subst s
 rw [append_nil]
 exact ⟨p,xs,z,h',rfl,c.ok,i,l _ _ _ _ d,m,fun v w u k r2=>q v w u (c.trans k) r2⟩
theorem ymV:∀ ρ h xs h',yh ρ h=some (xs,h')->xs.length=0:=fun ρ h xs h' e=>by cases e;rfl
theorem ytA {n:Nat}(l:∀ ρ h xs h',e ρ h=some (xs,h')->xs.length=n):∀ ρ h xs h',yc ea e ρ h=some (xs,h')->xs.length=n+1:=fun ρ h xs h' q=>by
 obtain ⟨x,h1,c,q⟩:=yg q
 obtain ⟨ys,h2,b,q⟩:=yg q
 grind
theorem yvU {r} {p} (o:ygV K r p) (a:ymp K t e):ybM K (tCB r t) (xCB p e):=by
 intro j W ρ σ Q z h' g f q
 obtain ⟨xs,h1,h,i⟩:=yg f
 refine a j W ρ σ _ xs h1 g h fun vs k m c d=>?_
 subst m
 exact o k xs vs Q z h' c.ok d i fun v s n l r2=>q v s n (c.trans l) r2
theorem yxt {r} {p} (o:yql K r p) (a:ymp K t e):ymq K (tCB r t) (yhm p e):=by
 intro h W ρ σ Q z h' g j q
 obtain ⟨xs,h1,l,f⟩:=yg j
 refine a h W ρ σ _ xs h1 g l fun vs i k c d=>?_
 subst k
 exact o i xs vs Q z h' c.ok d f (ygw c q)
theorem yvV {T:String}{c} {r} {p} (o:yix K T c r p) (b:ybM K ta ea) (a:ymp K t e):ybM K (tBM K.K T r ta t) (xBM c p ea e):=by
 intro l W ρ σ Q z h' g n q
 obtain ⟨x,h1,A,i⟩:=yg n
 split at i
 .rename_i D
  obtain ⟨xs,h2,G,F⟩:=yg i
  refine b l W ρ σ _ x h1 g A fun v m k f j=>⟨o.1 m x v f.ok j (by rw [k];exact D),?_⟩
  subst k
  refine a l m ρ σ _ xs h2 (g.step f) G fun vs y E h r2=>?_
  subst E
  exact o.2 y x v xs vs Q z h' h.ok (h.rep j) r2 F fun w B C s u=>q w B C (f.trans (h.trans s)) u
 .cases i
theorem yxu {T:String}{c} {r} {p} (o:yix K T c r p) (b:ybM K ta ea):ybM K (yDi K.K T r ta) (xBM c p ea yh):=yvV o b yjI
end
def yzt (K:Ck) (t:TO) (e:PSt->AH->Option (Option Int×AH)):Prop:=∀ (W0 W:Wd) (ρ:PSt) (σ:St) (Q:Option Int->Hp->Prop) (x:Option Int) (h':AH),Good K W0 W ρ σ->e ρ W.h=some (x,h') ->
 (∀ W',W'.h=h'->Le K W W'->Q x W'.H)->t σ W.H Q
theorem yoS:yzt K ypX ydT:=by
 intro b W ρ σ Q z h' g e q
 cases e
 exact q W rfl (.refl g.ok)
theorem ytB {f:TE}{d:XE}(a:ybM K f d):yzt K (yAh f) (ygU d):=by
 intro n W ρ σ Q z h' g e q
 obtain ⟨x,h1,l,c⟩:=yg e
 split at c
 .rename_i i
  cases c
  exact a n W ρ σ _ _ _ g l fun v j m k h=>⟨i,h,q j m k⟩
 .cases c
def yqq (K:Ck) (r:V->Option Int->Option Int->Hp->VK->Prop) (p:PV->Option Int->Option Int->AH->Option (Nd×AH)):Prop:=∀ (W:Wd) (x:PV) (v:V) (lo hi:Option Int) (Q:VK) (d:Nd) (h':AH),WOk K W->ycC K W x v->p x lo hi W.h=some (d,h')->yoQ K W d h' Q->r v lo hi W.H Q
theorem yxv {r} {p} {t:TE}{k:XE}{tl n:TO}{s m} (o:yqq K r p) (a:ybM K t k) (b:yzt K tl s) (c:yzt K n m):ymq K (tSl r t tl n) (yqk p k s m):=by
 intro h W ρ σ Q z h' g e q
 obtain ⟨x,h1,D,G⟩:=yg e
 obtain ⟨l,h2,F,J⟩:=yg G
 obtain ⟨u,C,y,w⟩:=yg J
 refine a h W ρ σ _ x h1 g D fun v L I j A=>?_
 subst I
 refine b h L ρ σ _ l h2 (g.step j) F fun B M f=>?_
 subst M
 refine c h B ρ σ _ u C (g.step (j.trans f)) y fun E H i=>?_
 subst H
 exact o E x v l u Q z h' i.ok ((f.trans i).rep A) w (ygw (j.trans (f.trans i)) q)
end PX
namespace PX
open PySem L2
variable {K:Ck}
def yM:XS:=fun ρ h=>some (.nx ρ,h)
def yl (s u:XS):XS:=fun ρ h=>ob (s ρ h) fun o h1=>match o with|.nx ρ'=>u ρ' h1|.rt x=>some (.rt x,h1)|.bk ρ'=>some (.bk ρ',h1)|.ct ρ'=>some (.ct ρ',h1)
def yZ (e:XE):XS:=fun ρ h=>ob (e ρ h) fun _ h1=>some (.nx ρ,h1)
def yQ (e:XE):XS:=fun ρ h=>ob (e ρ h) fun x h1=>some (.rt x,h1)
def ybD (c:XT) (s u:XS):XS:=fun ρ h=>ob (c ρ h) fun k h1=>if k=true then s ρ h1 else u ρ h1
abbrev XG:=PV->PSt->Option PSt
noncomputable abbrev XGs:=List PV->PSt->Option PSt
noncomputable def yp (i:Nat):XG:=fun x ρ=>some (ρ.set i (.val x))
def yzu:XGs:=fun xs ρ=>match xs with|[]=>some ρ|_=>none
def yjJ (g:XG) (r:XGs):XGs:=fun xs ρ=>match xs with|[]=>none|x::xs=>(g x ρ).bind fun ρ'=>r xs ρ'
def yGd (n:Nat) (g:XGs):XG:=fun x ρ=>match x with|.tup xs=>if xs.length=n then g xs ρ else none|_=>none
def ybs (e:XE) (g:XG):XS:=fun ρ h=>ob (e ρ h) fun x h1=>(g x ρ).bind fun ρ'=>some (.nx ρ',h1)
def yls (e:XO) (i:Nat):XS:=fun ρ h=>ob (e ρ h) fun d h1=>some (.nx (ρ.set i (.own d)),h1)
noncomputable def ytC:PVar->PVar
 | .own (.lst xs)=>.val (.lst xs)
 | .own (.ins k ns xs)=>.val (.ins k ns xs)
 | v=>v
def ymW (i:Nat) (ρ:PSt):PSt:=ρ.modify i ytC
def yvW (i:Nat) (s:XS):XS:=fun ρ h=>s (ymW i ρ) h
def yfW (i:Nat) (e:XE):XS:=fun ρ h=>match ρ[i]? with
 | some (.own (.lst xs))=>ob (e ρ h) fun x h1=>if xs.length<100000 then some (.nx (ρ.set i (.own (.lst (xs++[x])))),h1) else none
 | _=>none
def ydZ (g:XG) (s:XS):List PV->PSt->AH->Option (Out×AH)
 | [],ρ,h=>some (.nx ρ,h)
 | x::xs,ρ,h=>(g x ρ).bind fun ρ1=>ob (s ρ1 h) fun o h1=>match o with|.nx ρ'=>ydZ g s xs ρ' h1|.ct ρ'=>ydZ g s xs ρ' h1|.bk ρ'=>some (.nx ρ',h1)|.rt y=>some (.rt y,h1)
def yiS (it:XA) (g:XG) (s:XS):XS:=fun ρ h=>ob (it ρ h) fun xs h1=>ydZ g s xs ρ h1
def whl (c:XT) (s:XS):Nat->PSt->AH->Option (Out×AH)
 | 0,_,_=>none
 | n+1,ρ,h=>ob (c ρ h) fun k h1=>if k=true then ob (s ρ h1) fun o h2=>(match o with|.nx ρ'=>whl c s n ρ' h2|.ct ρ'=>whl c s n ρ' h2|.bk ρ'=>some (.nx ρ',h2)|.rt y=>some (.rt y,h2)) else some (.nx ρ,h1)
def yfo (fuel:Nat) (c:XT) (s:XS):XS:=fun ρ h=>whl c s fuel ρ h
def ybk (N:Nat) (s:XS):Fn:=fun xs h=>ob (s (xs.map .val++replicate (N-xs.length) .no) h) fun o h1=>match o with|.rt x=>some (x,h1)|.nx _=>some (.non,h1)|_=>none
noncomputable def yxw (ρ:PSt) (i:Nat):PVar:=match ρ[i]? with|some (.val y)=>.val y|_=>.no
def yfP (ix:List Nat) (ρ:PSt) (x:PV):PSt:=.val x::ix.map (yxw ρ)
def ygW (e:XE) (inn:PV->PSt):List PV->AH->Option (List PV×AH)
 | [],h=>some ([],h)
 | x::xs,h=>ob (e (inn x) h) fun y h1=>ob (ygW e inn xs h1) fun ys h2=>some (y::ys,h2)
def yel (it:XA) (ix:List Nat) (e:XE):XO:=fun ρ h=>ob (it ρ h) fun xs h1=>if xs.length<=100000 then ob (ygW e (yfP ix ρ) xs h1) fun ys h2=>some (.lst ys,h2) else none
theorem Ends.Ok.from_ {d W f:Wd}{D:Ends}{h':AH}{o:Out}(l:Lf K W f) (k:Ends.Ok K d W D h' o):Ends.Ok K d f D h' o:=by
 cases o with
 | nx ρ=>exact fun c b e l' g=>k c b e (l.trans l') g
 | bk ρ=>exact fun c b e l' g=>k c b e (l.trans l') g
 | ct ρ=>exact fun c b e l' g=>k c b e (l.trans l') g
 | rt x=>exact k
section
variable {ta tb:TE}{ea eb:XE}{t u:TS}{s s':XS}{tA:TT}{eA:XT}
theorem ytD:yeG K yzX yM:=by
 intro a W ρ σ D o h' g e q
 cases e
 exact q W σ rfl .refl g
theorem yxx (a:yeG K t s) (b:yeG K u s'):yeG K (yCV t u) (yl s s'):=by
 intro h W ρ σ D o h' g e q
 obtain ⟨o1,h1,i,d⟩:=yg e
 refine a h W ρ σ _ o1 h1 g i ?_
 cases o1 with
 | nx ρ'=>exact fun j f w l g'=>b h j ρ' f D o h' g' (by rw [w];exact d) (q.from_ l)
 | rt x=>cases d;exact q
 | bk ρ'=>cases d;exact q
 | ct ρ'=>cases d;exact q
theorem ytE (a:ybM K ta ea):yeG K (ypG ta) (yZ ea):=by
 intro j W ρ σ D o h' g e q
 obtain ⟨x,h1,d,i⟩:=yg e
 cases i
 exact a j W ρ σ _ x _ g d fun v f h c k=>q f σ h c.lf (g.step c)
theorem yxy (a:ybM K ta ea):yeG K (yEO ta) (yQ ea):=by
 intro d W ρ σ D o h' g e q
 obtain ⟨x,h1,k,i⟩:=yg e
 cases i
 exact a d W ρ σ _ x _ g k fun v f j h c=>q f v j (g.le.trans h) c
theorem yxz (c:ymo K tA eA) (a:yeG K t s) (b:yeG K u s'):yeG K (yEP tA t u) (ybD eA s s'):=by
 intro h W ρ σ D o h' g e q
 obtain ⟨k,h1,l,j⟩:=yg e
 refine c h W ρ σ _ k h1 g l fun i m f=>?_
 subst m
 cases k with
 | true =>
  exact a h i ρ σ D o h' (g.step f) j (q.from_ f.lf)
 | false =>
  exact b h i ρ σ D o h' (g.step f) j (q.from_ f.lf)
theorem Good.set {h W:Wd}{ρ:PSt}{σ:St}(g:Good K h W ρ σ) i {x:PV}{v:V}(r:ycC K W x v):Good K h W (ρ.set i (.val x)) (σ.set i (some v)) where
 le:=g.le
 len:=by simp [g.len]
 val:=fun j y e=>by
  by_cases b:i=j
  .subst b
   by_cases hl:i<ρ.length
   .rw [getElem?_set_self hl] at e
    cases e
    exact ⟨v,getElem?_set_self (by rw [g.len];exact hl),r⟩
   grind
  .rw [getElem?_set_ne b] at e
   obtain ⟨w,h1,h2⟩:=g.val j y e
   grind
 own:=fun j d e=>by
  by_cases b:i=j
  .grind
  .rw [getElem?_set_ne b] at e
   obtain ⟨p,h1,h2⟩:=g.own j d e
   simp_all
 ne:=fun j k d d' c m o=>by
  have f:∀ {j:Nat}{d:Nd},(ρ.set i (.val x))[j]?=some (.own d)->i≠j/\ρ[j]?=some (.own d):=fun {j d} e=>by
   grind
  obtain ⟨a1,a2⟩:=f m
  obtain ⟨n,l⟩:=f o
  rw [getElem?_set_ne a1,getElem?_set_ne n]
  exact g.ne j k d d' c a2 l
theorem Good.setO {h W:Wd}{ρ:PSt}{σ:St}(g:Good K h W ρ σ) (i:Nat) {d:Nd}{p:Addr}(o:p∉W.m) (v:h.H p=none) (r:d≠.dead) (c:NdAt K W.F W.H W.m d p)
  (ne:∀ j d',i≠j->ρ[j]?=some (.own d')->σ[j]?≠some (some (.ref p))):Good K h W (ρ.set i (.own d)) (σ.set i (some (.ref p))) where
 le:=g.le
 len:=by simp [g.len]
 val:=fun j y e=>by
  by_cases b:i=j
  .grind
  .rw [getElem?_set_ne b] at e
   obtain ⟨w,h1,h2⟩:=g.val j y e
   simp_all
 own:=fun j d' e=>by
  by_cases b:i=j
  .subst b
   by_cases hl:i<ρ.length
   .rw [getElem?_set_self hl] at e
    cases e
    exact ⟨p,getElem?_set_self (by rw [g.len];exact hl),o,v,r,c⟩
   grind
  .rw [getElem?_set_ne b] at e
   obtain ⟨p,h1,h2⟩:=g.own j d' e
   grind
 ne:=fun j k d1 d2 f m l=>by
  have n:∀ {j:Nat}{d':Nd},i=j->(ρ.set i (.own d))[j]?=some (.own d')->(σ.set i (some (.ref p)))[j]?=some (some (.ref p)):=fun {j d'} b e=>by
   subst b
   by_cases hl:i<ρ.length
   .exact getElem?_set_self (by rw [g.len];exact hl)
   grind
  by_cases b:i=j
  .grind
  .rw [getElem?_set_ne b]
   rw [getElem?_set_ne b] at m
   by_cases q:i=k
   .grind
   .rw [getElem?_set_ne q] at l ⊢
    exact g.ne j k d1 d2 f m l
def ypx (K:Ck) (g:TG) (y:XG):Prop:=∀ (W0 W:Wd) (ρ ρ':PSt) (σ:St) (x:PV) (v:V) (Q:St->Hp->Prop),Good K W0 W ρ σ->ycC K W x v->y x ρ=some ρ'->(∀ σ',Good K W0 W ρ' σ'->Q σ' W.H)->g v σ W.H Q
def yoT (K:Ck) (g:TGs) (y:XGs):Prop:=∀ (W0 W:Wd) (ρ ρ':PSt) (σ:St) (x:List PV) (v:List V) (Q:St->Hp->Prop),Good K W0 W ρ σ->ycy K W x v->y x ρ=some ρ'->(∀ σ',Good K W0 W ρ' σ'->Q σ' W.H)->g v σ W.H Q
theorem yeH i:ypx K (ypH i) (yp i):=by
 intro b W ρ ρ' σ x v Q g r e q
 cases e
 exact q _ (g.set i r)
theorem ytF:yoT K yER yzu:=by
 intro a W ρ ρ' σ x v Q g r e q
 cases x with
 | nil=>cases e;exact ⟨r,q _ g⟩
 | cons _ _=>cases e
theorem yqr {g:TG}{f:TGs}{y:XG}{ys:XGs}(a:ypx K g y) (b:yoT K f ys):yoT K (yzZ g f) (yjJ y ys):=by
 intro h W ρ ρ' σ x v Q j r e q
 cases x with
 | nil=>cases e
 | cons x xs =>
  obtain ⟨v1,vs,rfl,i,r2⟩:=r
  obtain ⟨ρ1,l,k⟩:=Option.bind_eq_some_iff.mp e
  exact ⟨v1,vs,rfl,a h W ρ ρ1 σ x v1 _ j i l fun d g'=>b h W ρ1 ρ' d xs vs Q g' r2 k q⟩
theorem yhD {g:TG}{y:XG}(a:ybM K ta ea) (b:ypx K g y):yeG K (yvD ta g) (ybs ea y):=by
 intro h W ρ σ D o h' f e q
 obtain ⟨x,h1,r,n⟩:=yg e
 obtain ⟨ρ',m,l⟩:=Option.bind_eq_some_iff.mp n
 cases l
 exact a h W ρ σ _ x _ f r fun v j p i k=>b h j ρ ρ' σ x v _ (f.step i) k m fun d g'=>q j d p i.lf g'
theorem ytG {o:XO} i (a:ymq K ta o):yeG K (yvD ta (ypH i)) (yls o i):=by
 intro l W ρ σ D o h' c e q
 obtain ⟨d,h1,n,v⟩:=yg e
 cases v
 refine a l W ρ σ _ d _ c n fun p r w g h x m f=>q r _ w g.lf ((c.step g).setO i h (c.le.fresh x) m f fun j d' y e hs=>?_)
 obtain ⟨z,h1,h2,_,_,k⟩:=c.own j d' e
 rw [h1] at hs
 have ⟨o,A⟩:=k.some
 grind
theorem Good.frz {A W:Wd}{ρ:PSt}{σ:St}(g:Good K A W ρ σ) (i:Nat):∃ c,c.h=W.h/\c.H=W.H/\Lf K W c/\Good K A c (ymW i ρ) σ:=by
 unfold ymW
 cases e:ρ[i]? with
 | none=>exact ⟨W,rfl,rfl,.refl,by rw [List.modify_eq_self (by simpa using e)];exact g⟩
 | some v =>
  have hl:i<ρ.length:=(List.getElem?_eq_some_iff.mp e).1
  have B:ρ.modify i ytC=ρ.set i (ytC v):=by
   apply List.ext_getElem?
   grind
  have b:ytC v=v->∃ c,c.h=W.h/\c.H=W.H/\Lf K W c/\Good K A c (ρ.modify i ytC) σ:=fun z=>⟨W,rfl,rfl,.refl,by
   rw [B,z]
   have:ρ.set i v=ρ:=by
    apply List.ext_getElem?
    grind
   rw [this];exact g⟩
  have I:∀ (d:Nd) (x:PV) (p:Addr) (o:HO),v=.own d->ytC v=.val x->σ[i]?=some (some (.ref p))->p∉W.m->A.H p=none->W.H p=some o->W.F p=none->(∀ (n:Hp),Same W.F n->n p=some o->Rep K n W.m x (.ref p)) ->
    ∃ c,c.h=W.h/\c.H=W.H/\Lf K W c/\Good K A c (ρ.modify i ytC) σ:=fun d x p o M C hs H J hp m L=>by
   obtain ⟨k,D⟩:=yqp (K:=K) g.ok hp H m
   have lf:Lf K W (yty W p o):=⟨D,prefix_refl _,fun _ _ _ e=>⟨e,fun _ _=>rfl⟩⟩
   refine ⟨yty W p o,rfl,rfl,lf,⟨ymT g.le hp H m J,by rw [List.length_modify];exact g.len,fun j y h=>?_,fun j d' h=>?_,fun N P d1 d2 l G F=>?_⟩⟩
   .rw [B,C] at h
    by_cases l:i=j
    .subst l
     rw [getElem?_set_self hl] at h
     cases h
     exact ⟨_,hs,L _ D yB⟩
    .rw [getElem?_set_ne l] at h
     obtain ⟨w,a1,a2⟩:=g.val j y h
     exact ⟨w,a1,lf.rep a2⟩
   .rw [B,C] at h
    by_cases l:i=j
    .grind
    .rw [getElem?_set_ne l] at h
     obtain ⟨q,a1,a2,a3,a4,a5⟩:=g.own j d' h
     have O:q≠p:=fun z=>g.ne j i d' d (fun z=>l z.symm) h (M ▸ e) (by rw [a1,hs,z])
     exact ⟨q,a1,a2,a3,a4,a5.mono D (prefix_refl _) (fun _ e=>e) fun f=>(yI O).trans f⟩
   .rw [B,C] at G F
    have f:∀ {j:Nat}{d:Nd},(ρ.set i (.val x))[j]?=some (.own d)->ρ[j]?=some (.own d):=fun {j d} e=>by
     grind
    exact g.ne N P d1 d2 l (f G) (f F)
  cases v with
  | no=>exact b rfl
  | val x=>exact b rfl
  | own d =>
   obtain ⟨p,a1,a2,a3,a4,a5⟩:=g.own i d e
   cases d with
   | lst xs =>
    obtain ⟨m,vs,hp,r⟩:=a5
    exact I _ (.lst xs) p _ rfl rfl a1 a2 a3 hp m fun n s E=>⟨p,vs,rfl,E,RepL.mono s (prefix_refl _) _ _ r⟩
   | dct ks xs=>exact b rfl
   | fz ks xs=>exact b rfl
   | ins k ns xs =>
    obtain ⟨m,Q,vs,hp,hl,r⟩:=a5
    exact I _ (.ins k ns xs) p _ rfl rfl a1 a2 a3 hp m fun n s E=>⟨p,Q,vs,rfl,E,hl,RepL.mono s (prefix_refl _) _ _ r⟩
   | dead=>exact b rfl
theorem yxA i (a:yeG K t s):yeG K t (yvW i s):=by
 intro d W ρ σ D o h' g e q
 obtain ⟨h,f,c,l,g'⟩:=g.frz i
 rw [<- c]
 exact a d h _ σ D o h' g' (by rw [f];exact e) (q.from_ l)
end
end PX
namespace PX
open PySem L2
variable {K:Ck}
section
variable {ta tb:TE}{ea eb:XE}{t u:TS}{s s':XS}{tA:TT}{eA:XT}
def ytH (W:Wd) (p:Addr) (o:HO):Wd:=⟨W.F,upd W.H p o,W.m,W.h⟩
theorem yxB {W:Wd}{p:Addr}{o:HO}(w:WOk K W) (h:p∉W.m) (j:W.F p=none):WOk K (ytH W p o):=by
 refine ⟨fun b u e=>?_,w.len,w.nd,fun n d a g f=>?_⟩
 .have:=ybr e j
  exact (yI this).trans (w.le _ _ e)
 .have i:a≠p:=fun z=>h (z ▸ mem_of_getElem? f)
  exact (w.at_ n d a g f).mono (Same.refl _) (prefix_refl _) (fun u e=>(yI i).trans e) id
theorem yjK {W d:Wd}{p:Addr}{o:HO}(l:Le K W d) (g:p∉d.m) (i:d.F p=none) (j:W.H p=none):Le K W (ytH d p o) :=
 ⟨yxB l.ok g i,l.fs,l.pre,fun b u e n=>(yI (ybr e j)).trans (l.keep b u e n),l.new,l.mn,fun n ks xs f=>⟨(l.fz n ks xs f).1,fun a h=>(yI fun (z:a=p)=>g (z ▸ mem_of_getElem? (ydS l.pre h))).trans ((l.fz n ks xs f).2 a h)⟩⟩
theorem yqs {W c:Wd}{p:Addr}{o:HO}(l:Le K W c) (f:p∉c.m):Lf K W (ytH c p o) :=
 ⟨l.fs,l.pre,fun n ks xs e=>⟨(l.fz n ks xs e).1,fun a d=>(yI fun (z:a=p)=>f (z ▸ mem_of_getElem? (ydS l.pre d))).trans ((l.fz n ks xs e).2 a d)⟩⟩
theorem Good.mut {k W:Wd}{ρ:PSt}{σ:St}(g:Good K k W ρ σ) {i:Nat}{d d':Nd}{p:Addr}{o:HO}(e:ρ[i]?=some (.own d)) (hs:σ[i]?=some (some (.ref p))) (m:p∉W.m) (l:k.H p=none) (A:W.F p=none) (D:d'≠.dead)
  (h:NdAt K W.F (upd W.H p o) W.m d' p):Good K k (ytH W p o) (ρ.set i (.own d')) σ:=by
 have hl:=(List.getElem?_eq_some_iff.mp e).1
 refine ⟨yjK g.le m A l,by rw [length_set];exact g.len,fun j y b=>?_,fun j d1 b=>?_,fun B w d1 d2 c x v=>?_⟩
 .by_cases c:i=j
  .simp_all
  .rw [getElem?_set_ne c] at b;exact g.val j y b
 .by_cases c:i=j
  .subst c;rw [getElem?_set_self hl] at b;cases b;exact ⟨p,hs,m,l,D,h⟩
  .rw [getElem?_set_ne c] at b
   obtain ⟨q,a1,a2,a3,a4,a5⟩:=g.own j d1 b
   have r:q≠p:=fun z=>g.ne j i d1 d (fun z=>c z.symm) b e (by rw [a1,hs,z])
   exact ⟨q,a1,a2,a3,a4,a5.mono (Same.refl _) (prefix_refl _) (fun u e=>(yI r).trans e) id⟩
 .have f:∀ {j:Nat}{d1:Nd},(ρ.set i (.own d'))[j]?=some (.own d1)->∃ d2,ρ[j]?=some (.own d2):=fun {j d1} b=>by
   grind
  have ⟨_,n⟩:=f x
  obtain ⟨_,C⟩:=f v
  exact g.ne B w _ _ c n C
theorem big {n:Nat}(h:n<100000):n<sizeLine:=lt_of_lt_of_le h (by decide)
theorem yxC {n:Nat}(h:n<=100000):n<=sizeLine:=Nat.le_trans h (by decide)
theorem ytI i (a:ybM K ta ea):yeG K (ypG (tBM K.K "list" ymC (ypw i) (ymz ta yvK))) (yfW i ea):=by
 intro y W ρ σ D o h' g e q
 unfold yfW at e
 split at e
 .rename_i E h
  obtain ⟨x,h1,C,f⟩:=yg e
  split at f
  .rename_i c
   cases f
   obtain ⟨p,a1,a2,a3,a4,J,vs,hp,r⟩:=g.own i _ h
   refine ⟨_,a1,.inl ⟨rfl,_,SqL.of hp⟩,?_⟩
   refine a y W ρ σ _ x _ g C fun v F w d A=>⟨p,vs,v,rfl,rfl,d.keep _ _ hp a2,by rw [r.len];exact big c,?_⟩
   have j:=g.step d
   obtain ⟨I,m,l,H,L,n,G,k,B⟩:=j.own i _ h
   rw [a1] at m
   cases m
   rw [d.keep _ _ hp a2] at k
   cases k
   exact q (ytH F p _) σ w (yqs d l) (j.mut h a1 l H n (fun z=>by cases z) ⟨n,_,yB,B.snoc A⟩)
  .cases f
 .cases e
structure yCE (K:Ck) (W:Wd) (J:It) (xs:List PV):Prop where
 go:∀ (i:Nat) (W':Wd),Lf K W W'->WOk K W'->i<xs.length->J.go i W'.H
 yld:∀ (i:Nat) (W':Wd) (v:V) (H2:Hp),Lf K W W'->WOk K W'->i<xs.length->J.yld i W'.H v H2->H2=W'.H/\∃ x,xs[i]?=some x/\ycC K W' x v
 stop:∀ (W':Wd),Lf K W W'->WOk K W'->J.stop xs.length W'.H
def yxD (K:Ck) (wi:TI) (e:XA):Prop:=∀ (W0 W:Wd) (ρ:PSt) (σ:St) (R:It->Hp->Prop) (xs:List PV) (h':AH),Good K W0 W ρ σ->e ρ W.h=some (xs,h')->(∀ J W',W'.h=h'->Le K W W'->yCE K W' J xs->R J W'.H)->wi σ W.H R
def xIL (e:XE):XA:=fun ρ h=>ob (e ρ h) fun x h1=>match x with|.lst xs=>some (xs,h1)|.scr ns=>some (ns.map .int,h1)|_=>none
noncomputable def sgn (c:Nat):PV:=.str ⟨#[c]⟩
def xIS (e:XE):XA:=fun ρ h=>ob (e ρ h) fun x h1=>match x with|.str z=>if z.length<=100000 then some (z.cps.toList.map sgn,h1) else none|_=>none
noncomputable def ygJ (lo:Int) (n:Nat):List PV:=(List.range n).map fun (k:Nat)=>.int (lo+(k:Int))
def yiT (a:XA):XA:=fun ρ h=>ob (a ρ h) fun xs h1=>match xs with|[.int j]=>if -1000000000<=j/\j<=1000000000 then some (ygJ 0 j.toNat,h1) else none|_=>none
theorem yfA {W:Wd}(w:WOk K W) {a:Addr}{vs:List V}(h:SqL K.K W.F a vs):SqL K.K W.H a vs:=Same.seq w.le h
theorem ydj {W:Wd}(w:WOk K W) {a:Addr}{vs:List V}(h:TpAt K.K W.F a vs):SqT K.K W.H a vs:=h.elim (fun h=>SqT.of (w.le _ _ h)) .inr
theorem yqt (a:ybM K ta ea):yxD K (ysZ K.K ta) (xIL ea):=by
 intro A W ρ σ R xs h' g e q
 obtain ⟨x,h1,r,f⟩:=yg e
 refine a A W ρ σ _ x h1 g r fun v c z n h=>?_
 have key:∀ a vs,v=.ref a->SqL K.K c.F a vs->RepL K c.F c.m xs vs->h1=h'->∃ a,v=.ref a/\(∃ xs,SqL K.K c.H a xs)/\R (Itl K.K a) c.H:=fun a vs ev hs d o=>by
  subst o
  refine ⟨a,ev,⟨vs,yfA n.ok hs⟩,q _ c z n ⟨fun i m l w k=>?_,fun i m j C l w k y=>?_,fun m l w=>?_⟩⟩
  .obtain ⟨j,h1,_⟩:=d.get (List.getElem?_eq_getElem k)
   exact ⟨vs,j,yfA w (Same.seq l.fs hs),h1⟩
  .obtain ⟨h1,h2⟩:=y
   have:=h2 vs (yfA w (Same.seq l.fs hs))
   obtain ⟨x,B,p⟩:=d.get' this
   exact ⟨h1,x,B,l.rep p⟩
  .exact ⟨vs,yfA w (Same.seq l.fs hs),by rw [d.len];exact Nat.le_refl _⟩
 split at f
 .cases f
  obtain ⟨a,vs,ev,hs,d⟩:=h
  exact key a vs ev (SqL.of hs) d rfl
 .rename_i ns
  cases f
  obtain ⟨a,ev,hs⟩:=h
  exact key a _ ev hs (RepL.of_ints ns) rfl
 .cases f
theorem ytJ (a:ybM K ta ea):yxD K (yFg ta) (xIS ea):=by
 intro n W ρ σ R xs h' g e q
 obtain ⟨x,h1,m,d⟩:=yg e
 refine a n W ρ σ _ x h1 g m fun v o p k h=>?_
 split at d
 .rename_i z
  split at d
  .rename_i hz
   cases d
   have hl:z.length=z.cps.toList.length:=by simp [Str.length]
   refine ⟨z,h,yxC hz,q _ o p k ⟨fun i f l w y=>?_,fun i f A B l w y r=>?_,fun f l w=>?_⟩⟩
   .show i<z.length
    simp_all
   .obtain ⟨h1,c,h2,j⟩:=r
    exact ⟨h1,sgn c,by rw [getElem?_map,h2];rfl,j⟩
   .show _=z.length
    rw [hl];simp
  .cases d
 .cases d
theorem yAu W d n:yCE K W (Itr d n) (ygJ d n):=by
 refine ⟨fun i c l w b=>?_,fun i c f g l w b e=>?_,fun c l w=>?_⟩
 .show i<n
  simpa [ygJ] using b
 .obtain ⟨h1,h2⟩:=e
  have b:=by simpa [ygJ] using b
  exact ⟨h1,.int _,by simp [ygJ,b],h2⟩
 .show n<=_
  simp [ygJ]
theorem yqu {t:TA}{e:XA}(a:ymp K t e):yxD K (yAb t) (yiT e):=by
 intro n W ρ σ R xs h' g e q
 obtain ⟨ys,h1,h,c⟩:=yg e
 split at c
 .rename_i j
  split at c
  .cases c
   refine a n W ρ σ _ _ _ g h fun vs d l i f=>?_
   obtain ⟨v,r,rfl,m,k⟩:=f
   obtain rfl:r=[]:=k
   exact ⟨j,by rw [m],by omega,by omega,q _ d l i (yAu d 0 _)⟩
  .cases c
 .cases c
theorem yxE {O:TI}{N:XA}{g:TG}{y:XG}(a:yxD K O N) (b:ypx K g y) (c:yeG K t s):yeG K (yAc O g t) (yiS N y s):=by
 intro A W ρ σ D o h' I e q
 obtain ⟨xs,h1,R,U⟩:=yg e
 refine a A W ρ σ _ xs h1 I R fun J G Q M E=>?_
 subst Q
 have F:=q.from_ M.lf
 refine ⟨fun i m σ H=>m=xs.length-i/\i<=xs.length/\∃ j ρ',j.H=H/\Lf K G j/\Good K A j ρ' σ/\ydZ y s (xs.drop i) ρ' j.h=some _,⟨_,rfl,zero_le _,G,ρ,rfl,.refl,I.step M,by simpa using U⟩,?_⟩
 rintro i m σ _ ⟨rfl,Z,j,ρ',rfl,l,g',f⟩
 by_cases h:i<xs.length
 .rw [List.drop_eq_getElem_cons h] at f
  obtain ⟨ρ1,k1,f⟩:=Option.bind_eq_some_iff.mp f
  obtain ⟨o1,h2,k2,C⟩:=yg f
  refine .inr ⟨E.go i j l g'.ok h,fun n B=>i+1<=xs.length/\∃ k ρ2,k.H=B/\Lf K G k/\Good K A k ρ2 n/\ydZ y s _ ρ2 k.h=some _,fun n B ⟨P,X⟩=>⟨_,by omega,rfl,P,X⟩,fun v B T=>?_⟩
  obtain ⟨rfl,x,L,Y⟩:=E.yld i j v B l g'.ok h T
  rw [List.getElem?_eq_getElem h] at L
  cases L
  refine b A j ρ' ρ1 σ _ v _ g' Y k1 fun n S=>?_
  refine c A j ρ1 n _ o1 h2 S k2 ?_
  cases o1 with
  | nx ρ2=>exact fun k p z w r=>⟨h,k,ρ2,rfl,l.trans w,r,by rw [z];exact C⟩
  | ct ρ2=>exact fun k p z w r=>⟨h,k,ρ2,rfl,l.trans w,r,by rw [z];exact C⟩
  | bk ρ2=>cases C;exact fun k p z w r=>F k p z (l.trans w) r
  | rt x=>cases C;exact F
 .have ei:i=xs.length:=by omega
  subst ei
  refine .inl ⟨E.stop j l g'.ok,?_⟩
  rw [List.drop_length] at f
  cases f
  exact F j σ rfl l g'
theorem yqv n (c:ymo K tA eA) (a:yeG K t s):yeG K (yvG tA t) (yfo n eA s):=by
 intro y W ρ σ D o h' F e q
 refine ⟨fun m σ H=>∃ g ρ',g.H=H/\Lf K W g/\Good K y g ρ' σ/\whl eA s m ρ' g.h=some _,⟨n,W,ρ,rfl,.refl,F,e⟩,?_⟩
 rintro m σ _ ⟨g,ρ',rfl,l,g',f⟩
 cases m with
 | zero=>cases f
 | succ m =>
  obtain ⟨k,h1,E,r⟩:=yg f
  refine c y g ρ' σ _ k h1 g' E fun A C v=>?_
  subst C
  cases k with
  | false =>
   rw [if_neg (by decide)] at r ⊢
   cases r
   exact q A σ rfl (l.trans v.lf) (g'.step v)
  | true =>
   rw [if_pos rfl] at r ⊢
   obtain ⟨o1,h2,k2,w⟩:=yg r
   refine ⟨_,fun B G z=>⟨m,Nat.lt_succ_self _,z⟩,?_⟩
   refine a y A ρ' σ _ o1 h2 (g'.step v) k2 ?_
   have l':=l.trans v.lf
   cases o1 with
   | nx ρ2=>exact fun h d i p j=>⟨h,ρ2,rfl,l'.trans p,j,by rw [i];exact w⟩
   | ct ρ2=>exact fun h d i p j=>⟨h,ρ2,rfl,l'.trans p,j,by rw [i];exact w⟩
   | bk ρ2=>cases w;exact fun h d i p j=>q h d i (l'.trans p) j
   | rt x=>cases w;exact q
theorem yqw {e:XE}{inn:PV->PSt}:∀ {xs:List PV}{h:AH}{ys:List PV}{h':AH},ygW e inn xs h=some (ys,h')->ys.length=xs.length
 | [],_,_,_,e=>by cases e;rfl
 | x::xs,_,_,_,e=>by
  obtain ⟨y,h1,f,d⟩:=yg e
  obtain ⟨ys,h2,b,c⟩:=yg d
  cases c
  rw [length_cons,length_cons,yqw b]
theorem yjL {c W b:Wd}{ρ:PSt}{σ:St}(g:Good K c W ρ σ) (l:Le K W b) ix {x:PV}{v:V}(r:ycC K b x v):Good K b b (yfP ix ρ x) (inner ix σ v) where
 le:=.refl l.ok
 len:=by simp [yfP,inner]
 val:=fun j y e=>by
  cases j with
  | zero=>simp [yfP] at e;subst e;exact ⟨v,rfl,r⟩
  | succ j =>
   have e:(ix.map (yxw ρ))[j]?=some _:=e
   rw [getElem?_map] at e
   cases ei:ix[j]? with
   | none=>simp_all
   | some i =>
    rw [ei] at e
    have e:=Option.some.inj e
    unfold yxw at e
    split at e
    .rename_i z hz
     cases e
     obtain ⟨w,h1,h2⟩:=g.val i _ hz
     exact ⟨w,by show (ix.map _)[j]?=_;simp_all,l.rep h2⟩
    .cases e
 own:=fun j d e=>by
  cases j with
  | zero=>simp [yfP] at e
  | succ j =>
   have e:(ix.map (yxw ρ))[j]?=some _:=e
   rw [getElem?_map] at e
   cases ei:ix[j]? with
   | none=>simp_all
   | some i =>
    rw [ei] at e
    have e:=Option.some.inj e
    unfold yxw at e
    split at e<;>cases e
 ne:=fun j k d d' _ e _=>by
  cases j with
  | zero=>simp [yfP] at e
  | succ j =>
   have e:(ix.map (yxw ρ))[j]?=some _:=e
   rw [getElem?_map] at e
   cases ei:ix[j]? with
   | none=>simp_all
   | some i =>
    rw [ei] at e
    have e:=Option.some.inj e
    unfold yxw at e
    split at e<;>cases e
theorem yjM {P:TI}{S:XA} ix (a:yxD K P S) (b:ybM K ta ea):ymq K (yoN P ix ta) (yel S ix ea):=by
 intro W0 W ρ σ Q d h' M e q
 obtain ⟨xs,h1,e1,G⟩:=yg e
 split at G
 .obtain ⟨O,h2,U,f2⟩:=yg G
  cases f2
  refine a W0 W ρ σ _ xs h1 M e1 fun J Z w1 n E=>?_
  subst w1
  intro D p
  have nm:=n.ok.out p
  have T:=n.ok.ff p
  refine ⟨fun i m H=>m=xs.length-i/\i<=xs.length/\∃ h k g rest,h.H=H/\Le K Z h/\D∉h.m/\h.F D=none/\H D=some (.lst k)/\ycy K h g k/\g.length=i/\O=g++rest/\ygW ea _ (xs.drop i) h.h=some (rest,h'),⟨_,rfl,zero_le _,_,[],[],O,rfl,ycE n.ok p,nm,T,yB,rfl,rfl,rfl,by exact U⟩,?_⟩
  rintro i m _ ⟨rfl,hi,h,k,g,rest,rfl,l,C,R,o,F,ld,I,f⟩
  by_cases j:i<xs.length
  .rw [List.drop_eq_getElem_cons j] at f
   obtain ⟨y,Y,k1,f3⟩:=yg f
   obtain ⟨ys,h4,k2,f4⟩:=yg f3
   cases f4
   refine .inr ⟨E.go i h l.lf l.ok j,fun v H2 X=>?_⟩
   obtain ⟨rfl,x,N,rx⟩:=E.yld i h v H2 l.lf l.ok j X
   rw [List.getElem?_eq_getElem j] at N
   cases N
   refine b h h _ _ _ y Y (yjL M (n.trans l) ix rx) k1 fun w L w2 r r2=>?_
   have B:D∉L.m:=fun z=>by rw [r.mn D z C] at o;cases o
   have A:=r.new D _ o C R
   refine ⟨k,r.keep _ _ o C,?_,_,by omega,rfl,j,_,_,_,ys,rfl,yjK (l.trans r) B A p,B,A,yB,(r.repL F).snoc r2,by simp [ld],by simp [I],?_⟩
   .rw [F.len];exact big (by omega)
   .show ygW ea _ _ L.h=some _
    rw [w2];exact k2
  .have ei:i=xs.length:=by omega
   subst ei
   rw [List.drop_length] at f
   cases f
   refine .inl ⟨E.stop h l.lf l.ok,?_⟩
   rw [append_nil] at I
   subst I
   exact q D h rfl (n.trans l) C (n.fresh p) (fun z=>by cases z) ⟨R,k,o,F⟩
 .cases G
theorem ygx {W:Wd}(w:WOk K W) {N:List Str}{xs:List PV}{vs:List V}(r:ycy K W xs vs):Good K W W (xs.map .val++replicate (N.length-xs.length) .no) (L2.start N vs) where
 le:=.refl w
 len:=by simp [L2.start,r.len]
 val:=fun j y e=>by
  by_cases b:j<xs.length
  .rw [getElem?_append_left (by simpa using b),getElem?_map,List.getElem?_eq_getElem b] at e
   cases e
   obtain ⟨v,h1,h2⟩:=r.get (List.getElem?_eq_getElem b)
   refine ⟨v,?_,h2⟩
   unfold L2.start
   rw [getElem?_append_left (by simp [r.len,b]),getElem?_map,h1];rfl
  .rw [getElem?_append_right (by simp;omega),getElem?_replicate] at e
   split at e<;>cases e
 own:=fun j d e=>by
  by_cases b:j<xs.length
  .rw [getElem?_append_left (by simpa using b),getElem?_map,List.getElem?_eq_getElem b] at e
   cases e
  .rw [getElem?_append_right (by simp;omega),getElem?_replicate] at e
   split at e<;>cases e
 ne:=fun j k d d' _ e _=>by
  by_cases b:j<xs.length
  .rw [getElem?_append_left (by simpa using b),getElem?_map,List.getElem?_eq_getElem b] at e
   cases e
  .rw [getElem?_append_right (by simp;omega),getElem?_replicate] at e
   split at e<;>cases e
theorem ytK {N:List Str}{n:Nat}{vs:List V}{H:Hp}{Q:VK}{E:XK}{bk ct:St->Hp->Prop}(a:yeG K t s) (h:spE K n (ybk N.length s) vs H Q E):t ⟨fun _ k=>Q .non k,Q,bk,ct⟩ (L2.start N vs) H:=by
 obtain ⟨W,xs,x,h',rfl,w,r,_,e,q⟩:=h
 obtain ⟨o,h1,m,c⟩:=yg e
 refine a W W _ _ _ o h1 (ygx w r) m ?_
 cases o with
 | rt y=>cases c;exact fun f v d l i=>q v f d l i
 | nx ρ=>cases c;exact fun f j d _ g=>q _ f d g.le rfl
 | bk ρ=>cases c
 | ct ρ=>cases c
theorem yxF {n:Nat}{f:Fn}{vs:List V}{H:Hp}{Q:VK}{E:XK}(h:spE K n f vs H Q E):vs.length=n:=by
 obtain ⟨W,xs,x,h',rfl,w,r,a,_⟩:=h
 rw [r.len,a]
end
end PX
namespace PX
open PySem L2
variable {K:Ck}
def oI (g:Int->Int->PV):P2:=fun x y h=>match x,y with|.int i,.int j=>some (g i j,h)|_,_=>none
def oIc (C:Int->Int->Prop) [∀ i j,Decidable (C i j)] (g:Int->Int->PV):P2:=fun x y h=>match x,y with|.int i,.int j=>if C i j then some (g i j,h) else none|_,_=>none
abbrev yfi:P2:=oI fun i j=>.int (i+j)
abbrev yvX:P2:=oI fun i j=>.int (i-j)
noncomputable def MulOk (i j:Int):Prop:=(-18446744073709551616<i/\i<18446744073709551616)\/(-18446744073709551616<j/\j<18446744073709551616)
instance (i j:Int):Decidable (MulOk i j):=by unfold MulOk;infer_instance
noncomputable def PowOk (i j:Int):Prop:=(0<=i/\i<18446744073709551616)/\0<=j/\j<=1000000
instance (i j:Int):Decidable (PowOk i j):=by unfold PowOk;infer_instance
abbrev yxG:P2:=oIc MulOk fun i j=>.int (i*j)
abbrev oDiv:P2:=oIc (fun _ j=>0<j/\j<1073741824) fun i j=>.int (i/j)
abbrev oMod:P2:=oIc (fun _ j=>0<j) fun i j=>.int (i%j)
abbrev yCF:P2:=oIc PowOk fun i j=>.int (i ^ j.toNat)
abbrev oLt:P2:=oI fun i j=>.bl (decide (i<j))
abbrev oLe:P2:=oI fun i j=>.bl (decide (i<=j))
abbrev oGt:P2:=oI fun i j=>.bl (decide (j<i))
abbrev oGe:P2:=oI fun i j=>.bl (decide (j<=i))
noncomputable abbrev ytL:PV->AH->Option (PV×AH):=fun x h=>match x with|.int i=>some (.int (-i),h)|_=>none
theorem yzv {g:Int->Int->PV}{b:Int->Int->V}(h:∀ W i j,ycC K W (g i j) (b i j)):yci K (rI0 b) (oI g):=by
 intro W x y v u Q z h' w d c e q
 unfold oI at e
 split at e
 .rename_i i j
  cases e
  exact ⟨i,j,d,c,q _ W rfl (.refl w) (h W i j)⟩
 .cases e
theorem ytM {C:Int->Int->Prop} [∀ i j,Decidable (C i j)] {b:Int->Int->Prop}{g:Int->Int->PV}{d:Int->Int->V}(f:∀ i j,C i j->b i j) (h:∀ W i j,ycC K W (g i j) (d i j)):yci K (rI b d) (oIc C g):=by
 intro W x y v u Q z h' w l k e q
 unfold oIc at e
 split at e
 .rename_i i j
  split at e
  .rename_i c
   cases e
   exact ⟨i,j,l,k,f i j c,q _ W rfl (.refl w) (h W i j)⟩
  .cases e
 .cases e
theorem ydn:yci K yDk yfi:=yzv fun _ _ _=>rfl
theorem yqx:yci K yDl yvX:=yzv fun _ _ _=>rfl
theorem yqy:yci K yDm yxG:=ytM (fun i j h=>by exact h) fun _ _ _=>rfl
theorem yjN:yci K yDn oDiv:=ytM (fun i j h=>h) fun _ _ _=>rfl
theorem ydq:yci K yDo oMod:=ytM (fun i j h=>h) fun _ _ _=>rfl
theorem yxH:yci K yDp yCF:=ytM (fun i j h=>by unfold yDa;unfold PowOk at h;omega) fun _ _ _=>rfl
theorem ytN:yci K yFA oLt:=yzv fun _ _ _=>rfl
theorem yqz:yci K yFB oLe:=yzv fun _ _ _=>rfl
theorem yCG:yci K yFC oGt:=yzv fun _ _ _=>rfl
theorem yFF:yci K yFD oGe:=yzv fun _ _ _=>rfl
theorem yjO:yxj K yDq ytL:=by
 intro W x v Q z h' w b e q
 unfold ytL at e
 split at e
 .rename_i i
  cases e
  exact ⟨i,b,q _ W rfl (.refl w) rfl⟩
 .cases e
noncomputable def sv:PV->Option V
 | .non=>some .non
 | .bl b=>some (.bl b)
 | .int i=>some (.int i)
 | .str s=>some (.str s)
 | _=>none
theorem yfp {W:Wd}{x:PV}{v u:V}(e:sv x=some u) (r:ycC K W x v):v=u:=by
 cases x<;>cases e<;>exact r
def oEq:P2:=fun x y h=>match sv x,sv y with|some v,some u=>if yvH v u=true then some (.bl (decide (v=u)),h) else none|_,_=>none
def oNe:P2:=fun x y h=>match sv x,sv y with|some v,some u=>if yvH v u=true then some (.bl (!decide (v=u)),h) else none|_,_=>none
theorem ycP:yci K rEq oEq:=by
 intro W x y v u Q z h' w f d e q
 unfold oEq at e
 split at e
 .rename_i h i b g
  obtain rfl:=yfp b f
  obtain rfl:=yfp g d
  split at e
  .rename_i c
   cases e
   exact ⟨c,q _ W rfl (.refl w) rfl⟩
  .cases e
 .cases e
theorem ynQ:yci K rNe oNe:=by
 intro W x y v u Q z h' w f d e q
 unfold oNe at e
 split at e
 .rename_i h i b g
  obtain rfl:=yfp b f
  obtain rfl:=yfp g d
  split at e
  .rename_i c
   cases e
   exact ⟨c,q _ W rfl (.refl w) rfl⟩
  .cases e
 .cases e
noncomputable def isN:PV->Bool
 | .non=>true
 | _=>false
def yxI:P2:=fun x y h=>match y with|.non=>some (.bl (isN x),h)|_=>none
def ytO:P2:=fun x y h=>match y with|.non=>some (.bl (!isN x),h)|_=>none
theorem yqA {W:Wd}{x:PV}{v:V}(r:ycC K W x v):decide (v=.non)=isN x:=by
 cases x with
 | non=>rw [r];rfl
 | bl b=>rw [r];rfl
 | int b=>rw [r];rfl
 | str b=>rw [r];rfl
 | ty b=>rw [r];rfl
 | cls b=>rw [r];rfl
 | scr b=>obtain ⟨a,e,_⟩:=r;rw [e];rfl
 | lst b=>obtain ⟨a,_,e,_⟩:=r;rw [e];rfl
 | tup b=>obtain ⟨a,_,e,_⟩:=r;rw [e];rfl
 | ins k n b=>obtain ⟨a,_,_,e,_⟩:=r;rw [e];rfl
 | loc n=>obtain ⟨a,e,_⟩:=r;rw [e];rfl
 | exc n=>obtain ⟨a,e,_⟩:=r;rw [e];rfl
 | xcl n=>rw [r];rfl
theorem ytP:yci K yFE yxI:=by
 intro W x y v u Q z h' w c b e q
 unfold yxI at e
 split at e
 .cases e
  exact ⟨b,by rw [yqA c];exact q _ W rfl (.refl w) rfl⟩
 .cases e
theorem yAv:yci K yDs ytO:=by
 intro W x y v u Q z h' w c b e q
 unfold ytO at e
 split at e
 .cases e
  exact ⟨b,by rw [yqA c];exact q _ W rfl (.refl w) rfl⟩
 .cases e
def ycQ:P2:=fun x y h=>match x,y with|.str i,.str j=>if i.length+j.length<=100000 then some (.str (i++j),h) else none|_,_=>none
theorem yct:yci K yDr ycQ:=by
 intro W x y v u Q z h' w d b e q
 unfold ycQ at e
 split at e
 .rename_i i j
  split at e
  .rename_i c
   cases e
   exact ⟨i,j,d,b,yxC c,q _ W rfl (.refl w) rfl⟩
  .cases e
 .cases e
def yCH:P2:=fun x y h=>match x,y with|.str s,.str j=>(match s.cps.toList with|[c]=>some (.bl (decide (c∈j.cps.toList)),h)|_=>none)|_,_=>none
theorem one_sign {s:Str}{c:Nat}(h:s.cps.toList=[c]):s=⟨#[c]⟩:=by
 obtain ⟨⟨l⟩⟩:=s
 grind
theorem yAw:yci K yFd yCH:=by
 intro W x y v u Q z h' w f d e q
 unfold yCH at e
 split at e
 .rename_i s j
  split at e
  .rename_i c b
   cases e
   exact ⟨c,j,by rw [<- one_sign b];exact f,d,q _ W rfl (.refl w) rfl⟩
  .cases e
 .cases e
def ybC:P2:=fun x y h=>match y with
 | .int i=>(match x with
  | .lst xs=>(match atI xs i with|some v=>some (v,h)|none=>none)
  | .scr ns=>(match atI ns i with|some v=>some (.int v,h)|none=>none)
  | .loc n=>(match h[n]? with|some (.lst xs)=>(match atI xs i with|some v=>some (v,h)|none=>none)|_=>none)
  | _=>none)
 | _=>none
def ybc:P2:=fun x y h=>match x,y with|.tup xs,.int i=>(match atI xs i with|some v=>some (v,h)|none=>none)|_,_=>none
def yAx:P2:=fun x y h=>match x,y with|.str s,.int i=>(match atI s.cps.toList i with|some c=>if s.length<=100000 then some (sgn c,h) else none|none=>none)|_,_=>none
theorem RepL.at {F:Hp}{m:List Addr}{xs:List PV}{vs:List V}(r:RepL K F m xs vs) {i:Int}{x:PV}(e:atI xs i=some x):∃ v,atI vs i=some v/\Rep K F m x v:=by
 unfold atI at e ⊢
 rw [r.len]
 obtain ⟨j,b,a⟩:=Option.bind_eq_some_iff.mp e
 rw [b]
 exact r.get a
theorem WOk.loc {W:Wd}(w:WOk K W) {n:Nat}{d:Nd}{v:V}(e:W.h[n]?=Option.some d) (r:ycC K W (.loc n) v):∃ a,v=.ref a/\W.m[n]?=Option.some a/\NdAt K W.F W.H W.m d a:=by
 obtain ⟨a,c,h⟩:=r
 exact ⟨a,c,h,w.at_ n d a e h⟩
theorem ybW:yci K (yDf K.K) ybC:=by
 intro W x y v u Q z h' w h d e q
 unfold ybC at e
 split at e
 .rename_i i
  split at e
  .split at e
   .rename_i y c
    cases e
    obtain ⟨a,vs,ev,hs,f⟩:=h
    obtain ⟨g,h1,h2⟩:=f.at c
    exact ⟨a,vs,i,g,ev,d,SqL.of (w.le _ _ hs),h1,q _ W rfl (.refl w) h2⟩
   .cases e
  .rename_i ns
   split at e
   .rename_i y c
    cases e
    obtain ⟨a,ev,hs⟩:=h
    refine ⟨a,_,i,_,ev,d,yfA w hs,?_,q _ W rfl (.refl w) rfl⟩
    unfold atI at c ⊢
    rw [length_map]
    obtain ⟨j,k,n⟩:=Option.bind_eq_some_iff.mp c
    rw [k]
    show (ns.map V.int)[j]?=_
    simp_all
   .cases e
  .split at e
   .rename_i xs l
    split at e
    .rename_i y c
     cases e
     obtain ⟨a,ev,o,m,vs,hp,f⟩:=w.loc l h
     obtain ⟨g,h1,h2⟩:=f.at c
     exact ⟨a,vs,i,g,ev,d,SqL.of hp,h1,q _ W rfl (.refl w) h2⟩
    .cases e
   .cases e
  .cases e
 .cases e
theorem yS:yci K (yDg K.K) ybc:=by
 intro W x y v u Q z h' w h g e q
 unfold ybc at e
 split at e
 .rename_i xs i
  split at e
  .rename_i y d
   cases e
   obtain ⟨a,vs,ev,hs,c⟩:=h
   obtain ⟨f,h1,h2⟩:=c.at d
   exact ⟨a,vs,i,f,ev,g,ydj w hs,h1,q _ W rfl (.refl w) h2⟩
  .cases e
 .cases e
theorem yDx:yci K yDh yAx:=by
 intro W x y v u Q z h' w f d e q
 unfold yAx at e
 split at e
 .rename_i s i
  split at e
  .rename_i c b
   split at e
   .rename_i hl
    cases e
    exact ⟨s,i,c,f,d,yxC hl,b,q _ W rfl (.refl w) rfl⟩
   .cases e
  .cases e
 .cases e
noncomputable def ymX {α:Type}(xs:List α) (lo hi:Option Int):List α:=(xs.drop (HT.sIx xs.length 0 lo)).take (HT.sIx xs.length xs.length hi-HT.sIx xs.length 0 lo)
noncomputable def listOf (x:PV) (h:AH):Option (List PV):=match x with|.lst xs=>some xs|.scr ns=>some (ns.map .int)|.loc n=>(match h[n]? with|some (.lst xs)=>some xs|_=>none)|_=>none
theorem ygy {W:Wd}(w:WOk K W) {x:PV}{v:V}{xs:List PV}(e:listOf x W.h=some xs) (r:ycC K W x v):∃ a vs,v=.ref a/\SqL K.K W.H a vs/\ycy K W xs vs:=by
 unfold listOf at e
 split at e
 .cases e
  obtain ⟨a,vs,ev,hs,c⟩:=r
  exact ⟨a,vs,ev,SqL.of (w.le _ _ hs),c⟩
 .rename_i ns
  cases e
  obtain ⟨a,ev,hs⟩:=r
  exact ⟨a,_,ev,yfA w hs,RepL.of_ints ns⟩
 .split at e
  .rename_i ys d
   cases e
   obtain ⟨a,ev,f,g,vs,hp,c⟩:=w.loc d r
   exact ⟨a,vs,ev,SqL.of hp,c⟩
  .cases e
 .cases e
noncomputable def ybE (x:PV) (h:AH):Option (List PV):=match x with|.lst xs=>some xs|.loc n=>(match h[n]? with|some (.lst xs)=>some xs|_=>none)|_=>none
theorem yU {W:Wd}(w:WOk K W) {x:PV}{v:V}{xs:List PV}(e:ybE x W.h=some xs) (r:ycC K W x v):∃ a vs,v=.ref a/\W.H a=some (.lst vs)/\ycy K W xs vs:=by
 unfold ybE at e
 split at e
 .cases e
  obtain ⟨a,vs,ev,hs,c⟩:=r
  exact ⟨a,vs,ev,w.le _ _ hs,c⟩
 .split at e
  .rename_i ys d
   cases e
   obtain ⟨a,ev,f,g,vs,hp,c⟩:=w.loc d r
   exact ⟨a,vs,ev,hp,c⟩
  .cases e
 .cases e
theorem yAy {W:Wd}(w:WOk K W) {p:Addr}(hp:W.H p=none) {xs:List PV}{vs:List V}(r:ycy K W xs vs) {Q:VK}(q:yoQ K W (.lst xs) W.h Q):Q (.ref p) (upd W.H p (.lst vs)) :=
 q p (yiw W p _) rfl (ycE w hp) (w.out hp) hp (fun z=>by cases z) ⟨w.ff hp,vs,yB,r⟩
def yoU:PV->Option Int->Option Int->AH->Option (Nd×AH):=fun x lo hi h=>match listOf x h with|some xs=>some (.lst (ymX xs lo hi),h)|none=>none
theorem ytQ:yqq K (yEY K.K) yoU:=by
 intro W x v f i Q d h' w h e q
 unfold yoU at e
 split at e
 .rename_i xs g
  cases e
  obtain ⟨a,vs,ev,hs,c⟩:=ygy w g h
  refine ⟨a,vs,ev,hs,fun p hp=>yAy w hp ?_ q⟩
  have:=(c.drop (HT.sIx xs.length 0 f)).take (HT.sIx xs.length xs.length i-HT.sIx xs.length 0 f)
  unfold ymX yCD
  rw [c.len]
  exact this
 .cases e
def ysO:P2O:=fun x y h=>match ybE x h,ybE y h with|some xs,some ys=>if xs.length+ys.length<=100000 then some (.lst (xs++ys),h) else none|_,_=>none
theorem yoV:ynO K yFa ysO:=by
 intro W x y v u Q d h' w k j e q
 unfold ysO at e
 split at e
 .rename_i xs ys h i
  split at e
  .rename_i hl
   cases e
   obtain ⟨a,vs,ev,hs,f⟩:=yU w h k
   obtain ⟨b,us,l,m,g⟩:=yU w i j
   refine ⟨a,b,vs,us,ev,l,hs,m,by rw [f.len,g.len];exact yxC hl,fun p hp=>yAy w hp (f.app g) q⟩
  .cases e
 .cases e
noncomputable def repL {α:Type}(k:Nat) (xs:List α):List α:=(replicate k xs).flatten
theorem RepL.rep {F:Hp}{m:List Addr}{xs:List PV}{vs:List V}(r:RepL K F m xs vs):∀ k,RepL K F m (repL k xs) (repL k vs)
 | 0=>rfl
 | k+1=>by
  show RepL K F m _ _
  exact r.app (RepL.rep r k)
def yAz:P2O:=fun x y h=>match ybE x h,y with|some xs,.int k=>if -1000000<=k/\k<=100000/\xs.length*k.toNat<=100000 then some (.lst (repL k.toNat xs),h) else none|_,_=>none
theorem yAA:ynO K yFb yAz:=by
 intro W x y v u Q d h' w h g e q
 unfold yAz at e
 split at e
 .rename_i xs k f
  split at e
  .rename_i hl
   cases e
   obtain ⟨a,vs,ev,hs,c⟩:=yU w f h
   refine ⟨a,k,vs,ev,g,hs,by omega,by omega,by rw [c.len];exact yxC hl.2.2,fun p hp=>yAy w hp (c.rep _) q⟩
  .cases e
 .cases e
noncomputable def yqB (x:PV) (h:AH):Option Nat:=match x with|.tup xs=>some xs.length|.lst xs=>some xs.length|.scr ns=>some ns.length|.loc n=>(match h[n]? with|some (.lst xs)=>some xs.length|_=>none)|_=>none
def yba:List PV->AH->Option (PV×AH):=fun xs h=>match xs with|[x]=>(match yqB x h with|some n=>some (.int n,h)|none=>none)|_=>none
noncomputable def ymY:List PV->AH->Option (PV×AH):=fun xs h=>match xs with|[.str z]=>if z.length<=100000 then some (.int z.length,h) else none|_=>none
theorem ylt {W:Wd}{x:PV}{vs:List V}(r:ycy K W [x] vs):∃ v,vs=[v]/\ycC K W x v:=by
 obtain ⟨v,a,e,h,l⟩:=r
 exact ⟨v,by rw [e,l],h⟩
theorem yFG {W:Wd}{x y:PV}{vs:List V}(r:ycy K W [x,y] vs):∃ v u,vs=[v,u]/\ycC K W x v/\ycC K W y u:=by
 obtain ⟨v,b,e,h,l⟩:=r
 obtain ⟨u,a,h2⟩:=ylt l
 exact ⟨v,u,by rw [e,a],h,h2⟩
theorem ybS:ygV K (yAj K.K) yba:=by
 intro W xs vs Q z h' w r e q
 unfold yba at e
 split at e
 .split at e
  .rename_i n d
   cases e
   obtain ⟨v,rfl,g⟩:=ylt r
   have c:∀ (ys:List V),ys.length=n->Q (.int ys.length) W.H:=fun ys hl=>by rw [hl];exact q _ W rfl (.refl w) rfl
   unfold yqB at d
   split at d
   .cases d
    obtain ⟨a,us,rfl,hs,f⟩:=g
    exact ⟨a,us,rfl,.inr (ydj w hs),c _ f.len⟩
   .cases d
    obtain ⟨a,us,rfl,hs,f⟩:=g
    exact ⟨a,us,rfl,.inl (SqL.of (w.le _ _ hs)),c _ f.len⟩
   .cases d
    obtain ⟨a,rfl,hs⟩:=g
    exact ⟨a,_,rfl,.inl (yfA w hs),c _ (by simp)⟩
   .split at d
    .rename_i ys h
     cases d
     obtain ⟨a,rfl,i,j,us,hp,f⟩:=w.loc h g
     exact ⟨a,us,rfl,.inl (SqL.of hp),c _ f.len⟩
    .cases d
   .cases d
  .cases e
 .cases e
theorem ynR:ygV K yDu ymY:=by
 intro W xs vs Q z h' w r e q
 unfold ymY at e
 split at e
 .rename_i s
  split at e
  .rename_i hl
   cases e
   obtain ⟨v,rfl,b⟩:=ylt r
   exact ⟨s,by rw [b],yxC hl,q _ W rfl (.refl w) rfl⟩
  .cases e
 .cases e
noncomputable def yqC:List PV->AH->Option (PV×AH):=fun xs h=>match xs with|[.int i]=>some (.int i,h)|[.bl k]=>some (.int (if k then 1 else 0),h)|_=>none
theorem yvY:ygV K yDt yqC:=by
 intro W xs vs Q z h' w r e q
 unfold yqC at e
 split at e
 .rename_i i
  cases e
  obtain ⟨v,rfl,b⟩:=ylt r
  exact .inl ⟨i,by rw [b],q _ W rfl (.refl w) rfl⟩
 .rename_i k
  cases e
  obtain ⟨v,rfl,b⟩:=ylt r
  exact .inr ⟨k,by rw [b],q _ W rfl (.refl w) rfl⟩
 .cases e
noncomputable def yiy:List PV->AH->Option (PV×AH):=fun xs h=>match xs with|[.int i]=>if i.natAbs.log2<1920 then some (.str (toString i:String),h) else none|_=>none
theorem yqD:ygV K yDv yiy:=by
 intro W xs vs Q z h' w r e q
 unfold yiy at e
 split at e
 .rename_i i
  split at e
  .rename_i hl
   cases e
   obtain ⟨v,rfl,b⟩:=ylt r
   exact ⟨i,by rw [b],hl,q _ W rfl (.refl w) rfl⟩
  .cases e
 .cases e
def yqE:List PV->AH->Option (PV×AH):=fun xs h=>match xs with|[.str z]=>if z.cps.toList≠[]/\(∀ c∈z.cps.toList,48<=c/\c<=57)/\z.length<=640 then some (.int (yxe z.cps.toList),h) else none|_=>none
theorem yAB:ygV K yAk yqE:=by
 intro W xs vs Q z h' w r e q
 unfold yqE at e
 split at e
 .rename_i i
  split at e
  .rename_i hl
   cases e
   obtain ⟨v,rfl,b⟩:=ylt r
   exact ⟨i,by rw [b],hl.1,hl.2.1,hl.2.2,q _ W rfl (.refl w) rfl⟩
  .cases e
 .cases e
def yX:List PV->AH->Option (Nd×AH):=fun xs h=>match xs with|[.tup ys]=>some (.lst ys,h)|[x]=>(match listOf x h with|some ys=>some (.lst ys,h)|none=>none)|_=>none
theorem ybB:yql K (yxf K.K) yX:=by
 intro W xs vs Q d h' w r e q
 unfold yX at e
 split at e
 .cases e
  obtain ⟨v,rfl,a,us,rfl,hs,c⟩:=ylt r
  exact ⟨a,us,rfl,.inr (ydj w hs),fun p hp=>yAy w hp c q⟩
 .split at e
  .rename_i ys f
   cases e
   obtain ⟨v,rfl,g⟩:=ylt r
   obtain ⟨a,us,rfl,hs,c⟩:=ygy w f g
   exact ⟨a,us,rfl,.inl hs,fun p hp=>yAy w hp c q⟩
  .cases e
 .cases e
noncomputable def strsOf:List PV->Option (List Str)
 | []=>some []
 | .str s::r=>(strsOf r).map (s::·)
 | _=>none
noncomputable def intsOf:List PV->Option (List Int)
 | []=>some []
 | .int s::r=>(intsOf r).map (s::·)
 | _=>none
noncomputable def yhE:List PV->Option (List Bool)
 | []=>some []
 | .bl s::r=>(yhE r).map (s::·)
 | _=>none
theorem yiU:∀ ss,strsOf (ss.map .str)=some ss
 | []=>rfl
 | s::ss=>by show (strsOf _).map _=_;rw [yiU ss];rfl
theorem yiV:∀ ss,intsOf (ss.map .int)=some ss
 | []=>rfl
 | s::ss=>by show (intsOf _).map _=_;rw [yiV ss];rfl
theorem ylu:∀ ss,yhE (ss.map .bl)=some ss
 | []=>rfl
 | s::ss=>by show (yhE _).map _=_;rw [ylu ss];rfl
theorem yiW {F:Hp}{m:List Addr}:∀ {xs:List PV}{ss:List Str}{vs:List V},strsOf xs=some ss->RepL K F m xs vs->vs=ss.map V.str
 | [],_,_,e,r=>by cases e;exact r
 | x::xs,ss,_,e,⟨v,c,ev,h,l⟩=>by
  cases x<;>try cases e
  obtain ⟨ts,b,a⟩:=Option.map_eq_some_iff.mp e
  subst a
  rw [ev,h,yiW b l];rfl
theorem yiX {F:Hp}{m:List Addr}:∀ {xs:List PV}{ss:List Int}{vs:List V},intsOf xs=some ss->RepL K F m xs vs->vs=ss.map V.int
 | [],_,_,e,r=>by cases e;exact r
 | x::xs,ss,_,e,⟨v,c,ev,h,l⟩=>by
  cases x<;>try cases e
  obtain ⟨ts,b,a⟩:=Option.map_eq_some_iff.mp e
  subst a
  rw [ev,h,yiX b l];rfl
theorem yhF {F:Hp}{m:List Addr}:∀ {xs:List PV}{ss:List Bool}{vs:List V},yhE xs=some ss->RepL K F m xs vs->vs=ss.map V.bl
 | [],_,_,e,r=>by cases e;exact r
 | x::xs,ss,_,e,⟨v,c,ev,h,l⟩=>by
  cases x<;>try cases e
  obtain ⟨ts,b,a⟩:=Option.map_eq_some_iff.mp e
  subst a
  rw [ev,h,yhF b l];rfl
def yCI:List PV->AH->Option (PV×AH):=fun xs h=>match xs with|[x]=>(match ybE x h with|some ys=>(match intsOf ys with|some ns=>some (.int ns.sum,h)|none=>none)|none=>none)|_=>none
theorem yDy:ygV K yFf yCI:=by
 intro W xs vs Q z h' w r e q
 unfold yCI at e
 split at e
 .split at e
  .rename_i ys f
   split at e
   .rename_i ns d
    cases e
    obtain ⟨v,rfl,g⟩:=ylt r
    obtain ⟨a,us,rfl,hs,c⟩:=yU w f g
    have:=yiX d c
    subst this
    exact ⟨a,ns,rfl,hs,q _ W rfl (.refl w) rfl⟩
   .cases e
  .cases e
 .cases e
def yxJ:List PV->AH->Option (PV×AH):=fun xs h=>match xs with|[x]=>(match ybE x h with|some ys=>(match yhE ys with|some ns=>some (.bl (ns.all id),h)|none=>none)|none=>none)|_=>none
theorem yAC:ygV K yFe yxJ:=by
 intro W xs vs Q z h' w r e q
 unfold yxJ at e
 split at e
 .split at e
  .rename_i ys f
   split at e
   .rename_i ns d
    cases e
    obtain ⟨v,rfl,g⟩:=ylt r
    obtain ⟨a,us,rfl,hs,c⟩:=yU w f g
    have:=yhF d c
    subst this
    exact ⟨a,ns,rfl,hs,q _ W rfl (.refl w) rfl⟩
   .cases e
  .cases e
 .cases e
noncomputable def isStr:PV->AH->Bool:=fun x _=>match x with|.str _=>true|_=>false
def yoW:PM:=fun x xs h=>match x,xs with|.str sep,[y]=>(match ybE y h with|some ys=>(match strsOf ys with|some ts=>if sep.length<=16/\(ts.map (·.length)).sum+ts.length<=1048576 then some (.str (Str.join sep ts),h) else none|none=>none)|none=>none)|_,_=>none
theorem yAD:yix K "str" isStr rJoin yoW:=by
 refine ⟨fun W x v w r c=>?_,fun W x v xs vs Q z h' w h r e q=>?_⟩
 .unfold isStr at c
  split at c
  .rw [r];rfl
  .cases c
 .unfold yoW at e
  split at e
  .rename_i sep y
   split at e
   .rename_i ys f
    split at e
    .rename_i ts i
     split at e
     .rename_i c
      cases e
      obtain ⟨u,rfl,g⟩:=ylt r
      obtain ⟨a,us,rfl,hs,d⟩:=yU w f g
      have:=yiW i d
      subst this
      exact ⟨sep,a,ts,h,rfl,hs,c.1,c.2,q _ W rfl (.refl w) rfl⟩
     .cases e
    .cases e
   .cases e
  .cases e
def ymZ:PM:=fun x xs h=>match x,xs with|.str z,[.str s]=>(match s.cps.toList with|[c]=>if z.length<=1000/\c∈z.cps.toList then some (.int (z.cps.toList.idxOf c),h) else none|_=>none)|_,_=>none
theorem ytR:yix K "str" isStr yqe ymZ:=by
 refine ⟨fun W x v w r c=>?_,fun W x v xs vs Q z h' w f r e q=>?_⟩
 .unfold isStr at c
  split at c
  .rw [r];rfl
  .cases c
 .unfold ymZ at e
  split at e
  .rename_i z s
   split at e
   .rename_i c d
    split at e
    .rename_i hl
     cases e
     obtain ⟨u,rfl,b⟩:=ylt r
     exact ⟨z,c,f,by rw [b,one_sign d],hl.1,hl.2,q _ W rfl (.refl w) rfl⟩
    .cases e
   .cases e
  .cases e
end PX
namespace PX
open PySem L2
variable {K:Ck}
noncomputable def putN (f:Str) (x:PV) (ns:List Str) (xs:List PV):List Str×List PV:=if f∈ns then (ns,xs.set (ns.idxOf f) x) else (ns++[f],xs++[x])
theorem ynS (f:Str) (y:V):∀ (ns:List Str) (vs:List V),vs.length=ns.length->yjv f y (ns.zip vs)=if f∈ns then ns.zip (vs.set (ns.idxOf f) y) else (ns++[f]).zip (vs++[y])
 | [],[],_=>by simp [yjv]
 | n::ns,v::vs,hl=>by
  have ih:=ynS f y ns vs (by simpa using hl)
  show (if n=f then (n,y)::ns.zip vs else (n,v)::yjv f y (ns.zip vs))=_
  by_cases h:n=f
  .subst h
   simp [List.idxOf_cons_self]
  .have h':¬ f=n:=fun z=>h z.symm
   have hb:(n == f)=false:=by simpa using h
   rw [if_neg h,ih]
   by_cases hm:f∈ns
   .simp [hm,h',List.idxOf_cons,hb]
   .simp [hm,h']
theorem yiY {f:Str}:∀ {ns:List Str}{vs:List V},vs.length=ns.length->f∈ns->(ns.zip vs).lookup f=vs[ns.idxOf f]?
 | [],_,_,h=>by simp at h
 | n::ns,v::vs,hl,h=>by
  show List.lookup f ((n,v)::ns.zip vs)=_
  by_cases b:f=n
  .simp_all
  .rw [yAl b,yiY (by simpa using hl) (by simpa [b] using h)]
   have c:(n == f)=false:=by simpa using fun z=>b z.symm
   simp [List.idxOf_cons,c]
theorem ydr {f:Str}:∀ {ns:List Str}{vs:List V},f∉ns->(ns.zip vs).lookup f=none
 | [],_,_=>by simp
 | n::ns,[],_=>by simp
 | n::ns,v::vs,h=>by
  show List.lookup f ((n,v)::ns.zip vs)=_
  rw [yAl (fun z=>h (by simp_all)),ydr fun z=>h (mem_cons_of_mem _ z)]
noncomputable def ygX (x:PV) (h:AH):Option (Nat×List Str×List PV):=match x with|.ins k ns xs=>some (k,ns,xs)|.loc n=>(match h[n]? with|some (.ins k ns xs)=>some (k,ns,xs)|_=>none)|_=>none
theorem yfX {W:Wd}(w:WOk K W) {x:PV}{v:V}{k:Nat}{ns:List Str}{xs:List PV}(e:ygX x W.h=some (k,ns,xs)) (r:ycC K W x v):∃ a c vs,v=.ref a/\W.H a=some (.ins (K.A k) c (ns.zip vs))/\vs.length=ns.length/\ycy K W xs vs:=by
 unfold ygX at e
 split at e
 .cases e
  obtain ⟨a,c,vs,ev,hs,hl,d⟩:=r
  exact ⟨a,c,vs,ev,w.le _ _ hs,hl,d⟩
 .split at e
  .rename_i f
   cases e
   obtain ⟨a,ev,g,h,c,vs,hp,hl,d⟩:=w.loc f r
   exact ⟨a,c,vs,ev,hp,hl,d⟩
  .cases e
 .cases e
def ybb (cs:List Nat) (f:Str) (e:XE):XE:=fun ρ h=>ob (e ρ h) fun x h1=>match ygX x h1 with|some (k,ns,xs)=>if k∈cs/\f∈ns then (match xs[ns.idxOf f]? with|some y=>some (y,h1)|none=>none) else none|none=>none
theorem yxK {cs:List Nat}{f:Str}{j:TE}{i:XE}(l:∀ k∈cs,Cls K.K (K.A k)/\NoAttr K.K (K.A k) f) (a:ybM K j i):ybM K (yEV K.K j f) (ybb cs f i):=by
 intro A W ρ σ Q z h' g e q
 obtain ⟨x,h1,t,d⟩:=yg e
 refine a A W ρ σ _ x h1 g t fun v B w h p=>?_
 subst w
 split at d
 .rename_i k ns xs n
  split at d
  .rename_i c
   split at d
   .rename_i y o
    cases d
    obtain ⟨a,m,vs,ev,hp,hl,r⟩:=yfX h.ok n p
    obtain ⟨u,h2,s⟩:=r.get o
    exact ⟨a,_,m,_,u,ev,hp,(l k c.1).1,(l k c.1).2,by rw [yiY hl c.2];exact h2,q _ B rfl h s⟩
   .cases d
  .cases d
 .cases d
def ycr (cs:List Nat) (i:Nat) (f:Str) (e:XE):XS:=fun ρ h=>ob (e ρ h) fun x h1=>match ρ[i]? with
 | some (.own (.ins k ns xs))=>if k∈cs/\ns.length<1000 then some (.nx (ρ.set i (.own (.ins k (putN f x ns xs).1 (putN f x ns xs).2))),h1) else none
 | _=>none
theorem RepL.putN {F:Hp}{m:List Addr}{f:Str}{x:PV}{v:V}{ns:List Str}{xs:List PV}{vs:List V}(r:RepL K F m xs vs) (hl:vs.length=ns.length) (b:Rep K F m x v) :
  ∃ us,yjv f v (ns.zip vs)=(PX.putN f x ns xs).1.zip us/\us.length=(PX.putN f x ns xs).1.length/\RepL K F m (PX.putN f x ns xs).2 us:=by
 rw [ynS f v ns vs hl]
 unfold PX.putN
 by_cases h:f∈ns
 .rw [if_pos h,if_pos h]
  exact ⟨_,rfl,by simp_all,r.set _ b⟩
 .rw [if_neg h,if_neg h]
  exact ⟨_,rfl,by simp_all,r.snoc b⟩
def ysP (K:Ck) (t:TS) (s:XS):Prop:=∀ (W0 W:Wd) (ρ ρ':PSt) (σ:St) (D:Ends) (h':AH),Good K W0 W ρ σ->s ρ W.h=some (.nx ρ',h')->(∀ W',W'.h=h'->Lf K W W'->Good K W0 W' ρ' σ->D.nx σ W'.H)->t D σ W.H
theorem ytS {cs:List Nat}{i:Nat}{f:Str}{l:TE}{r:XE}(t:∀ k∈cs,Cls K.K (K.A k)/\NoAttr K.K (K.A k) f) (a:ybM K l r):ysP K (yDc K.K (ypw i) l f) (ycr cs i f r):=by
 intro H W ρ ρ' σ D h' g e q
 obtain ⟨x,h1,F,d⟩:=yg e
 split at d
 .rename_i k ns xs s
  split at d
  .rename_i c
   cases d
   refine a H W ρ σ _ x _ g F fun v I G u A=>?_
   have m:=g.step u
   obtain ⟨p,j,o,L,M,h,n,vs,B,E,w⟩:=m.own i _ s
   obtain ⟨us,J,C,y⟩:=w.putN E A
   refine ⟨_,j,p,_,n,_,rfl,B,(t k c.1).1,(t k c.1).2,by simp_all,?_⟩
   rw [J]
   exact q (ytH I p _) G (yqs u o) (m.mut s j o L h (fun z=>by cases z) ⟨h,n,us,yB,C,y⟩)
  .cases d
 .cases d
theorem ytT {t u:TS}{s s':XS}(a:ysP K t s) (b:ysP K u s'):ysP K (yCV t u) (yl s s'):=by
 intro f W ρ ρ' σ D h' g e q
 obtain ⟨o1,h1,p,d⟩:=yg e
 cases o1 with
 | nx ρ1=>exact a f W ρ ρ1 σ _ h1 g p fun j n l h=>b f j ρ1 ρ' σ D h' h (by rw [n];exact d) fun m o i k=>q m o (l.trans i) k
 | rt y=>cases d
 | bk y=>cases d
 | ct y=>cases d
def ymr (N:Nat) (k:Nat) (s:XS):List PV->AH->Option (Nd×AH):=fun xs h=>ob (s (.own (.ins k [] [])::(xs.map .val++replicate (N-(xs.length+1)) .no)) h) fun o h1=>match o with|.nx ρ=>(match ρ[0]? with|some (PVar.own d)=>some (d,h1)|_=>none)|_=>none
def spI (K:Ck) (n k:Nat) (f:List PV->AH->Option (Nd×AH)):Sp:=fun vs H Q _=>∃ (W:Wd) (x dx:Addr) (args:List V) (xs:List PV) (d:Nd) (h':AH),vs=.ref x::args/\W.H x=none/\W.H dx=none/\dx≠x/\H=upd (upd W.H dx (.own x)) x (.ins (K.A k) dx []) /\
 WOk K W/\ycy K W xs args/\xs.length=n/\f xs W.h=some (d,h')/\∀ W',W'.h=h'->Le K W W'->x∉W'.m->d≠.dead->NdAt K W'.F W'.H W'.m d x->Q .non W'.H
theorem yxL {n k:Nat}{f} {vs:List V}{H:Hp}{Q:VK}{E:XK}(h:spI K n k f vs H Q E):vs.length=n+1:=by
 obtain ⟨W,x,b,args,xs,d,h',rfl,_,_,_,_,w,r,a,_⟩:=h
 rw [length_cons,r.len,a]
theorem ytU {N:List Str}{n k:Nat}{t:TS}{s:XS}{vs:List V}{H:Hp}{Q:VK}{E:XK}{bk ct:St->Hp->Prop}(hN:n+1<=N.length) (a:ysP K t s) (h:spI K n k (ymr N.length k s) vs H Q E):t ⟨fun _ R=>Q .non R,Q,bk,ct⟩ (L2.start N vs) H:=by
 obtain ⟨W,x,f,args,xs,d,h',rfl,u,U,A,rfl,w,r,hn,e,q⟩:=h
 obtain ⟨o,h1,M,m⟩:=yg e
 have G:Le K W (yiw W f (.own x)):=ycE w U
 have F:(yiw W f (.own x)).H x=none:=(yI A.symm).trans u
 have S:Le K (yiw W f (.own x)) (yiw (yiw W f (.own x)) x (.ins (K.A k) f [])):=ycE G.ok F
 have l:=G.trans S
 have I:=ygx (K:=K) (N:=N.drop 1) w r
 have g:Good K W (yiw (yiw W f (.own x)) x (.ins (K.A k) f [])) (.own (.ins k [] [])::(xs.map .val++replicate (N.length-(xs.length+1)) .no)) (L2.start N (.ref x::args)):=by
  have es:L2.start N (.ref x::args)=some (.ref x)::L2.start (N.drop 1) args:=by
   have L:N.length-(args.length+1)=(N.drop 1).length-args.length:=by rw [length_drop];omega
   unfold L2.start
   rw [map_cons,List.cons_append,length_cons,L]
  have J:N.length-(xs.length+1)=(N.drop 1).length-xs.length:=by rw [length_drop];omega
  rw [es,J]
  have D:=I.step l
  have c:∀ (j:Nat) (d:Nd),(xs.map PVar.val++replicate ((N.drop 1).length-xs.length) .no)[j]?≠some (.own d):=fun j d z=>by
   grind
  refine ⟨l,by rw [length_cons,length_cons,I.len],fun j y z=>?_,fun j d z=>?_,fun i j d d' v z Z=>?_⟩
  .cases j with
   | zero=>cases z
   | succ j=>exact D.val j y z
  .cases j with
   | zero=>cases z;exact ⟨x,rfl,w.out u,u,(fun z=>by cases z),w.ff u,f,[],yB,rfl,rfl⟩
   | succ j=>exact absurd z (c j d)
  .cases i with
   | zero =>
    cases j with
    | zero=>exact absurd rfl v
    | succ j=>exact absurd Z (c j d')
   | succ i=>exact absurd z (c i d)
 cases o with
 | rt y=>cases m
 | bk ρ=>cases m
 | ct ρ=>cases m
 | nx ρ =>
  refine a W _ _ ρ _ _ h1 g M fun T O lf g'=>?_
  dsimp only at m
  split at m
  .rename_i d' B
   cases m
   obtain ⟨p,C,P,b3,Y,X⟩:=g'.own 0 _ B
   have C:some (some (V.ref x))=some (some (V.ref p)):=C
   cases C
   exact q T O g'.le P Y X
  .cases m
def yfB (f:List PV->AH->Option (Nd×AH)) (a:XA):XO:=fun ρ h=>ob (a ρ h) f
theorem ynT {n k:Nat}{f} {y:XK}{t:TA}{e:XA}(a:ymp K t e) (B:∀ ρ h xs h',e ρ h=some (xs,h')->xs.length=n):ymq K (yth (K.A k) (spI K n k f) [] y t) (yfB f e):=by
 intro D W ρ σ Q d h' g C q
 obtain ⟨xs,h1,o,r⟩:=yg C
 refine a D W ρ σ _ xs h1 g o fun vs E s l w=>?_
 subst s
 intro x F m p i
 rw [append_nil]
 exact ⟨E,x,F,vs,xs,d,h',rfl,m,p,i,rfl,l.ok,w,B _ _ _ _ o,r,fun z u v A j c=>⟨rfl,q x z u (l.trans v) A (l.fresh m) j c⟩⟩
def yqF (k:Nat):XO:=fun _ h=>some (.ins k [] [],h)
theorem yqG {k:Nat}:ymq K (yvR (K.A k)) (yqF k):=by
 intro m W ρ σ Q d h' g e q
 cases e
 intro x b c l f
 have w:=g.ok
 have i:Le K W (yiw W b (.own x)):=ycE w l
 have h:(yiw W b (.own x)).H x=none:=(yI f.symm).trans c
 have j:Le K _ (yiw _ x (.ins (K.A k) b [])):=ycE i.ok h
 exact q x (yiw (yiw W b _) x _) rfl (i.trans j) (w.out c) c (fun z=>by cases z) ⟨w.ff c,b,[],yB,rfl,rfl⟩
def yoX (m:Str) (f:Nat->Fn) (e:XE):XE:=fun ρ h=>ob (e ρ h) fun x h1=>match ygX x h1 with|some (k,ns,_)=>if m∈ns then none else f k [x] h1|none=>none
theorem ytV {m:Str}{f:Nat->Fn}{i:TE}{j:XE}(a:ybM K i j):ybM K (yvS K.A m (fun k=>spE K 1 (f k)) i) (yoX m f j):=by
 intro y W ρ σ Q z h' g e q
 obtain ⟨x,h1,A,d⟩:=yg e
 refine a y W ρ σ _ x h1 g A fun v B o h l=>?_
 subst o
 split at d
 .rename_i k ns xs p
  split at d
  .cases d
  .rename_i t
   obtain ⟨b,s,vs,ev,hp,hl,C⟩:=yfX h.ok p l
   exact ⟨b,k,s,_,ev,hp,ydr t,B,[x],z,h',rfl,h.ok,⟨v,[],rfl,l,rfl⟩,rfl,d,fun u w r n r2=>q u w r (h.trans n) r2⟩
 .cases d
def yAE (tb:List (Nat×Nat×Bool)) (x c:PV) (h:AH):Option Bool:=match c with
 | .ty n=>(match x with
  | .int _=>if n = "int" then some true else if n = "bool"\/n = "str"\/n = "list"\/n = "tuple"\/n = "dict" then some false else none
  | .bl _=>if n = "int"\/n = "bool" then some true else if n = "str"\/n = "list"\/n = "tuple"\/n = "dict" then some false else none
  | .str _=>if n = "str" then some true else if n = "int"\/n = "bool"\/n = "list"\/n = "tuple"\/n = "dict" then some false else none
  | .non=>if n = "int"\/n = "bool"\/n = "str"\/n = "list"\/n = "tuple"\/n = "dict" then some false else none
  | .tup _=>if n = "tuple" then some true else if n = "int"\/n = "bool"\/n = "str"\/n = "list"\/n = "dict" then some false else none
  | _=>(match ybE x h with|some _=>if n = "list" then some true else if n = "int"\/n = "bool"\/n = "str"\/n = "tuple"\/n = "dict" then some false else none|none=>none))
 | .cls c'=>(match ygX x h with|some (k,_)=>(tb.find? fun r=>r.1 == k && r.2.1 == c').map (·.2.2)|none=>none)
 | _=>none
def yiZ (tb:List (Nat×Nat×Bool)):List PV->AH->Option (PV×AH):=fun xs h=>match xs with|[x,c]=>(match yAE tb x c h with|some b=>some (.bl b,h)|none=>none)|_=>none
theorem yeI {tb:List (Nat×Nat×Bool)}(D:∀ r∈tb,∀ (H:Hp) (a j:Addr) (fs:List (Str×V)),H a=some (.ins (K.A r.1) j fs)->IsI K.K H (.ref a) (.ref (K.A r.2.1)) r.2.2):ygV K (yFc K.K) (yiZ tb):=by
 intro W xs vs Q z h' w r e q
 unfold yiZ at e
 split at e
 .rename_i x c
  split at e
  .rename_i b f
   cases e
   obtain ⟨v,u,rfl,i,l⟩:=yFG r
   refine ⟨v,u,b,rfl,?_,q _ W rfl (.refl w) rfl⟩
   unfold yAE at f
   split at f
   .rename_i n
    obtain rfl:u=.ty n:=l
    split at f
    .rw [show v=_ from i]
     repeat' split at f
     all_goals cases f
     .rename_i g;subst g;exact ymE
     .rename_i g;rcases g with rfl|rfl|rfl|rfl|rfl
      .exact ykY
      .exact ymK
      .exact ylc
      .exact yjB
      .exact yle
    .rw [show v=_ from i]
     repeat' split at f
     all_goals cases f
     .rename_i g;rcases g with rfl|rfl
      .exact yoO
      .exact ymG
     .rename_i g;rcases g with rfl|rfl|rfl|rfl
      .exact yoP
      .exact ymL
      .exact ylf
      .exact ymM
    .rw [show v=_ from i]
     repeat' split at f
     all_goals cases f
     .rename_i g;subst g;exact ymH
     .rename_i g;rcases g with rfl|rfl|rfl|rfl|rfl
      .exact ymN
      .exact ylg
      .exact ylh
      .exact yjC
      .exact yli
    .rw [show v=_ from i]
     repeat' split at f
     all_goals cases f
     .rename_i g;rcases g with rfl|rfl|rfl|rfl|rfl|rfl
      .exact ymF
      .exact ylj
      .exact ymO
      .exact ylk
      .exact yjD
      .exact yll
    .obtain ⟨a,us,rfl,hs,_⟩:=i
     have hp:(∃ xs,W.H a=some (.tup xs))\/∃ o,K.K.lookup a=some o/\o.cls=.type "tuple":=hs.elim (fun h=>.inl ⟨_,w.le _ _ h⟩) fun ⟨o,its,n,s,A,_⟩=>.inr ⟨o,s,A⟩
     repeat' split at f
     all_goals cases f
     .rename_i g;subst g;exact yjF hp
     .rename_i g;rcases g with rfl|rfl|rfl|rfl|rfl
      .exact ymR hp
      .exact ylo hp
      .exact ymS hp
      .exact ylp hp
      .exact ylq hp
    .split at f
     .rename_i ys y
      obtain ⟨a,us,rfl,hp,_⟩:=yU w y i
      repeat' split at f
      all_goals cases f
      .rename_i g;subst g;exact ykZ hp
      .rename_i g;rcases g with rfl|rfl|rfl|rfl|rfl
       .exact ymP hp
       .exact ylm hp
       .exact ymQ hp
       .exact yjE hp
       .exact yln hp
     .cases f
   .rename_i c'
    obtain rfl:u=.ref (K.A c'):=l
    split at f
    .rename_i k p B
     obtain ⟨C,h1,h2⟩:=Option.map_eq_some_iff.mp f
     have m:=List.mem_of_find?_eq_some h1
     have hp:=List.find?_some h1
     simp only [and_eq_true,beq_iff_eq] at hp
     obtain ⟨a,j,us,rfl,hs,_⟩:=yfX w B i
     obtain ⟨t,E⟩:=hp
     have:=D C m W.H a j (p.1.zip us) (by rw [t];exact hs)
     rw [E,h2] at this
     exact this
    .cases f
   .cases f
  .cases e
 .cases e
end PX
namespace PX
open PySem L2
section
variable {ρ:PSt}{h h1:AH}{x y z:PV}{a b c:XE}{ca cb:XT}{aa:XA}{eo:XO}{s u:XS}{i:Nat}{p:P2}
theorem ybL {α e:Type}{x:α}{h:AH}{f:α->AH->Option e}:ob (some (x,h)) f=f x h:=id rfl
theorem yDz {α d:Type}{f:α->AH->Option d}:ob none f=none:=id rfl
theorem yAF {α e j:Type}{o:Option _}{f:α->AH->Option _}{g:e->AH->Option j}:ob (ob o f) g=ob o fun x h=>ob (f x h) g:=by cases o<;>rfl
theorem yDA {α g:Type}{q:Prop} [Decidable q] {o e:Option _}{f:α->AH->Option g}:ob (if q then o else e) f=if q then ob o f else ob e f:=by split<;>rfl
theorem yAG:yd 0 (.val x::ρ) h=some (x,h):=id rfl
theorem yAH {v:PVar}{n:Nat}:yd (n+1) (v::ρ) h=yd n ρ h:=by simp [yd]
theorem x_c:xC x ρ h=some (x,h):=id rfl
theorem yDB:xOp p a b ρ h=ob (a ρ h) fun x h1=>ob (b ρ h1) fun y h2=>p x y h2:=id rfl
theorem yDC {p:P2O}:yqi p a b ρ h=ob (a ρ h) fun x h1=>ob (b ρ h1) fun y h2=>p x y h2:=id rfl
theorem yFH {p}:xUn p a ρ h=ob (a ρ h) fun x h1=>p x h1:=id rfl
theorem yFh {k:Bool}:oB (.bl k) h=some (k,h):=id rfl
theorem yxM {p f:P2}:yfn p f a b c ρ h=ob (a ρ h) fun x h1=>ob (b ρ h1) fun y h2=>ob (p x y h2) fun z e=>ob (oB z e) fun k e=>if k=true then ob (c ρ e) fun w g=>f y w g else some (.bl false,e):=id rfl
theorem yvZ:yr a ρ h=ob (a ρ h) oB:=id rfl
theorem yAI:yfh a b ρ h=ob (a ρ h) fun x h1=>ob (oB x h1) fun k h1=>if k=true then b ρ h1 else some (.bl false,h1):=id rfl
theorem yDD:yqj ca cb ρ h=ob (ca ρ h) fun k h1=>if k=true then cb ρ h1 else some (false,h1):=id rfl
theorem yFI:xOr ca cb ρ h=ob (ca ρ h) fun k h1=>if k=true then some (true,h1) else cb ρ h1:=id rfl
theorem yDE:yjG ca ρ h=ob (ca ρ h) fun k h1=>some (!k,h1):=id rfl
theorem yFJ:xIf ca a b ρ h=ob (ca ρ h) fun k h1=>if k=true then a ρ h1 else b ρ h1:=id rfl
theorem ytW:yh ρ h=some ([],h):=id rfl
theorem yAJ:yc a aa ρ h=ob (a ρ h) fun x h1=>ob (aa ρ h1) fun xs h2=>some (x::xs,h2):=id rfl
theorem yDF:yfz aa ρ h=ob (aa ρ h) fun xs h1=>if xs.length<=1000 then some (.tup xs,h1) else none:=id rfl
theorem yDG:ydY aa ρ h=ob (aa ρ h) fun xs h1=>if xs.length<=1000 then some (.lst xs,h1) else none:=id rfl
noncomputable def fzN:Nd->AH->Option (PV×AH)
 | .lst xs,h=>some (.lst xs,h)
 | .ins k ns xs,h=>some (.ins k ns xs,h)
 | _,_=>none
theorem yCJ:xFz eo ρ h=ob (eo ρ h) fzN:=by
 unfold xFz;congr;funext d h1;cases d<;>rfl
theorem yDH {xs:List PV}:fzN (.lst xs) h=some (.lst xs,h):=id rfl
theorem yDI:ygI eo ρ h=ob (eo ρ h) fun d h1=>some (.loc h1.length,h1++[d]):=id rfl
theorem x_call {f:Fn}:yW f aa ρ h=ob (aa ρ h) f:=id rfl
theorem yFK {f}:xCB f aa ρ h=ob (aa ρ h) f:=id rfl
theorem yDJ {f}:yhm f aa ρ h=ob (aa ρ h) f:=id rfl
theorem yCK {q} {p:PM}:xBM q p a aa ρ h=ob (a ρ h) fun x h1=>if q x h1=true then ob (aa ρ h1) fun xs h2=>p x xs h2 else none:=id rfl
theorem yxN {s:Str}:isStr (.str s) h=true:=id rfl
theorem yAK {f}:yfB f aa ρ h=ob (aa ρ h) f:=id rfl
theorem yAL:yM ρ h=some (.nx ρ,h):=id rfl
def sqK (u:XS):Out->AH->Option (Out×AH)
 | .nx ρ,h=>u ρ h
 | .rt x,h=>some (.rt x,h)
 | .bk ρ,h=>some (.bk ρ,h)
 | .ct ρ,h=>some (.ct ρ,h)
theorem yhG:yl s u ρ h=ob (s ρ h) (sqK u):=by
 unfold yl;congr;funext o h1;cases o<;>rfl
theorem yoY:sqK u (.nx ρ) h=u ρ h:=id rfl
theorem yDK:sqK u (.rt x) h=some (.rt x,h):=id rfl
theorem yqH:yZ a ρ h=ob (a ρ h) fun _ h1=>some (.nx ρ,h1):=id rfl
theorem yqI:yQ a ρ h=ob (a ρ h) fun x h1=>some (.rt x,h1):=id rfl
theorem yAM:ybD ca s u ρ h=ob (ca ρ h) fun k h1=>if k=true then s ρ h1 else u ρ h1:=id rfl
theorem ytX {g:XG}:ybs a g ρ h=ob (a ρ h) fun x h1=>(g x ρ).bind fun ρ'=>some (.nx ρ',h1):=id rfl
theorem yAN:yls eo i ρ h=ob (eo ρ h) fun d h1=>some (.nx (ρ.set i (.own d)),h1):=id rfl
theorem yAO:yp i x ρ=some (ρ.set i (.val x)):=id rfl
theorem yAP:yzu [] ρ=some ρ:=id rfl
theorem yxO {g:XG}{r:XGs}{xs:List PV}:yjJ g r (x::xs) ρ=(g x ρ).bind fun ρ'=>r xs ρ':=id rfl
theorem yDL:yvW i s ρ h=s (ymW i ρ) h:=id rfl
theorem yDM {v:PVar}:ymW 0 (v::ρ)=ytC v::ρ:=id rfl
theorem yDN {v:PVar}{n:Nat}:ymW (n+1) (v::ρ)=v::ymW n ρ:=id rfl
theorem yDO {xs:List PV}:ytC (.own (.lst xs))=.val (.lst xs):=id rfl
theorem ytY {e:XA}{g:XG}:yiS e g s ρ h=ob (e ρ h) fun xs h1=>ydZ g s xs ρ h1:=id rfl
def frK (g:XG) (s:XS) (xs:List PV):Out->AH->Option (Out×AH)
 | .nx ρ,h=>ydZ g s xs ρ h
 | .ct ρ,h=>ydZ g s xs ρ h
 | .bk ρ,h=>some (.nx ρ,h)
 | .rt y,h=>some (.rt y,h)
theorem yAQ {g:XG}{xs:List PV}:ydZ g s (x::xs) ρ h=(g x ρ).bind fun ρ1=>ob (s ρ1 h) (frK g s xs):=by
 unfold ydZ;congr;funext ρ1;congr;funext o h1;cases o<;>rfl
noncomputable def fnK:Out->AH->Option (PV×AH)
 | .rt x,h=>some (x,h)
 | .nx _,h=>some (.non,h)
 | _,_=>none
theorem yo {N:Nat}{xs:List PV}:ybk N s xs h=ob (s (xs.map .val++replicate (N-xs.length) .no) h) fnK:=by
 unfold ybk;congr;funext o h1;cases o<;>rfl
theorem yDP:fnK (.rt x) h=some (x,h):=id rfl
theorem yDQ:fnK (.nx ρ) h=some (.non,h):=id rfl
def yfQ (cs:List Nat) (f:Str) (x:PV) (h:AH):Option (PV×AH):=match ygX x h with|some (k,ns,xs)=>if k∈cs/\f∈ns then (match xs[ns.idxOf f]? with|some y=>some (y,h)|none=>none) else none|none=>none
theorem yjP {cs:List Nat}{f:Str}:ybb cs f a ρ h=ob (a ρ h) (yfQ cs f):=id rfl
theorem x_i {g:Int->Int->PV}{i j:Int}:oI g (.int i) (.int j) h=some (g i j,h):=id rfl
theorem yzw {C:Int->Int->Prop} [∀ i j,Decidable (C i j)] {g:Int->Int->PV}{i j:Int}:oIc C g (.int i) (.int j) h=if C i j then some (g i j,h) else none:=id rfl
theorem ylv {i j:Int}(h1:-18446744073709551616<j) (h2:j<18446744073709551616):MulOk i j=True:=eq_true (.inr ⟨h1,h2⟩)
theorem yDR {i j:Int}(h1:0<=i) (h2:i<18446744073709551616) (e:0<=j) (d:j<=1000000):PowOk i j=True:=eq_true ⟨⟨h1,h2⟩,e,d⟩
theorem yDS {i j:Int}:oEq (.int i) (.int j) h=some (.bl (decide (i=j)),h):=by simp [oEq,sv,yvH]
theorem yDT {i j:Str}:oEq (.str i) (.str j) h=some (.bl (decide (i=j)),h):=by simp [oEq,sv,yvH]
theorem yDU {i j:Int}:oNe (.int i) (.int j) h=some (.bl !decide (i=j),h):=by simp [oNe,sv,yvH]
theorem yDV {i j:Str}:oNe (.str i) (.str j) h=some (.bl !decide (i=j),h):=by simp [oNe,sv,yvH]
theorem yDW:yxI x .non h=some (.bl (isN x),h):=id rfl
theorem yAR:ytO x .non h=some (.bl !isN x,h):=id rfl
theorem yqJ {i j:Str}:ycQ (.str i) (.str j) h=if i.length+j.length<=100000 then some (.str (i++j),h) else none:=id rfl
theorem yeA {xs:List PV}{i:Int}:ybC (.lst xs) (.int i) h=(atI xs i).bind fun v=>some (v,h):=by
 simp only [ybC];cases atI xs i<;>rfl
theorem yDX {xs:List Int}{i:Int}:ybC (.scr xs) (.int i) h=(atI xs i).bind fun v=>some (.int v,h):=by
 simp only [ybC];cases atI xs i<;>rfl
theorem ydE {xs:List PV}{i:Int}:ybc (.tup xs) (.int i) h=(atI xs i).bind fun v=>some (v,h):=by
 simp only [ybc];grind
theorem yDY {s:Str}{i:Int}:yAx (.str s) (.int i) h=(atI s.cps.toList i).bind fun c=>if s.length<=100000 then some (sgn c,h) else none:=by
 simp only [yAx];cases atI s.cps.toList i<;>rfl
theorem yDZ {xs:List PV}{f e:Option Int}:yoU (.lst xs) f e h=some (.lst (ymX xs f e),h):=id rfl
theorem yAS {xs:List Int}{f e:Option Int}:yoU (.scr xs) f e h=some (.lst (ymX (xs.map .int) f e),h):=id rfl
theorem yxP {xs ys:List PV}:ysO (.lst xs) (.lst ys) h=if xs.length+ys.length<=100000 then some (.lst (xs++ys),h) else none:=id rfl
theorem yEa {xs:List PV}{k:Int}:yAz (.lst xs) (.int k) h=if -1000000<=k/\k<=100000/\xs.length*k.toNat<=100000 then some (.lst (repL k.toNat xs),h) else none:=id rfl
theorem yEb {p} {f e}:yqk p a f e ρ h=ob (a ρ h) fun x h1=>ob (f ρ h1) fun l h2=>ob (e ρ h2) fun u g=>p x l u g:=id rfl
theorem yAT:ygU a ρ h=ob (a ρ h) fun x h1=>match x with|.int i=>some (some i,h1)|_=>none:=id rfl
theorem ytZ:ydT ρ h=some (none,h):=id rfl
theorem yds {xs:List PV}:yba [.lst xs] h=some (.int xs.length,h):=id rfl
theorem yAU {xs:List PV}:yba [.tup xs] h=some (.int xs.length,h):=id rfl
theorem yAV {xs:List Int}:yba [.scr xs] h=some (.int xs.length,h):=id rfl
theorem yAW {z:Str}:ymY [.str z] h=if z.length<=100000 then some (.int z.length,h) else none:=id rfl
theorem yxQ {k:Bool}:yqC [.bl k] h=some (.int (if k then 1 else 0),h):=id rfl
theorem yqK {k:Int}:yiy [.int k] h=if k.natAbs.log2<1920 then some (.str (toString k),h) else none:=id rfl
theorem yxR {xs:List PV}:yX [.lst xs] h=some (.lst xs,h):=id rfl
theorem yFL {xs:List PV}(e:a ρ h=some (.lst xs,h1)):xIL a ρ h=some (xs,h1):=by unfold xIL;rw [e];rfl
theorem ywa {e:XA}{ix:List Nat}:yel e ix a ρ h=ob (e ρ h) fun xs h1=>if xs.length<=100000 then ob (ygW a (yfP ix ρ) xs h1) fun ys h2=>some (.lst ys,h2) else none:=id rfl
end
end PX
namespace L2
open PySem PySem.Spec PyProof.Rows
section
variable {κ:Type} [DecidableEq κ]
noncomputable def ylw (kvs:List (κ×V)) (k:κ):Option V:=(kvs.find? fun kv=>decide (kv.1=k)).map (·.2)
noncomputable def putK (kvs:List (κ×V)) (k:κ) (v:V):List (κ×V) :=
 if (kvs.any fun kv=>decide (kv.1=k))=true then kvs.map (fun kv=>if kv.1=k then (kv.1,v) else kv) else kvs++[(k,v)]
theorem yjQ {p:κ×V}{r:List _}{k:κ}(e:p.1=k):ylw (p::r) k=some p.2:=by simp [ylw,find?_cons,e]
theorem yjR {p:κ×V}{r:List _}{k:κ}(e:¬ p.1=k):ylw (p::r) k=ylw r k:=by simp [ylw,find?_cons,e]
theorem ynU (k:κ):∀ kvs,(kvs.any fun b=>decide (b.1=k))=(ylw kvs k).isSome
 | []=>rfl
 | p::r=>by
  rw [any_cons]
  by_cases e:p.1=k
  .simp only [yjQ e,decide_eq_true e,Bool.true_or,Option.isSome_some]
  .rw [yjR e,decide_eq_false e];exact ynU k r
theorem yfC kvs (k:κ) v:(putK kvs k v).length<=kvs.length+1:=by
 unfold putK
 grind
theorem RelO.isSome_eq {o:Option V}{u:Option Value}(r:RelO o u):o.isSome=u.isSome:=by
 cases o with
 | none=>cases u with
  | none=>rfl
  | some _=>exact (r).elim
 | some _=>cases u with
  | none=>exact (r).elim
  | some _=>rfl
theorem KV.val {kvs:List _}{vs:List _}(r:KV kvs vs) (k:κ):RelO (ylw kvs k) (valueAt vs k):=by
 induction r with
 | nil=>exact True.intro
 | @cons p q ps qs h t ih =>
  obtain ⟨h1,h2⟩:=h
  by_cases e:p.1=k
  .have c:=h1.symm.trans e
   have b:valueAt (q::qs) k=some q.2:=by simp [valueAt,find?_cons,c]
   rw [yjQ e,b];exact h2
  .have c:¬ q.1=k:=fun z=>e (h1.trans z)
   have b:valueAt (q::qs) k=valueAt qs k:=by simp [valueAt,find?_cons,c]
   rw [yjR e,b];exact ih
theorem KV.any {kvs:List _}{vs:List _}(r:KV kvs vs) (k:κ):(kvs.any fun b=>decide (b.1=k))=vs.any fun b=>decide (b.1=k):=by
 induction r with
 | nil=>rfl
 | cons h t ih=>grind
theorem KV.repl {kvs:List _}{vs:List _}(r:KV kvs vs) (k:κ) {y:V}{u:Value}(c:RelV y u) :
  KV (kvs.map fun b=>if b.1=k then (b.1,y) else b) (vs.map fun b=>if b.1=k then (b.1,u) else b):=by
 induction r with
 | nil=>exact .nil
 | @cons p q ps qs h t ih =>
  refine .cons ?_ ih
  grind
theorem KV.put {kvs:List _}{vs:List _}(r:KV kvs vs) (k:κ) {y:V}{u:Value}(b:RelV y u):KV (putK kvs k y) (stored vs k u):=by
 unfold putK stored
 rw [r.any k]
 by_cases e:(vs.any fun c=>decide (c.1=k))=true
 .rw [if_pos e,if_pos e];exact r.repl k b
 .rw [if_neg e,if_neg e];exact Paired.snoc r ⟨rfl,b⟩
theorem KV.length {kvs:List (κ×V)}{vs:List _}(r:KV kvs vs):kvs.length=vs.length:=Paired.length r
end
theorem yua {P:Program}{w:World}{k:Key}{u:Value}(r:RelV (kV k) u):(ycD P w).is k u=true:=by
 cases k with
 | inl i=>obtain ⟨t,e⟩:=(r);subst e;exact ymv P w i t
 | inr x=>obtain ⟨t,e⟩:=(r);subst e;exact ymw P w x t
theorem ylx {P:Program}{w:World}:∀ {ks:List Key}{us:List Value},Vals (ks.map kV) us->ItemsAre (ycD P w) ks us
 | [],_,r=>by cases r;exact .nil
 | k::ks,_,r=>by
  cases r with
  | cons h t=>exact .cons (yua h) (ylx t)
abbrev KT (H:Hp):List (List Key×V)->List (List Key×Addr×Value)->Prop:=Paired fun p q=>p.1=q.1/\H q.2.1=some (.tup (p.1.map kV))/\RelV p.2 q.2.2
theorem KT.val {H:Hp}{kvs:List _}{xs:List _}(r:KT H kvs xs) k:RelO (ylw kvs k) ((atKey xs k).map (·.2)):=by
 induction r with
 | nil=>exact True.intro
 | @cons p q ps qs h t ih =>
  obtain ⟨h1,_,h2⟩:=h
  by_cases e:p.1=k
  .have c:=h1.symm.trans e
   have b:atKey (q::qs) k=some q.2:=by simp [atKey,find?_cons,c]
   rw [yjQ e,b];exact h2
  .have c:¬ q.1=k:=fun z=>e (h1.trans z)
   have b:atKey (q::qs) k=atKey qs k:=by simp [atKey,find?_cons,c]
   rw [yjR e,b];exact ih
theorem KT.repl {H:Hp}{kvs:List _}{xs:List _}(r:KT H kvs xs) k {y:V}{u:Value}(c:RelV y u) :
  KT H (kvs.map fun b=>if b.1=k then (b.1,y) else b) (xs.map (putAt k u)):=by
 induction r with
 | nil=>exact .nil
 | @cons p q ps qs h t ih =>
  refine .cons ?_ ih
  unfold putAt
  grind
theorem KT.put {H:Hp}{kvs:List _}{xs:List _}(r:KT H kvs xs) k {b:Addr}{y:V}{u:Value}(d:H b=some (.tup (k.map kV))) (c:RelV y u) :
  KT H (putK kvs k y) (storedH xs k b u):=by
 have e:(kvs.any fun f=>decide (f.1=k))=(atKey xs k).isSome:=by
  rw [ynU,(r.val k).isSome_eq,isSome_map]
 unfold putK storedH
 rw [e]
 by_cases q:(atKey xs k).isSome=true
 .rw [if_pos q,if_pos q];exact r.repl k c
 .rw [if_neg q,if_neg q];exact Paired.snoc r ⟨rfl,d,c⟩
theorem KT.keeps {H c:Hp}{kvs:List _}{xs:List _}(r:KT H kvs xs) (d:∀ b ys,H b=some (.tup ys)->c b=some (.tup ys)):KT c kvs xs :=
 Paired.mapP r fun _ _ z=>⟨z.1,d _ _ z.2.1,z.2.2⟩
section
variable {P:Program}{w:World}{H:Hp}{h:Heap}{a:Addr}
theorem yAX {u:HO}(b:HOk P w H h) (e:Rd H a u):ObjOk P w H h a u:=e.ok b
theorem yub {kvs:List _}(c:HOk P w H h) (e:Rd H a (.dK kvs)):kvs.length<=sizeLine/\(a == sysModules)=false/\∃ vs,KV kvs vs/\h.DictOf (ycD P w) a vs :=
 yAX c e
theorem yxS {kvs:List _}(c:HOk P w H h) (e:H a=some (.dK kvs)):kvs.length<=sizeLine/\(a == sysModules)=false/\∃ vs,KV kvs vs/\h.DictOf (ycD P w) a vs:=yub c (.inl e)
theorem ynV {ks:List Key}(d:HOk P w H h) (e:H a=some (.tup (ks.map kV))):(tupleKind (ycD P w)).is h ks a:=by
 obtain ⟨_,its,r,o,h1,h2,n,c⟩:=(d a _ e)
 exact ⟨o,its.toArray,n,h1,h2,c,by simpa using ylx r⟩
theorem yuc {kvs:List _}(f:HOk P w H h) (e:Rd H a (.dT kvs)):kvs.length<=sizeLine/\(a == sysModules)=false /\
  ∃ xs,KT H kvs xs/\h.DictOfH (tupleKind (ycD P w)) a xs:=by
 obtain ⟨z,y,xs,r,o,es,ep,h1,h2,g,i,j⟩:=(yAX f e)
 refine ⟨z,y,xs,r,o,es,ep,h1,h2,g,i,fun x c=>?_,j⟩
 have d:∀ {l:List _}{m:List _},KT H l m->∀ x∈m,(tupleKind (ycD P w)).is h x.1 x.2.1:=by
  intro l m q
  induction q with
  | nil=>grind
  | @cons p q ps qs hq t ih =>
   intro x c
   rcases mem_cons.mp c with e|c
   .exact ynV f (by simp_all)
   .exact ih x c
 exact d r x c
theorem yEc {kvs:List _}(c:HOk P w H h) (e:H a=some (.dT kvs)):kvs.length<=sizeLine/\(a == sysModules)=false /\
  ∃ xs,KT H kvs xs/\h.DictOfH (tupleKind (ycD P w)) a xs:=yuc c (.inl e)
end
def DGet (H:Hp) (a:Addr) (y:V) (r:Option V):Prop :=
 (∃ kvs k,Rd H a (.dK kvs)/\y=kV k/\r=ylw kvs k)\/∃ kvs k b,Rd H a (.dT kvs)/\y=.ref b/\H b=some (.tup (k.map kV))/\r=ylw kvs k
def DPut (H:Hp) (a:Addr) (y v:V) (H':Hp):Prop :=
 (∃ kvs k,H a=some (.dK kvs)/\y=kV k/\kvs.length<sizeLine/\H'=upd H a (.dK (putK kvs k v))) \/
 ∃ kvs k b,H a=some (.dT kvs)/\y=.ref b/\H b=some (.tup (k.map kV))/\kvs.length<sizeLine/\H'=upd H a (.dT (putK kvs k v))
theorem DPut.k {H:Hp}{a:Addr}{kvs:List _}{k:Key}{v:V}(e:H a=some (.dK kvs)) (hl:kvs.length<sizeLine):DPut H a (kV k) v (upd H a (.dK (putK kvs k v))):=.inl ⟨kvs,k,e,rfl,hl,rfl⟩
section
variable {X:Cx}{pins:List (Addr×Obj)}{σ:St}{H:Hp}{s:Shared}{a:Addr}{y v:V}{u r:Value}{o:Option V}{A:Around}{E:Value->Shared->Prop}
theorem Inv.big (I:Inv X pins σ H s):sysModules<s.heap.objs.size:=by
 have h:=(I.mod.glob.keeps I.bk).lt
 exact Nat.lt_trans (by decide) h
theorem yqL {Q:Value->Shared->Prop}(t:A.units+1<cLine) (I:Inv X pins σ H s) (g:DGet H a y (some v)) (n:RelV y u) (h:∀ f s',Inv X pins σ H s'->RelV v f->Q f s') :
  wpAny (model X.prog X.w) A (getItem (.ref a) u) Q E s:=by
 rcases g with ⟨kvs,k,e,m,l⟩|⟨kvs,k,b,e,m,q,l⟩
 .subst m
  obtain ⟨z,w,vs,d,dd⟩:=yub I.hok e
  obtain ⟨f,j,c⟩:=RelO.some_of (by rw [l];exact d.val k)
  exact wpAny_getItem_of (yua n) dd.mapOf j (h f _ (I.tok _) c)
 .subst m
  cases (n)
  obtain ⟨z,w,xs,d,dd⟩:=yuc I.hok e
  obtain ⟨f,j,c⟩:=RelO.some_of (by rw [l];exact d.val k)
  obtain ⟨p,hp,i⟩:=Option.map_eq_some_iff.mp j
  refine wpAny_getItem_heap (tupleKind_room_in1 t) (ynV I.hok q) dd hp ?_
  rw [i]
  exact h f _ (I.tok _) c
theorem yFM {Q:Value->Shared->Prop}(j:A.units+1<cLine) (I:Inv X pins σ H s) (g:DGet H a y o) (i:RelV y u) (h:∀ s',Inv X pins σ H s'->Q (.bool o.isSome) s') :
  wpAny (model X.prog X.w) A (compareOp .In u (.ref a)) Q E s:=by
 rcases g with ⟨kvs,k,e,f,l⟩|⟨kvs,k,b,e,f,m,l⟩
 .subst f
  obtain ⟨z,d,vs,c,dd⟩:=yub I.hok e
  refine wpAny_in_of (yua i) d dd.mapOf ?_
  rw [<- (c.val k).isSome_eq,<- l]
  exact h _ (I.tok _)
 .subst f
  cases (i)
  obtain ⟨z,d,xs,c,dd⟩:=yuc I.hok e
  refine wpAny_in_heap (tupleKind_room_in1 j) (ynV I.hok m) d dd ?_
  have q:=(c.val k).isSome_eq
  rw [isSome_map] at q
  rw [<- q,<- l]
  exact h _ (I.tok _)
theorem yna {h':Heap}{t':Nat}{c:HO}(I:Inv X pins σ H s) (e:Mut (H a)) (hs:Heap.SameBut a s.heap h') (g:∃ q,h'.get? a=some q) (d:ObjOk X.prog X.w (upd H a c) h' a c) :
  Inv X pins σ (upd H a c) { s with heap:=h',toks:=t' } :=
 I.write e (.inl rfl) (fun b q f z=>(hs.2 b f).trans z) g d
theorem ywb {P:Program}{w:World}{d:Hp}{h':Heap}{kvs:List _}{vs:List _}(z:kvs.length<=sizeLine) (c:(a == sysModules)=false) (b:KV kvs vs) (dd:h'.DictOf (ycD P w) a vs) :
  ObjOk P w d h' a (.dK kvs):=⟨z,c,vs,b,dd⟩
theorem yqM {t:Hp}{Q:Unit->Shared->Prop}(C:A.units+1<cLine) (I:Inv X pins σ H s) (g:DPut H a y v t) (B:RelV y u) (p:RelV v r) (h:∀ s',Inv X pins σ t s'->Q () s') :
  wpAny (model X.prog X.w) A (setItem (.ref a) u r) Q E s:=by
 rcases g with ⟨kvs,k,e,n,l,j⟩|⟨kvs,k,b,e,n,w,l,j⟩
 .subst n j
  obtain ⟨z,m,vs,d,dd⟩:=yxS I.hok e
  have hz:vs.length<=sizeLine:=by rw [<- d.length];exact z
  have hl:(putK kvs k v).length<=sizeLine:=by have:=yfC kvs k v;omega
  refine wpAny_setItem_pairs (yua B) dd fun h' f hs=>h _ ?_
  have D:∃ q,h'.get? a=some q:=let ⟨q,_,_,i,_⟩:=f;⟨q,i⟩
  exact yna I (by rw [e];exact True.intro) hs D (ywb hl m (d.put k p) f)
 .subst n j
  cases (B)
  obtain ⟨z,m,xs,d,dd⟩:=yEc I.hok e
  have hz:xs.length<=sizeLine:=by rw [<- Paired.length d];exact z
  have hl:(putK kvs k v).length<=sizeLine:=by have:=yfC kvs k v;omega
  refine wpAny_setItem_heap (tupleKind_room_in1 C) (ynV I.hok w) dd fun h' f hs=>h _ ?_
  obtain ⟨q,es,ep,i,h2,F,G,_,J⟩:=f
  refine yna I (by rw [e];exact True.intro) hs ⟨q,i⟩ ⟨hl,m,_,(d.put k w p).keeps fun c ys x=>?_,q,es,ep,i,h2,F,G,J⟩
  rw [yI (yCR x e fun z=>nomatch z)]
  exact x
end
noncomputable def yEd (i:Expr):Prop:=∀ ov iv,subscripted i false ov iv=operate [ov,iv] (getItem ov iv)
theorem yxT {prog:Program}{w:World}{A:Around}{E:Value->Shared->Prop}{s:Shared}{env:Env}{value slice:Expr}{pos:Pos}{T id:String}{Q:Value->Shared->Prop}
  (hl:typeLookup (.type T) "__getitem__" = pure (some (.builtin id))) (hs:yEd slice)
  (h:wpAny (model prog w) A (eval value env) (fun o d=>wpAny (model prog w) A (eval slice env) (fun i b=>b.TypeIs o T/\wpAny (model prog w) A (getItem o i) Q E b) E d) E s) :
  wpAny (model prog w) A (eval (.Subscript value slice pos) env) Q E s:=by
 refine Subscript_ (wpAny_mono h (fun o d h₁=>wpAny_mono h₁ (fun i b c=>?_) fun _ _ x=>x) fun _ _ x=>x)
 obtain ⟨j,c⟩:=c
 refine wpAny_bind ?_
 refine wpAny_bind (wpAny_specialOf j hl ?_)
 have g:wpAny (model prog w) A (subscripted slice false o i) (fun r e=>wpAny (model prog w) A (letTemporaryGo value o r >>= fun _=>pure r) Q E e) E b:=by
  rw [hs o i]
  exact wpAny_operating (wpAny_mono c (fun r e f=>wpAny_bind (wpAny_letTemporaryGo (wpAny_pure f))) fun _ _ x=>x)
 first
  | exact wpAny_pure (wpAny_bind g)
  | simp_all
  | exact wpAny_bind g
theorem ynb {X:Cx}{d:List _}{σ:St}{H:Hp}{s:Shared}{a:Addr}{y:V}{o:Option V}(I:Inv X d σ H s) (g:DGet H a y o):s.TypeIs (.ref a) "dict":=by
 rcases g with ⟨kvs,k,e,_,_⟩|⟨kvs,k,b,e,_,_,_⟩
 .obtain ⟨_,_,vs,_,dd⟩:=yub I.hok e
  exact dd.typeIs
 .obtain ⟨_,_,xs,_,dd⟩:=yuc I.hok e
  exact dd.typeIs
def yAY (td ty:TE):TE:=fun σ H Q=>td σ H fun x H1=>ty σ H1 fun y H2=>∃ a v,x=.ref a/\DGet H2 a y (some v)/\Q v H2
def yFi (ty td:TE):TE:=fun σ H Q=>ty σ H fun y H1=>td σ H1 fun x H2=>∃ a o,x=.ref a/\DGet H2 a y o/\Q (.bl o.isSome) H2
def yAZ (td ty tv:TE):TS:=fun D σ H=>tv σ H fun v H1=>td σ H1 fun x H2=>ty σ H2 fun y H3=>∃ a H4,x=.ref a/\DPut H3 a y v H4/\D.nx σ H4
section
variable {X:Cx}{o i e value:Expr}{pos pos' tpos:Pos}{td ty tv:TE}
theorem yxU (m:X.A.units+1<cLine) (t:PE X o td) (p:PE X i ty) (hs:yEd i):PE X (.Subscript o i pos) (yAY td ty):=by
 intro c s σ H Q I h
 refine yxT PySem.F.slot_dict_getitem.lookup hs (thn (t c s σ H _ I h) fun u s1 ⟨x,r,q,n,w⟩=>thn (p c s1 σ r _ q w) fun B s2 ⟨y,A,f,j,a,v,z,g,l⟩=>?_)
 subst z
 obtain rfl:u=Value.ref a:=n
 exact ⟨ynb f g,yqL m f g j fun C s3 k d=>⟨v,A,k,d,l⟩⟩
theorem ywc (d:X.A.units+1<cLine) (r:PE X i ty) (n:PE X o td):PC X .In i o (yFi ty td):=by
 intro c s σ H Q I h
 refine thn (r c s σ H _ I h) fun A s1 ⟨y,m,w,t,k⟩=>thn (n c s1 σ m _ w k) fun u s2 ⟨x,p,f,v,a,j,q,g,l⟩=>?_
 subst q
 obtain rfl:u=Value.ref a:=v
 exact yFM d f g t fun s3 z=>⟨.bl j.isSome,p,z,rfl,l⟩
theorem yxV (z:X.A.units+1<cLine) (t:PE X o td) (q:PE X i ty) (f:PE X value tv) (hs:swapsWith value (some (.Subscript o i pos')) pos.line X.env=pure false) :
  PS X (.Assign [.Subscript o i pos'] value pos) (yAZ td ty tv):=by
 intro c s σ H D I h
 refine wpAny_Assign_Subscript (thn (f c s σ H _ I h) fun r s1 ⟨v,B,d,F,m⟩=>thn (t c s1 σ B _ d m) fun u s2 ⟨x,E,j,p,l⟩=>thn (q c s2 σ E _ j l) fun L s3 ⟨y,J,A,C,a,k,w,g,n⟩=>?_) hs
 subst w
 obtain rfl:u=Value.ref a:=p
 exact yqM z A g C F fun s4 G=>⟨σ,k,G,n⟩
end
theorem yud {P:Program}{w:World}{H:Hp}(h:Heap) (b:sysModules<h.objs.size):ObjOk P w H (h.push { cls:=.type "dict",data:=.dict #[] }) h.objs.size (.dK []) :=
 ⟨zero_le _,beq_eq_false_iff_ne.mpr (Ne.symm (ne_of_lt b)),[],.nil,Heap.DictOf.new h⟩
def ywd:TE:=fun _ H Q=>∀ p,H p=none->Q (.ref p) (upd H p (.dK []))
section
variable {X:Cx}{pos:Pos}
theorem yue:PE X (.Dict [] [] pos) ywd:=fun b s σ H Q I h =>
 wpAny_Dict_empty ⟨.ref s.heap.objs.size,_,I.laid (fun _ _ q=>Heap.get?_push_of_some _ q) (Nat.le_refl _) (yud s.heap I.big),rfl,h _ (I.hok.fresh (Nat.le_refl _))⟩
end
def yqN (kvs more:List (Key×V)):List (Key×V):=more.foldl (fun acc kv=>putK acc kv.1 kv.2) kvs
theorem KV.merge:∀ {b:List _}{c:List _}{kvs:List _}{vs:List _},KV b c->KV kvs vs->KV (yqN kvs b) (merged vs c):=by
 intro b c kvs vs r
 induction r generalizing kvs vs with
 | nil=>intro q;exact q
 | @cons p q ps qs h t ih =>
  intro d
  have e:KV (putK kvs p.1 p.2) (stored vs q.1 q.2):=by
   have:=d.put p.1 h.2
   grind
  exact ih e
theorem yfY:∀ b kvs,(yqN kvs b).length<=kvs.length+b.length
 | [],kvs=>by show kvs.length<=kvs.length+0;omega
 | p::r,kvs=>by
  have h1:=yfY r (putK kvs p.1 p.2)
  have h2:=yfC kvs p.1 p.2
  show (yqN _ r).length<=_
  grind
structure M2 (X:Cx) (o:Expr) (m:Str) (apos:Pos) (e f:Expr) (cpos:Pos):Prop where
 base:attributeBase o m X.env (eval o X.env)=eval o X.env
 few:((backTo cpos (starEach [e,f] X.env)).all (fun x=>!x.1) && (backToKw cpos (keywordEach [] X.env)).all (fun x=>x.1.isSome)
  && decide (([e,f]:List Expr).length+([]:List Keyword).length+(if ([]:List Keyword).isEmpty then 0 else 1)<30))=true
 line:(apos.endLine == cpos.line)=true
 trees:backTo cpos (starEach [e,f] X.env)=[(false,eval e X.env),(false,eval f X.env)]
end L2
namespace PX
open PySem L2
variable {K:Ck}
theorem yja {α:Type}{l:List α}(h:l.Nodup) {i j:Nat} c (b:j<l.length) (e:l[i]=l[j]):i=j:=by
 have p:=List.pairwise_iff_getElem.mp h
 rcases Nat.lt_trichotomy i j with z|z|z
 .exact absurd e (p i j c b z)
 .exact z
 .exact absurd e.symm (p j i b c z)
def yjS (W:Wd) (n:Nat) (a:Addr) (o:HO) (d:Nd):Wd:=⟨W.F,upd W.H a o,W.m,W.h.set n d⟩
theorem yeJ {W:Wd}(w:WOk K W) {n:Nat}{d d':Nd}{a:Addr}{o:HO}(e:W.h[n]?=some d) (k:W.m[n]?=some a) (y:W.F a=none) (at':NdAt K W.F (upd W.H a o) W.m d' a) (B:∀ ks xs,d≠.fz ks xs:=by intro _ _ z;cases z):Le K W (yjS W n a o d'):=by
 have A:=(List.getElem?_eq_some_iff.mp e).1
 have l:=mem_of_getElem? k
 refine ⟨⟨fun b u q=>?_,by show W.m.length=(W.h.set n d').length;rw [length_set];exact w.len,w.nd,fun j v b g h=>?_⟩,Same.refl _,prefix_refl _,fun b u q p=>?_,fun b u _ _ f=>f,fun b z x=>absurd z x,fun j ks xs g=>?_⟩
 .have:=ybr q y
  exact (yI this).trans (w.le _ _ q)
 .have g:(W.h.set n d')[j]?=some v:=g
  by_cases i:n=j
  .subst i
   rw [getElem?_set_self A] at g
   cases g
   have h:W.m[n]?=some b:=h
   rw [k] at h
   cases h
   exact at'
  .rw [getElem?_set_ne i] at g
   have p:b≠a:=fun z=>by
    subst z
    have h1:=List.getElem?_eq_some_iff.mp k
    have h2:=List.getElem?_eq_some_iff.mp h
    obtain ⟨s,t⟩:=h1
    obtain ⟨r,m⟩:=h2
    exact i (yja w.nd s r (t.trans m.symm))
   exact (w.at_ j v b g h).mono (Same.refl _) (prefix_refl _) (fun u q=>(yI p).trans q) id
 .have:b≠a:=fun z=>p (z ▸ l)
  exact (yI this).trans q
 .have i:n≠j:=fun z=>by
   subst z
   rw [e] at g
   simp_all
  refine ⟨(getElem?_set_ne i).trans g,fun b h=>yI fun z=>?_⟩
  subst z
  obtain ⟨s,t⟩:=List.getElem?_eq_some_iff.mp k
  obtain ⟨r,m⟩:=List.getElem?_eq_some_iff.mp h
  exact i (yja w.nd s r (t.trans m.symm))
def yfj:PV->AH->Bool:=fun x h=>match ybE x h with|some _=>true|none=>false
theorem ynW {W:Wd}{x:PV}{v:V}(w:WOk K W) (r:ycC K W x v) (c:yfj x W.h=true):tyV K.K "list" v W.H:=by
 unfold yfj at c
 split at c
 .rename_i xs b
  obtain ⟨a,vs,rfl,hs,_⟩:=yU w b r
  exact .inl ⟨rfl,vs,SqL.of hs⟩
 .cases c
def yfZ:PM:=fun x ys h=>match x,ys with|.loc n,[y]=>(match h[n]? with|some (.lst xs)=>if xs.length<100000 then some (.non,h.set n (.lst (xs++[y]))) else none|_=>none)|_,_=>none
theorem ynX:yix K "list" yfj ymC yfZ:=by
 refine ⟨fun W x v w r c=>ynW w r c,fun W x v xs vs Q z h' w j r e q=>?_⟩
 unfold yfZ at e
 split at e
 .rename_i n y
  split at e
  .rename_i ys f
   split at e
   .rename_i hl
    cases e
    obtain ⟨u,rfl,h⟩:=ylt r
    obtain ⟨a,ev,i,g,us,hp,d⟩:=w.loc f j
    refine ⟨a,us,u,ev,rfl,hp,by rw [d.len];exact big hl,?_⟩
    exact q _ (yjS W n a _ _) rfl (yeJ w f i g ⟨g,_,yB,d.snoc h⟩) rfl
   .cases e
  .cases e
 .cases e
def ygY:PM:=fun x ys h=>match x,ys with|.loc n,[]=>(match h[n]? with|some (.lst xs)=>(match xs[xs.length-1]? with|some y=>some (y,h.set n (.lst xs.dropLast))|none=>none)|_=>none)|_,_=>none
theorem RepL.dropLast {F:Hp}{m:List Addr}{xs:List PV}{vs:List V}(r:RepL K F m xs vs):RepL K F m xs.dropLast vs.dropLast:=by
 rw [List.dropLast_eq_take,List.dropLast_eq_take,r.len]
 exact r.take _
theorem ynY:yix K "list" yfj yEZ ygY:=by
 refine ⟨fun W x v w r c=>ynW w r c,fun W x v xs vs Q z h' w k r e q=>?_⟩
 unfold ygY at e
 split at e
 .rename_i n
  split at e
  .rename_i ys g
   split at e
   .rename_i y l
    cases e
    obtain rfl:vs=[]:=r
    obtain ⟨a,ev,j,f,us,hp,d⟩:=w.loc g k
    obtain ⟨u,h,i⟩:=d.get l
    refine ⟨a,us,u,ev,rfl,hp,by rw [d.len];exact h,?_⟩
    exact q u (yjS W n a _ _) rfl (yeJ w g j f ⟨f,_,yB,d.dropLast⟩) i
   .cases e
  .cases e
 .cases e
def yea (eo ei ev:XE):XS:=fun ρ h=>ob (ev ρ h) fun v h1=>ob (eo ρ h1) fun o h2=>ob (ei ρ h2) fun i h3=>match o,i with
 | .loc n,.int k=>(match h3[n]? with|some (.lst xs)=>(match ixN xs.length k with|some j=>some (.nx ρ,h3.set n (.lst (xs.set j v)))|none=>none)|_=>none)
 | _,_=>none
theorem yuf {A u y:TE}{eo ei ev:XE}(a:ybM K A eo) (b:ybM K u ei) (c:ybM K y ev):yeG K (yvD y (yES A u yAi)) (yea eo ei ev):=by
 intro s W ρ σ D o h' g e q
 obtain ⟨v,h1,I,L⟩:=yg e
 obtain ⟨x,h2,Q,S⟩:=yg L
 obtain ⟨i,H,E,f⟩:=yg S
 refine c s W ρ σ _ v h1 g I fun Z T M r N=>?_
 subst M
 refine a s T ρ σ _ x h2 (g.step r) Q fun Y F O m r2=>?_
 subst O
 refine b s F ρ σ _ i H (g.step (r.trans m)) E fun X B G h P=>?_
 subst G
 have w:=h.ok
 split at f
 .rename_i n k
  split at f
  .rename_i xs t
   split at f
   .rename_i j J
    cases f
    obtain ⟨p,ep,U,z,us,hp,C⟩:=w.loc t (h.rep r2)
    refine ⟨p,us,k,j,ep,P,hp,by rw [C.len];exact J,?_⟩
    have R:Le K B (yjS B n p _ (.lst _)):=yeJ w t U z ⟨z,_,yB,C.set j ((m.trans h).rep N)⟩
    have l:=r.trans (m.trans (h.trans R))
    exact q _ σ rfl l.lf (g.step l)
   .cases f
  .cases f
 .cases f
noncomputable def keyOf:PV->Option Key
 | .int i=>some (.inl i)
 | .str s=>some (.inr s)
 | _=>none
theorem yhH {W:Wd}{x:PV}{v:V}{k:Key}(e:keyOf x=some k) (r:ycC K W x v):v=kV k:=by
 cases x<;>cases e<;>exact r
noncomputable def yly (x:PV) (h:AH):Option (List Key×List PV):=match x with|.loc n=>(match h[n]? with|some (.dct ks xs)=>some (ks,xs)|_=>none)|_=>none
noncomputable def yhI:List Key->List PV->Key->Option PV
 | k::ks,x::xs,j=>if k=j then some x else yhI ks xs j
 | _,_,_=>none
noncomputable def yqO:List Key->Key->Bool
 | [],_=>false
 | k::ks,j=>if k=j then true else yqO ks j
noncomputable def setK {α:Type}:List Key->List α->Key->α->List α
 | k::ks,x::xs,j,y=>if k=j then y::setK ks xs j y else x::setK ks xs j y
 | _,xs,_,_=>xs
def ycK (ks:List Key) (xs:List PV) (k:Key) (x:PV):List Key×List PV:=if yqO ks k=true then (ks,setK ks xs k x) else (ks++[k],xs++[x])
theorem yjT {α:Type}:∀ ks xs j (y:α),(setK ks xs j y).length=xs.length
 | [],_,_,_=>rfl
 | _::_,[],_,_=>rfl
 | k::ks,x::xs,j,y=>by
  show (if k=j then y::setK ks xs j y else x::setK ks xs j y).length=_
  split<;>simp [yjT ks xs j y]
theorem RepL.setK {F:Hp}{m:List Addr}:∀ {xs:List PV}{vs:List V} ks j {y:PV}{u:V},RepL K F m xs vs->Rep K F m y u->RepL K F m (PX.setK ks xs j y) (PX.setK ks vs j u)
 | [],_,ks,j,y,u,h,_=>by rw [h];cases ks<;>exact rfl
 | x::xs,_,[],j,y,u,h,_=>by
  obtain ⟨v,r,e,h1,l⟩:=h
  subst e
  exact ⟨v,r,rfl,h1,l⟩
 | x::xs,_,k::ks,j,y,u,⟨v,r,e,h1,l⟩,b=>by
  subst e
  show RepL K F m (if k=j then y::PX.setK ks xs j y else x::PX.setK ks xs j y) (if k=j then u::PX.setK ks r j u else v::PX.setK ks r j u)
  have c:=RepL.setK ks j l b
  split
  .exact ⟨u,_,rfl,b,c⟩
  .exact ⟨v,_,rfl,h1,c⟩
theorem yjU {F:Hp}{m:List Addr}:∀ {ks:List Key}{xs:List PV}{vs:List V} j,RepL K F m xs vs->vs.length=ks.length->(∀ x,yhI ks xs j=some x->∃ v,ylw (ks.zip vs) j=some v/\Rep K F m x v)/\(yhI ks xs j=none->ylw (ks.zip vs) j=none)
 | [],xs,vs,j,r,hl=>by
  refine ⟨fun x e=>?_,fun _=>rfl⟩
  cases xs<;>cases e
 | k::ks,[],vs,j,r,hl=>by rw [r] at hl;cases hl
 | k::ks,x::xs,_,j,⟨v,c,e,h,l⟩,hl=>by
  subst e
  have d:=yjU j l (by simpa using hl)
  have hz:ylw ((k::ks).zip (v::c)) j=if k=j then some v else ylw (ks.zip c) j:=by
   unfold ylw
   by_cases b:k=j
   .simp [b]
   .simp [b]
  show (∀ y,(if k=j then some x else yhI ks xs j)=some y->_)/\((if k=j then some x else yhI ks xs j)=none->_)
  by_cases b:k=j
  .simp_all
  simp_all
theorem yqP j:∀ ks (vs:List V),vs.length=ks.length->((ks.zip vs).any fun b=>decide (b.1=j))=yqO ks j
 | [],_,_=>by simp [yqO]
 | k::ks,[],h=>by cases h
 | k::ks,v::vs,h=>by
  rw [zip_cons_cons,any_cons,yqP j ks vs (by simpa using h)]
  show (decide _ || yqO ks j)=if k=j then true else yqO ks j
  simp_all
theorem yqQ j (y:V):∀ (ks:List Key) vs,vs.length=ks.length->(ks.zip vs).map (fun b=>if b.1=j then (b.1,y) else b)=ks.zip (setK ks vs j y)
 | [],_,_=>rfl
 | k::ks,[],h=>rfl
 | k::ks,v::vs,h=>by
  rw [zip_cons_cons,map_cons,yqQ j y ks vs (by simpa using h)]
  show (if k=j then (k,y) else (k,v))::_=(k::ks).zip (if k=j then y::setK ks vs j y else v::setK ks vs j y)
  by_cases c:k=j
  .simp_all
  simp_all
theorem ynZ j y ks vs (hl:vs.length=ks.length):putK (ks.zip vs) j y=if yqO ks j=true then ks.zip (setK ks vs j y) else (ks++[j]).zip (vs++[y]):=by
 unfold putK
 rw [yqP j ks vs hl,yqQ j y ks vs hl,List.zip_append hl.symm]
 rfl
theorem ylz {W:Wd}(w:WOk K W) {x:PV}{v:V}{ks:List Key}{xs:List PV}(e:yly x W.h=some (ks,xs)) (r:ycC K W x v):∃ a vs,v=.ref a/\W.H a=some (.dK (ks.zip vs))/\vs.length=ks.length/\ycy K W xs vs:=by
 unfold yly at e
 split at e
 .split at e
  .rename_i d
   cases e
   obtain ⟨a,ev,f,g,vs,hp,hl,c⟩:=w.loc d r
   exact ⟨a,vs,ev,hp,hl,c⟩
  .cases e
 .cases e
noncomputable def ywe (x:PV) (h:AH):Option (List Key×List PV):=match x with|.loc n=>(match h[n]? with|some (.dct ks xs)=>some (ks,xs)|some (.fz ks xs)=>some (ks,xs)|_=>none)|_=>none
theorem yoa {W:Wd}(w:WOk K W) {x:PV}{v:V}{ks:List Key}{xs:List PV}(e:ywe x W.h=some (ks,xs)) (r:ycC K W x v):∃ a vs,v=.ref a/\Rd W.H a (.dK (ks.zip vs))/\vs.length=ks.length/\ycy K W xs vs:=by
 unfold ywe at e
 split at e
 .split at e
  .rename_i d
   cases e
   obtain ⟨a,ev,f,g,vs,hp,hl,c⟩:=w.loc d r
   exact ⟨a,vs,ev,.inl hp,hl,c⟩
  .rename_i d
   cases e
   obtain ⟨a,ev,f,g,o,vs,hp,hl,c⟩:=w.loc d r
   exact ⟨a,vs,ev,.inr ⟨o,hp⟩,hl,c⟩
  .cases e
 .cases e
theorem DGet.r {H:Hp}{a:Addr}{kvs:List _}{k:Key}(e:Rd H a (.dK kvs)):DGet H a (kV k) (ylw kvs k):=.inl ⟨kvs,k,e,rfl,rfl⟩
def yfk (ed ek:XE):XE:=fun ρ h=>ob (ed ρ h) fun d h1=>ob (ek ρ h1) fun k h2=>match ywe d h2,keyOf k with|some (ks,xs),some j=>(match yhI ks xs j with|some x=>some (x,h2)|none=>none)|_,_=>none
theorem yug {i l:TE}{ed ek:XE}(a:ybM K i ed) (b:ybM K l ek):ybM K (yAY i l) (yfk ed ek):=by
 intro m W ρ σ Q z h' g e q
 obtain ⟨d,h1,C,D⟩:=yg e
 obtain ⟨k,h2,E,f⟩:=yg D
 refine a m W ρ σ _ d h1 g C fun I G F n u=>?_
 subst F
 refine b m G ρ σ _ k h2 (g.step n) E fun H y r h r2=>?_
 subst r
 split at f
 .rename_i ks xs j o s
  split at f
  .rename_i x t
   cases f
   obtain ⟨p,vs,ev,hp,hl,w⟩:=yoa h.ok o (h.rep u)
   obtain ⟨v,A,B⟩:=(yjU j w hl).1 _ t
   have:=yhH s r2
   subst this
   exact ⟨p,v,ev,by rw [<- A];exact DGet.r hp,q _ y rfl (n.trans h) B⟩
  .cases f
 .cases f
def yuh (neg:Bool) (ek ed:XE):XE:=fun ρ h=>ob (ek ρ h) fun k h1=>ob (ed ρ h1) fun d h2=>match ywe d h2,keyOf k with|some (ks,xs),some j=>some (.bl (if neg then !(yhI ks xs j).isSome else (yhI ks xs j).isSome),h2)|_,_=>none
theorem yoZ {F:Hp}{m:List Addr}{ks:List Key}{xs:List PV}{vs:List V} j (r:RepL K F m xs vs) (hl:vs.length=ks.length):(ylw (ks.zip vs) j).isSome=(yhI ks xs j).isSome:=by
 have h:=yjU j r hl
 cases e:yhI ks xs j with
 | none=>rw [h.2 e];rfl
 | some x=>obtain ⟨v,h1,_⟩:=h.1 x e;rw [h1];rfl
theorem yqR {i l:TE}{ed ek:XE}(b:ybM K l ek) (a:ybM K i ed):ybM K (yFi l i) (yuh false ek ed):=by
 intro m W ρ σ Q z h' g e q
 obtain ⟨k,h1,w,A⟩:=yg e
 obtain ⟨d,h2,s,h⟩:=yg A
 refine b m W ρ σ _ k h1 g w fun D x y n t=>?_
 subst y
 refine a m x ρ σ _ d h2 (g.step n) s fun C v B f r2=>?_
 subst B
 split at h
 .rename_i ks xs j o r
  cases h
  obtain ⟨p,vs,ev,hp,hl,u⟩:=yoa f.ok o r2
  have:=yhH r (f.rep t)
  subst this
  exact ⟨p,_,ev,DGet.r hp,q _ v rfl (n.trans f) (by rw [yoZ j u hl];rfl)⟩
 .cases h
def yiz (ed ek ev:XE):XS:=fun ρ h=>ob (ev ρ h) fun v h1=>ob (ed ρ h1) fun d h2=>ob (ek ρ h2) fun k h3=>match d,keyOf k with
 | .loc n,some j=>(match h3[n]? with|some (.dct ks xs)=>if ks.length<1000 then some (.nx ρ,h3.set n (.dct (ycK ks xs j v).1 (ycK ks xs j v).2)) else none|_=>none)
 | _,_=>none
theorem yui {C y B:TE}{ed ek ev:XE}(a:ybM K C ed) (b:ybM K y ek) (c:ybM K B ev):yeG K (yAZ C y B) (yiz ed ek ev):=by
 intro s W ρ σ D o h' g e q
 obtain ⟨v,h1,T,Z⟩:=yg e
 obtain ⟨x,h2,R,J⟩:=yg Z
 obtain ⟨i,I,S,k⟩:=yg J
 refine c s W ρ σ _ v h1 g T fun E W1 U r r1=>?_
 subst U
 refine a s W1 ρ σ _ x h2 (g.step r) R fun vx W2 P u r2=>?_
 subst P
 refine b s W2 ρ σ _ i I (g.step (r.trans u)) S fun vi t w3 m X=>?_
 subst w3
 have w:=m.ok
 split at k
 .rename_i n j Q
  split at k
  .rename_i ks xs F
   split at k
   .cases k
    obtain ⟨p,ep,L,H,us,hp,hl,G⟩:=w.loc F (m.rep r2)
    have:=yhH Q X
    subst this
    have f:=ynZ j E ks us hl
    have A:=(u.trans m).rep r1
    have key:∃ h,putK (ks.zip us) j E=(ycK ks xs j v).1.zip h/\h.length=(ycK ks xs j v).1.length/\ycy K t (ycK ks xs j v).2 h:=by
     unfold ycK
     by_cases z:yqO ks j=true
     .rw [if_pos z] at f ⊢
      exact ⟨_,f,by rw [yjT];exact hl,G.setK ks j A⟩
     .rw [if_neg z] at f ⊢
      exact ⟨_,f,by simp_all,G.snoc A⟩
    obtain ⟨h,M,O,N⟩:=key
    refine ⟨p,_,ep,DPut.k hp (by rw [length_zip,hl];exact ykX (by omega)),?_⟩
    rw [M]
    have Y:Le K t (yjS t n p _ (.dct _ _)):=yeJ w F L H ⟨H,h,yB,O,N⟩
    have l:=r.trans (u.trans (m.trans Y))
    exact q _ σ rfl l.lf (g.step l)
   .cases k
  .cases k
 .cases k
def ync:XO:=fun _ h=>some (.dct [] [],h)
theorem yuj:ymq K ywd ync:=by
 intro b W ρ σ Q d h' g e q
 cases e
 intro p hp
 exact q p (yiw W p _) rfl (ycE g.ok hp) (g.ok.out hp) hp (fun z=>by cases z) ⟨g.ok.ff hp,[],yB,rfl,rfl⟩
end PX
namespace PX
open PySem L2
variable {K:Ck}
def itemsOf (x:PV) (h:AH):Option (List PV):=match x with|.tup xs=>some xs|_=>listOf x h
theorem ynd {W:Wd}(w:WOk K W) {x:PV}{v:V}{xs:List PV}(e:itemsOf x W.h=some xs) (r:ycC K W x v):∃ a vs,v=.ref a/\(SqL K.K W.H a vs\/SqT K.K W.H a vs)/\ycy K W xs vs:=by
 unfold itemsOf at e
 split at e
 .cases e
  obtain ⟨a,vs,ev,hs,c⟩:=r
  exact ⟨a,vs,ev,.inr (ydj w hs),c⟩
 .obtain ⟨a,vs,ev,hs,c⟩:=ygy w e r
  exact ⟨a,vs,ev,.inl hs,c⟩
def svs:List PV->Option (List V)
 | []=>some []
 | x::xs=>match sv x,svs xs with|some v,some vs=>some (v::vs)|_,_=>none
theorem yqS {F:Hp}{m:List Addr}:∀ {xs:List PV}{us vs:List V},svs xs=some us->RepL K F m xs vs->vs=us/\us.all yfU=true
 | [],_,_,e,r=>by cases e;exact ⟨r,rfl⟩
 | x::xs,us,_,e,⟨v,r,ev,h,l⟩=>by
  unfold svs at e
  split at e
  .rename_i u b a c
   cases e
   obtain ⟨h1,h2⟩:=yqS c l
   have d:v=u:=by cases x<;>cases a<;>exact h
   have f:yfU u=true:=by cases x<;>cases a<;>rfl
   simp_all
  .cases e
theorem yjV {x:PV}{u:V}(e:sv x=some u):yfU u=true:=by cases x<;>cases e<;>rfl
def ysQ (neg:Bool):P2:=fun x y h=>match sv x,itemsOf y h with|some v,some ys=>(match svs ys with|some us=>some (.bl (if neg then !inV v us else inV v us),h)|none=>none)|_,_=>none
theorem yuk {neg:Bool}:yci K (rIn K.K neg) (ysQ neg):=by
 intro W x y v u Q z h' w g h e q
 unfold ysQ at e
 split at e
 .rename_i j ys ev d
  split at e
  .rename_i us c
   cases e
   obtain rfl:=yfp ev g
   obtain ⟨a,vs,rfl,hs,i⟩:=ynd w d h
   obtain ⟨rfl,f⟩:=yqS c i
   exact ⟨a,vs,rfl,hs,yjV ev,f,q _ W rfl (.refl w) rfl⟩
  .cases e
 .cases e
end PX
namespace PX
open PySem L2
theorem yEe [i:Decidable True]:decide True=true:=by simp
theorem yEf [i:Decidable False]:decide False=false:=by simp
theorem yEg:(false=true)=False:=by simp
theorem yEh:(true=false)=False:=by simp
theorem yul {g:XG}{s:XS}{xs:List PV}(I:Nat->PSt->AH->Prop) (R:PV->AH->Prop) {ρ:PSt}{h:AH}(e:I 0 ρ h)
  (step:∀ i x ρ h,xs[i]?=some x->I i ρ h->∃ ρ1 o h',g x ρ=some ρ1/\s ρ1 h=some (o,h')/\match o with|.nx ρ'=>I (i+1) ρ' h'|.ct ρ'=>I (i+1) ρ' h'|.bk _=>False|.rt y=>R y h') :
  (∃ ρ' h',ydZ g s xs ρ h=some (.nx ρ',h')/\I xs.length ρ' h')\/∃ y h',ydZ g s xs ρ h=some (.rt y,h')/\R y h':=by
 have key:∀ n i ρ h,i+n=xs.length->I i ρ h->(∃ ρ' h',ydZ g s (xs.drop i) ρ h=some (.nx ρ',h')/\I xs.length ρ' h')\/∃ y h',ydZ g s (xs.drop i) ρ h=some (.rt y,h')/\R y h':=by
  intro n
  induction n with
  | zero =>
   intro i ρ h j d
   have:i=xs.length:=by omega
   subst this
   rw [List.drop_length]
   exact .inl ⟨ρ,h,rfl,d⟩
  | succ n ih =>
   intro i ρ h j d
   have b:i<xs.length:=by omega
   obtain ⟨ρ1,o,h',k,f,c⟩:=step i _ ρ h (List.getElem?_eq_getElem b) d
   rw [List.drop_eq_getElem_cons b,yAQ,k,bind_some,f]
   cases o with
   | nx ρ'=>exact ih _ ρ' h' (by omega) c
   | ct ρ'=>exact ih _ ρ' h' (by omega) c
   | bk ρ'=>exact c.elim
   | rt y=>exact .inr ⟨y,h',rfl,c⟩
 simpa using key xs.length 0 ρ h (by omega) e
theorem yxW {g:XG}{s:XS}{xs:List PV}(I:Nat->PSt->AH->Prop) {ρ:PSt}{h:AH}(e:I 0 ρ h)
  (step:∀ i x ρ h,xs[i]?=some x->I i ρ h->∃ ρ1 ρ' h',g x ρ=some ρ1/\(s ρ1 h=some (.nx ρ',h')\/s ρ1 h=some (.ct ρ',h'))/\I (i+1) ρ' h') :
  ∃ ρ' h',ydZ g s xs ρ h=some (.nx ρ',h')/\I xs.length ρ' h':=by
 rcases yul I (fun _ _=>False) e (fun i x ρ h f j=>by
  obtain ⟨ρ1,ρ',h',d,b,c⟩:=step i x ρ h f j
  rcases b with b|b
  .exact ⟨ρ1,_,h',d,b,c⟩
  .exact ⟨ρ1,_,h',d,b,c⟩) with q|⟨_,_,_,q⟩
 .exact q
 .exact q.elim
theorem yqT {c:Type}{g:XG}{s:XS}{xs:List PV}(I:Nat->PSt->AH->Prop) {ρ:PSt}{h:AH}{f:Out->AH->Option c}{r:Option c}(j:I 0 ρ h)
  (step:∀ i x ρ h,xs[i]?=some x->I i ρ h->∃ ρ1 ρ' h',g x ρ=some ρ1/\(s ρ1 h=some (.nx ρ',h')\/s ρ1 h=some (.ct ρ',h'))/\I (i+1) ρ' h')
  (b:∀ ρ' h',I xs.length ρ' h'->f (.nx ρ') h'=r):ob (ydZ g s xs ρ h) f=r:=by
 obtain ⟨ρ',h',e,d⟩:=yxW I j step
 rw [e]
 exact b ρ' h' d
theorem yob {c:XT}{s:XS}{n:Nat}{ρ:PSt}{h:AH}:whl c s (n+1) ρ h=ob (c ρ h) fun k h1=>if k=true then ob (s ρ h1) fun o h2=>match o with|.nx ρ'=>whl c s n ρ' h2|.ct ρ'=>whl c s n ρ' h2|.bk ρ'=>some (.nx ρ',h2)|.rt y=>some (.rt y,h2) else some (.nx ρ,h1):=rfl
theorem yjb {a:XA}{ρ:PSt}{h h1:AH}{j:Int}(e:a ρ h=some ([.int j],h1)) (c:-1000000000<=j) (h2:j<=1000000000):yiT a ρ h=some (ygJ 0 j.toNat,h1):=by
 unfold yiT
 rw [e,ybL]
 simp_all
theorem ydU {α:Type}{e:XE}{inn:PV->PSt} f g:∀ {ts:List α}{h:AH},(∀ t∈ts,e (inn (f t)) h=some (g t,h))->ygW e inn (ts.map f) h=some (ts.map g,h)
 | [],_,_=>rfl
 | t::ts,h,k=>by
  show ob _ _=_
  rw [k t mem_cons_self,ybL,ydU f g fun y b=>k y (mem_cons_of_mem _ b)]
  rfl
theorem yqU {i:Nat}{e:XE}{ρ:PSt}{h:AH}{xs:List PV}(b:ρ[i]?=some (.own (.lst xs))):yfW i e ρ h=ob (e ρ h) fun x h1=>if xs.length<100000 then some (.nx (ρ.set i (.own (.lst (xs++[x])))),h1) else none:=by
 unfold yfW
 rw [b]
theorem yFj {α:Type}{a0:α}{xs:List α}:atI (a0::xs) 0=some a0:=ydi rfl
theorem yFN {α:Type}{a0 a1:α}{xs:List α}:atI (a0::a1::xs) 1=some a1:=ydi rfl
theorem yjW {h:AH}{n:Nat}{xs:List PV}(e:h[n]?=some (.lst xs)):yX [.loc n] h=some (.lst xs,h):=by
 unfold yX listOf
 simp only [e]
theorem yfD {h:AH}{n:Nat}{xs:List PV}(e:h[n]?=some (.lst xs)):yba [.loc n] h=some (.int xs.length,h):=by
 unfold yba yqB
 simp only [e]
theorem yne {h:AH}{n:Nat}{xs:List PV}{y:PV}(e:h[n]?=some (.lst xs)) (hl:xs.length<100000):yfZ (.loc n) [y] h=some (.non,h.set n (.lst (xs++[y]))):=by
 unfold yfZ
 simp_all
theorem ydt {h:AH}{n:Nat}{xs:List PV}(e:h[n]?=some (.lst xs)):yfj (.loc n) h=true:=by
 unfold yfj ybE
 simp only [e]
end PX
namespace PX
open PySem L2
variable {K:Ck}
def yzx:P2:=fun x y h=>match x with|.tup xs=>ybc (.tup xs) y h|x=>ybC x y h
theorem yBa:yci K (rIx K.K) yzx:=by
 intro W x y v u Q z h' w c b e q
 unfold yzx at e
 split at e
 .exact .inr (.inl (yS W _ y v u Q z h' w c b e q))
 .exact .inl (ybW W _ y v u Q z h' w c b e q)
section
variable {ta:TE}{ea:XE}
def ynf (i:Nat) (e:XE):XS:=fun ρ h=>match ρ[i]? with
 | some (.own (.lst xs))=>ob (e ρ h) fun x h1=>(match x with|.lst ys=>if xs.length+ys.length<=100000 then some (.nx (ρ.set i (.own (.lst (xs++ys)))),h1) else none|_=>none)
 | _=>none
theorem yum i (a:ybM K ta ea):yeG K (ypG (tBM K.K "list" yqa (ypw i) (ymz ta yvK))) (ynf i ea):=by
 intro w W ρ σ D o h' g e q
 unfold ynf at e
 split at e
 .rename_i C j
  obtain ⟨x,h1,B,d⟩:=yg e
  split at d
  .split at d
   .rename_i f
    cases d
    obtain ⟨p,a1,a2,a3,a4,J,vs,hp,r⟩:=g.own i _ j
    refine ⟨_,a1,.inl ⟨rfl,_,SqL.of hp⟩,?_⟩
    refine a w W ρ σ _ _ _ g B fun v F H h y=>?_
    obtain ⟨b,us,rfl,u,s⟩:=y
    refine ⟨p,b,vs,us,rfl,rfl,h.keep _ _ hp a2,h.ok.le _ _ u,by rw [r.len,s.len];exact yxC f,?_⟩
    have k:=g.step h
    obtain ⟨I,n,l,G,L,t,E,m,A⟩:=k.own i _ j
    rw [a1] at n
    cases n
    rw [h.keep _ _ hp a2] at m
    cases m
    exact q (ytH F p _) σ H (yqs h l) (k.mut j a1 l G t (fun z=>by cases z) ⟨t,_,yB,A.app s⟩)
   .cases d
  .cases d
 .cases e
def ypa (i:Nat):XE:=fun ρ h=>match ρ[i]? with|some (.own (.lst xs))=>some (.int xs.length,h)|_=>none
theorem yun i:ybM K (tCB (yAj K.K) (ymz (ypw i) yvK)) (ypa i):=by
 intro d W ρ σ Q x h' g e q
 unfold ypa at e
 split at e
 .rename_i xs b
  cases e
  obtain ⟨p,a1,a2,a3,a4,c,vs,hp,r⟩:=g.own i _ b
  refine ⟨_,a1,p,vs,rfl,.inl (SqL.of hp),?_⟩
  rw [r.len]
  exact q _ W rfl (.refl g.ok) rfl
 .cases e
end
end PX
namespace PX
open PySem L2
variable {K:Ck}
def Odd (K:PySem.W.Frag) (H:Hp):Prop:=∃ a o ob,H a=some o/\K.lookup a=some ob
inductive EqR (K:PySem.W.Frag) (H:Hp):Nat->V->V->Bool->Prop where
 | flat {n:Nat}{x y:V}(fx:yfU x=true) (fy:yfU y=true):EqR K H n x y (eqV x y)
 | same {n:Nat}{a:Addr}:EqR K H n (.ref a) (.ref a) true
 | odd {n:Nat}{x y:V}{b:Bool}(h:Odd K H):EqR K H n x y b
 | nt {n:Nat}{b:Addr}{ys:List V}(hb:SqT K H b ys):EqR K H (n+1) .non (.ref b) false
 | tn {n:Nat}{b:Addr}{ys:List V}(hb:SqT K H b ys):EqR K H (n+1) (.ref b) .non false
 | lst {n:Nat}{a b:Addr}{xs ys:List V}{e:Nat->Bool}(ha:H a=some (.lst xs)) (hb:H b=some (.lst ys)) (hl:xs.length=ys.length) (hne:a≠b) (he:∀ j x y,xs[j]?=some x->ys[j]?=some y->EqR K H n x y (e j)):EqR K H (n+1) (.ref a) (.ref b) ((List.range xs.length).all e)
 | lstN {n:Nat}{a b:Addr}{xs ys:List V}(ha:H a=some (.lst xs)) (hb:H b=some (.lst ys)) (hl:xs.length≠ys.length):EqR K H (n+1) (.ref a) (.ref b) false
 | tup {n:Nat}{a b:Addr}{xs ys:List V}{e:Nat->Bool}(ha:SqT K H a xs) (hb:SqT K H b ys) (hne:a≠b) (he:∀ j x y,xs[j]?=some x->ys[j]?=some y->EqR K H n x y (e j)):EqR K H (n+1) (.ref a) (.ref b) ((List.range (min xs.length ys.length)).all e && xs.length == ys.length)
inductive RcR (K:PySem.W.Frag) (H:Hp):V->V->Bool->Prop where
 | nt {b:Addr}{ys:List V}(hb:SqT K H b ys):RcR K H .non (.ref b) false
 | tn {b:Addr}{ys:List V}(hb:SqT K H b ys):RcR K H (.ref b) .non false
 | lst {a b:Addr}{xs ys:List V}{e:Nat->Bool}(ha:H a=some (.lst xs)) (hb:H b=some (.lst ys)) (hl:xs.length=ys.length) (he:∀ j x y,xs[j]?=some x->ys[j]?=some y->EqR K H 40 x y (e j)):RcR K H (.ref a) (.ref b) ((List.range xs.length).all e)
 | lstN {a b:Addr}{xs ys:List V}(ha:H a=some (.lst xs)) (hb:H b=some (.lst ys)) (hl:xs.length≠ys.length):RcR K H (.ref a) (.ref b) false
 | tup {a b:Addr}{xs ys:List V}{e:Nat->Bool}(ha:SqT K H a xs) (hb:SqT K H b ys) (he:∀ j x y,xs[j]?=some x->ys[j]?=some y->EqR K H 40 x y (e j)):RcR K H (.ref a) (.ref b) ((List.range (min xs.length ys.length)).all e && xs.length == ys.length)
noncomputable def yFk (K:PySem.W.Frag):R2:=fun x y H Q=>∃ b,RcR K H x y b/\Q (.bl b) H
noncomputable def yjX (f:PV->PV->Option Bool):List PV->List PV->Option Bool
 | x::xs,y::ys=>(match f x y,yjX f xs ys with|some b,some c=>some (b && c)|_,_=>none)
 | _,_=>some true
def pairE (f:PV->PV->Option Bool) (h:AH) (x y:PV):Option Bool:=match x,y with
 | .tup xs,.tup ys=>(match yjX f xs ys with|some b=>some (b && xs.length == ys.length)|none=>none)
 | .non,.tup _=>some false
 | .tup _,.non=>some false
 | x,y=>(match ybE x h,ybE y h with|some xs,some ys=>if xs.length=ys.length then yjX f xs ys else some false|_,_=>none)
def eqP:Nat->AH->PV->PV->Option Bool
 | 0,_,_,_=>none
 | n+1,h,x,y=>match sv x,sv y with
  | some u,some v=>some (eqV u v)
  | _,_=>pairE (eqP n h) h x y
theorem yuo:∀ {v:V},yfU v=true->eqV v v=true
 | .non,_=>rfl
 | .bl b,_=>by cases b<;>rfl
 | .int i,_=>by simp [eqV]
 | .str s,_=>by simp [eqV]
noncomputable def unV:Value->Option V
 | .none=>some .non
 | .bool b=>some (.bl b)
 | .int i _=>some (.int i)
 | .str x _=>some (.str x)
 | .bytes b _=>some (.byt b)
 | .float b _=>some (.flt b)
 | .ref a=>some (.ref a)
 | .type n=>some (.ty n)
 | _=>none
theorem ywf:∀ {v:V}{u:Value},RelV v u->unV u=some v
 | .non,_,h=>by rw [h];rfl
 | .bl _,_,h=>by rw [h];rfl
 | .int _,_,⟨_,h⟩=>by rw [h];rfl
 | .str _,_,⟨_,h⟩=>by rw [h];rfl
 | .byt _,_,⟨_,h⟩=>by rw [h];rfl
 | .flt _,_,⟨_,h⟩=>by rw [h];rfl
 | .ref _,_,h=>by rw [h];rfl
 | .ty _,_,h=>by rw [h];rfl
theorem yxX {v w:V}{u:Value}(h1:RelV v u) (h2:RelV w u):v=w:=Option.some.inj ((ywf h1).symm.trans (ywf h2))
theorem yup {vs ws:List V}{us:List Value}(h1:Vals vs us):Vals ws us->vs=ws:=by
 induction h1 generalizing ws with
 | nil=>intro h2;cases h2;rfl
 | cons r _ ih=>intro h2;cases h2 with|cons r2 t2=>rw [yxX r r2,ih t2]
theorem yBb {F H:Hp}{a:Addr}{vs ws:List V}(s:Same F H) (h1:TpAt K.K F a vs) (h2:TpAt K.K F a ws):vs=ws\/Odd K.K H:=by
 rcases h1 with h1|⟨o,its,n,e,i,h,k,g⟩
 .rcases h2 with h2|⟨o,its,n,e,i,h,k,g⟩
  .simp_all
  .exact .inr ⟨a,_,o,s _ _ h1,e⟩
 .rcases h2 with h2|⟨m,its',p,c,j,d,l,f⟩
  .exact .inr ⟨a,_,o,s _ _ h2,e⟩
  .rw [e] at c;cases c
   rw [h] at d;cases d
   exact .inl (yup g f)
theorem yhJ {f:PV->PV->Option Bool}{W:Wd}(h:∀ x y v b,f x y=some b->ycC K W x v->ycC K W y v->b=true\/Odd K.K W.H):∀ {xs ys:List PV}{vs:List V}{c:Bool},ycy K W xs vs->ycy K W ys vs->yjX f xs ys=some c->c=true\/Odd K.K W.H
 | [],_,_,_,_,_,e=>by simp [yjX] at e;exact .inl e
 | _::_,[],_,_,_,_,e=>by simp [yjX] at e;exact .inl e
 | x::xs,y::ys,_,c,⟨v,r,l,h1,i⟩,⟨u,q,a,h2,k⟩,e=>by
  rw [l] at a
  cases a
  unfold yjX at e
  cases j:f x y with
  | none=>simp_all
  | some b =>
   cases d:yjX f xs ys with
   | none=>simp_all
   | some c' =>
    rw [d] at e
    rcases h x y _ b j h1 h2 with z|z
    .rcases yhJ h i k d with g|g
     .simp_all
     .exact .inr g
    .exact .inr z
theorem ypb {f:PV->PV->Option Bool}{W:Wd}(w:WOk K W) (q:∀ x y v b,f x y=some b->ycC K W x v->ycC K W y v->b=true\/Odd K.K W.H) {x y:PV}{v:V}{b:Bool}(e:pairE f W.h x y=some b) (k:ycC K W x v) (l:ycC K W y v):b=true\/Odd K.K W.H:=by
 unfold pairE at e
 split at e
 .rename_i xs ys
  obtain ⟨a,vs,ev,n,m⟩:=k
  obtain ⟨o,j,d,h,g⟩:=l
  rw [ev] at d
  cases d
  rcases yBb w.le n h with z|z
  .subst z
   cases p:yjX f xs ys with
   | none=>simp_all
   | some c =>
    rw [p] at e
    cases e
    rcases yhJ q m g p with z|z
    .left
     rw [z,<- m.len,<- g.len]
     simp
    .exact .inr z
  .exact .inr z
 .obtain ⟨o,j,d,h,g⟩:=l
  have k:=k
  rw [k] at d;cases d
 .obtain ⟨o,j,d,h,g⟩:=k
  have l:=l
  rw [l] at d;cases d
 .split at e
  .rename_i xs ys r s
   obtain ⟨a,vs,ev,n,m⟩:=yU w r k
   obtain ⟨o,j,d,h,g⟩:=yU w s l
   rw [ev] at d
   cases d
   rw [n] at h
   cases h
   rw [if_pos (by rw [<- m.len,<- g.len])] at e
   exact yhJ q m g e
  .cases e
theorem yjY {W:Wd}(w:WOk K W):∀ n x y v b,eqP n W.h x y=some b->ycC K W x v->ycC K W y v->b=true\/Odd K.K W.H
 | 0,_,_,_,_,e,_,_=>by cases e
 | n+1,x,y,v,b,e,c,g=>by
  unfold eqP at e
  split at e
  .rename_i u h f d
   cases e
   rw [<- yfp f c,<- yfp d g]
   exact .inl (yuo (by rw [yfp f c];exact yjV f))
  .exact ypb w (yjY w n) e c g
theorem yhK {f:PV->PV->Option Bool}{W:Wd}{n:Nat}(k:∀ x y v u b,f x y=some b->ycC K W x v->ycC K W y u->EqR K.K W.H n v u b):∀ {xs ys:List PV}{vs us:List V}{c:Bool},ycy K W xs vs->ycy K W ys us->yjX f xs ys=some c ->
  ∃ e:Nat->Bool,(∀ j v u,vs[j]?=some v->us[j]?=some u->EqR K.K W.H n v u (e j))/\c=(List.range (min vs.length us.length)).all e
 | [],_,_,_,c,h1,_,e=>by
  rw [h1]
  simp [yjX] at e
  simp_all
 | _::_,[],_,_,c,_,h2,e=>by
  rw [h2]
  simp [yjX] at e
  simp_all
 | x::xs,y::ys,_,_,c,⟨v,r,p,h1,l⟩,⟨u,q,s,h2,m⟩,e=>by
  subst p s
  unfold yjX at e
  cases h:f x y with
  | none=>simp_all
  | some b =>
   cases i:yjX f xs ys with
   | none=>simp_all
   | some c' =>
    rw [h,i] at e
    cases e
    obtain ⟨o,k1,k2⟩:=yhK k l m i
    refine ⟨fun j=>match j with|0=>b|j+1=>o j,fun j w t g d=>?_,?_⟩
    .cases j with
     | zero =>
      simp at g d
      subst g d
      exact k x y _ _ b h h1 h2
     | succ j=>simp_all
    .rw [k2,length_cons,length_cons,show min _ (q.length+1)=min r.length q.length+1 by omega,List.range_succ_eq_map,List.all_cons,List.all_map]
     rfl
theorem yoc {W:Wd}(w:WOk K W):∀ (n:Nat) (x y:PV) (v u:V) (b:Bool),eqP n W.h x y=some b->ycC K W x v->ycC K W y u->EqR K.K W.H n v u b
 | 0,_,_,_,_,_,e,_,_=>by cases e
 | n+1,x,y,v,u,b,e,k,p=>by
  have r:=e
  unfold eqP at e
  split at e
  .rename_i D E s t
   cases e
   rw [yfp s k,yfp t p]
   exact .flat (yjV s) (yjV t)
  .unfold pairE at e
   split at e
   .rename_i xs ys _
    obtain ⟨a,vs,ev,m,j⟩:=k
    obtain ⟨o,us,h,g,f⟩:=p
    by_cases i:a=o
    .subst i
     rcases yjY w (n+1) _ _ v b r ⟨a,vs,ev,m,j⟩ (by rw [ev,<- h];exact ⟨a,us,h,g,f⟩) with this|z
     .rw [this,ev,h]
      exact .same
     .exact .odd z
    .cases q:yjX (eqP n W.h) xs ys with
     | none=>rw [q] at e;cases e
     | some c =>
      rw [q] at e
      cases e
      obtain ⟨A,k1,k2⟩:=yhK (yoc w n) j f q
      rw [ev,h,k2,<- j.len,<- f.len]
      exact .tup (ydj w m) (ydj w g) i k1
   .obtain ⟨o,us,h,g,f⟩:=p
    cases e
    rw [k,h]
    exact .nt (ydj w g)
   .obtain ⟨o,us,h,g,f⟩:=k
    cases e
    rw [p,h]
    exact .tn (ydj w g)
   .split at e
    .rename_i xs ys C B
     obtain ⟨a,vs,ev,m,j⟩:=yU w C k
     obtain ⟨o,us,h,g,f⟩:=yU w B p
     by_cases i:a=o
     .subst i
      rcases yjY w (n+1) _ _ v b r k (by grind) with this|z
      .rw [this,ev,h]
       exact .same
      .exact .odd z
     .split at e
      .rename_i hl
       obtain ⟨A,k1,k2⟩:=yhK (yoc w n) j f e
       have l:vs.length=us.length:=by rw [j.len,f.len,hl]
       rw [ev,h,k2,<- l,Nat.min_self]
       exact .lst m g l i k1
      .rename_i hl
       cases e
       rw [ev,h]
       exact .lstN m g (by rw [j.len,f.len];exact hl)
    .cases e
def yzy:P2:=fun x y h=>match pairE (eqP 40 h) h x y with|some b=>some (.bl b,h)|none=>none
theorem yuq {W:Wd}(w:WOk K W) {x y:PV}{v u:V}{b:Bool}(e:pairE (eqP 40 W.h) W.h x y=some b) (k:ycC K W x v) (m:ycC K W y u):RcR K.K W.H v u b:=by
 unfold pairE at e
 split at e
 .rename_i xs ys
  obtain ⟨a,vs,ev,l,i⟩:=k
  obtain ⟨n,us,h,f,g⟩:=m
  cases o:yjX (eqP 40 W.h) xs ys with
  | none=>simp_all
  | some c =>
   rw [o] at e
   cases e
   obtain ⟨q,k1,k2⟩:=yhK (yoc w 40) i g o
   rw [ev,h,k2,<- i.len,<- g.len]
   exact .tup (ydj w l) (ydj w f) k1
 .obtain ⟨n,us,h,f,g⟩:=m
  cases e
  rw [k,h]
  exact .nt (ydj w f)
 .obtain ⟨n,us,h,f,g⟩:=k
  cases e
  rw [m,h]
  exact .tn (ydj w f)
 .split at e
  .rename_i xs ys r p
   obtain ⟨a,vs,ev,l,i⟩:=yU w r k
   obtain ⟨n,us,h,f,g⟩:=yU w p m
   split at e
   .rename_i hl
    obtain ⟨q,k1,k2⟩:=yhK (yoc w 40) i g e
    have j:vs.length=us.length:=by rw [i.len,g.len,hl]
    rw [ev,h,k2,<- j,Nat.min_self]
    exact .lst l f j k1
   .rename_i hl
    cases e
    rw [ev,h]
    exact .lstN l f (by rw [i.len,g.len];exact hl)
  .cases e
theorem yEi:yci K (yFk K.K) yzy:=by
 intro W x y v u Q z h' w d f e q
 unfold yzy at e
 split at e
 .rename_i b c
  cases e
  exact ⟨b,yuq w c d f,q _ W rfl (.refl w) rfl⟩
 .cases e
end PX
namespace PX
open PySem L2
variable {K:Ck}
def yfl:XS:=fun _ _=>none
theorem yur:yeG K yvC yfl:=fun _ _ _ _ _ _ _ _ e _=>by cases e
def yj (k:Nat) (m:Str) (f:Fn) (e:XE) (as:XA):XE:=fun ρ h=>ob (e ρ h) fun x h1=>match ygX x h1 with
 | some (k',ns,_)=>if k'=k/\m∉ns then ob (as ρ h1) fun ys h2=>f (x::ys) h2 else none
 | none=>none
theorem ylA {k n:Nat}{m:Str}{f:Fn}{D:XK}{w:TE}{t:TA}{o:XE}{l:XA}(a:ybM K w o) (b:ymp K t l) (M:∀ ρ h xs h',l ρ h=some (xs,h')->xs.length=n) :
  ybM K (ywY (K.A k) m (spE K (n+1) f) [] D w t) (yj k m f o l):=by
 intro A W ρ σ Q z h' g e q
 obtain ⟨x,h1,I,d⟩:=yg e
 refine a A W ρ σ _ x h1 g I fun v O L i r=>?_
 subst L
 split at d
 .rename_i S ns xs N
  split at d
  .rename_i y
   obtain ⟨ys,h2,s,P⟩:=yg d
   obtain ⟨p,B,vs,ev,hp,hl,R⟩:=yfX i.ok N r
   rw [y.1] at hp
   refine ⟨p,B,_,ev,hp,ydr y.2,?_⟩
   refine b A O ρ σ _ ys h2 (g.step i) s fun us G C j r2=>?_
   subst C
   rw [append_nil]
   exact ⟨G,x::ys,z,h',rfl,j.ok,⟨v,us,rfl,j.rep r,r2⟩,by rw [length_cons,M _ _ _ _ s],P,fun u J H E F=>q u J H ((i.trans j).trans E) F⟩
  .cases d
 .cases d
def ycR (cs:List Nat) (f:Str) (eo ev:XE):XS:=fun ρ h=>ob (ev ρ h) fun y h1=>ob (eo ρ h1) fun x h2=>match x with
 | .loc n=>(match h2[n]? with|some (.ins k ns xs)=>if k∈cs/\ns.length<1000 then some (.nx ρ,h2.set n (.ins k (putN f y ns xs).1 (putN f y ns xs).2)) else none|_=>none)
 | _=>none
theorem yus {cs:List Nat}{f:Str}{m u:TE}{A ev:XE}(t:∀ k∈cs,Cls K.K (K.A k)/\NoAttr K.K (K.A k) f) (a:ybM K m A) (c:ybM K u ev):yeG K (yDc K.K m u f) (ycR cs f A ev):=by
 intro B W ρ σ D o h' g e q
 obtain ⟨y,h1,H,I⟩:=yg e
 obtain ⟨x,h2,G,d⟩:=yg I
 refine c B W ρ σ _ y h1 g H fun T P L C R=>?_
 subst L
 refine a B P ρ σ _ x h2 (g.step C) G fun S j O h r2=>?_
 subst O
 have w:=h.ok
 split at d
 .rename_i n
  split at d
  .rename_i k ns xs v
   split at d
   .rename_i s
    cases d
    obtain ⟨p,ep,J,z,r,us,hp,hl,F⟩:=w.loc v r2
    obtain ⟨i,Q,E,N⟩:=F.putN hl (h.rep R)
    refine ⟨p,_,r,_,ep,hp,(t k s.1).1,(t k s.1).2,by simp_all,?_⟩
    rw [Q]
    have M:Le K j (yjS j n p _ (.ins k _ _)):=yeJ w v J z ⟨z,r,i,yB,E,N⟩
    have l:=C.trans (h.trans M)
    exact q _ σ rfl l.lf (g.step l)
   .cases d
  .cases d
 .cases d
end PX
namespace PX
open PySem L2
variable {K:Ck}
noncomputable def ypc (r d:Addr):HO:=.ext fun h=>h.get? r=some { cls:=.type "dict_items",data:=.fields #[.ref d] }
def ywg:V->List V->Hp->VK->Prop:=fun x vs H Q=>∃ d kvs,x=.ref d/\vs=[]/\H d=some (.dK kvs)/\∀ r,H r=none->Q (.ref r) (upd H r (ypc r d))
noncomputable def yod (H:Hp) (as:List Addr) (ts:List (List V)):Hp:=fun b=>match (as.zip ts).lookup b with|some t=>some (.tup t)|none=>H b
def yCL (H:Hp) (p:Addr) (as:List Addr) (ts:List (List V)):Hp:=upd (yod H as ts) p (.lst (as.map V.ref))
def rSI:List V->Hp->VK->Prop:=fun xs H Q=>∃ (r d:Addr) (kvs:List (Key×V)) (ns:List Int),xs=[.ref r]/\H r=some (ypc r d)/\H d=some (.dK kvs)/\kvs.map (·.1)=ns.map .inl/\kvs.length<4 /\
 ∀ (p:Addr) (as:List Addr) (q:List Nat),q.Perm (List.range ns.length)->q.Pairwise (fun i j=>ns.getD i 0<=ns.getD j 0)->ns.Nodup->as.length=q.length->(∀ a∈p::as,H a=none)->(p::as).Nodup ->
  Q (.ref p) (yCL H p as (q.map fun i=>[V.int (ns.getD i 0),(kvs.map (·.2)).getD i .non]))
noncomputable def yqV (p:Int×PV):List (Int×PV)->List (Int×PV)
 | []=>[p]
 | q::r=>if p.1<=q.1 then p::q::r else q::yqV p r
def yng:List (Int×PV)->List (Int×PV)
 | []=>[]
 | p::r=>yqV p (yng r)
noncomputable def yqW:List Key->Option (List Int)
 | []=>some []
 | .inl i::r=>(yqW r).map (i::·)
 | .inr _::_=>none
theorem yoe:∀ {ks:List Key}{ns:List Int},yqW ks=some ns->ks=ns.map .inl
 | [],ns,h=>by cases h;rfl
 | .inl i::r,ns,h=>by
  obtain ⟨m,e,rfl⟩:=Option.map_eq_some_iff.mp h
  rw [map_cons,<- yoe e]
 | .inr _::_,_,h=>by cases h
theorem yhL p:∀ l,(yqV p l).Perm (p::l)
 | []=>.refl _
 | q::r=>by
  unfold yqV
  split
  .exact .refl _
  .exact ((yhL p r).cons q).trans (.swap _ _ _)
theorem ygz:∀ l,(yng l).Perm l
 | []=>.refl _
 | p::r=>(yhL p _).trans ((ygz r).cons p)
theorem yqX {p:Int×PV}:∀ {l:List _},l.Pairwise (fun a b=>a.1<=b.1)->(yqV p l).Pairwise fun a b=>a.1<=b.1
 | [],_=>List.pairwise_singleton _ _
 | q::r,h=>by
  obtain ⟨h1,h2⟩:=List.pairwise_cons.mp h
  unfold yqV
  split
  .rename_i e
   exact List.pairwise_cons.mpr ⟨fun b d=>by
    rcases mem_cons.mp d with rfl|d
    .exact e
    .exact Int.le_trans e (h1 b d),h⟩
  .refine List.pairwise_cons.mpr ⟨fun b d=>?_,yqX h2⟩
   rcases mem_cons.mp ((yhL p r).mem_iff.mp d) with rfl|d
   .omega
   .exact h1 b d
theorem yof:∀ l,(yng l).Pairwise fun a b=>a.1<=b.1
 | []=>.nil
 | _::r=>yqX (yof r)
theorem yut {ns:List Int}{xs:List PV}{q:List Nat}(hl:xs.length=ns.length) (hp:q.Perm (List.range ns.length)) (hs:q.Pairwise fun i j=>ns.getD i 0<=ns.getD j 0) (l:ns.Nodup) :
  (q.map fun i=>(ns.getD i 0,xs.getD i .non))=yng (ns.zip xs):=by
 have hz:((List.range ns.length).map fun i=>(ns.getD i 0,xs.getD i .non))=ns.zip xs:=by
  apply List.ext_getElem
  .simp [hl]
  simp_all
 have k:(q.map fun i=>(ns.getD i 0,xs.getD i .non)).Perm (ns.zip xs):=by rw [<- hz];exact hp.map _
 refine List.Perm.eq_of_pairwise (fun a b h g h1 h2=>?_) (List.pairwise_map.mpr hs) (yof _) (k.trans (ygz _).symm)
 have h:=k.mem_iff.mp h
 have g:=(ygz _).mem_iff.mp g
 obtain ⟨i,n,rfl⟩:=getElem_of_mem h
 obtain ⟨j,m,rfl⟩:=getElem_of_mem g
 have f:i<ns.length:=by grind
 have d:j<ns.length:=by grind
 have e:ns[i]=ns[j]:=by
  have:=Int.le_antisymm h1 h2
  simpa using this
 have:=yja l f d e
 subst this
 rfl
def yFl (W:Wd) (as:List Addr) (ts:List (List V)):Wd:=⟨yod W.F as ts,yod W.H as ts,W.m,W.h⟩
theorem lookup_mem {α:Type}:∀ {d:List Addr}{ts:List α}{b:Addr}{t:α},(d.zip ts).lookup b=some t->b∈d
 | [],_,_,_,h=>by simp at h
 | _::_,[],_,_,h=>by simp at h
 | a::d,u::ts,b,t,h=>by
  rw [zip_cons_cons,lookup_cons] at h
  split at h
  .simp_all
  .exact mem_cons_of_mem _ (lookup_mem h)
theorem ygA {H:Hp}{c:List Addr}{ts:List _}{b:Addr}(h:b∉c):yod H c ts b=H b:=by
 unfold yod
 split
 .rename_i e;exact absurd (lookup_mem e) h
 .rfl
theorem yxY {W:Wd}{g:List Addr}{ts:List _}(w:WOk K W) (h:∀ a∈g,W.H a=none):Le K W (yFl W g ts):=by
 have nm:=fun a k=>w.out (h a k)
 have m:Same W.F (yod W.F g ts):=fun b o e=>by
  rw [ygA fun z=>by rw [w.ff (h b z)] at e;cases e];exact e
 have l:Same W.H (yod W.H g ts):=fun b o e=>by
  rw [ygA fun z=>by simp_all];exact e
 refine ⟨⟨?_,w.len,w.nd,fun n d a j i=>?_⟩,m,prefix_refl _,fun b u e _=>l b u e,fun b u e _ f=>?_,fun b z n=>absurd z n,fun n ks xs j=>⟨j,fun a i=>ygA fun z=>nm a z (mem_of_getElem? i)⟩⟩
 .intro b u e
  have e:yod W.F g ts b=some u:=e
  show yod W.H g ts b=some u
  unfold yod at e ⊢
  split at e
  .exact e
  .exact w.le _ _ e
 .have k:=fun z=>nm a z (mem_of_getElem? i)
  exact (w.at_ n d a j i).mono m (prefix_refl _) (fun u e=>l _ _ e) fun f=>(ygA k).trans f
 .exact (ygA fun z=>by simp_all).trans f
theorem ylB {F:Hp}{m:List Addr}{Y:Nat->PV}{T:Nat->List V}{Z:Nat->List PV}(n:∀ i,Y i=.tup (Z i)):∀ (d:List Addr) (q:List Nat),d.length=q.length->d.Nodup->(∀ a∈d,∀ i,i∈q->(d.zip (q.map T)).lookup a=some (T i)->F a=some (.tup (T i))) ->
  (∀ i∈q,RepL K F m (Z i) (T i))->RepL K F m (q.map Y) (d.map V.ref)
 | [],[],_,_,_,_=>rfl
 | [],_::_,h,_,_,_=>by cases h
 | _::_,[],h,_,_,_=>by cases h
 | a::d,i::q,hl,p,g,k=>by
  obtain ⟨r,o⟩:=List.nodup_cons.mp p
  refine ⟨_,_,rfl,?_,ylB n d q (by simpa using hl) o (fun b l j f e=>?_) fun j f=>k j (mem_cons_of_mem _ f)⟩
  .rw [n]
   exact ⟨a,T i,rfl,.inl (g a mem_cons_self i mem_cons_self (by simp)),k i mem_cons_self⟩
  .refine g b (mem_cons_of_mem _ l) j (mem_cons_of_mem _ f) ?_
   rw [map_cons,zip_cons_cons,lookup_cons]
   have:(b == a)=false:=beq_eq_false_iff_ne.mpr fun z=>r (z ▸ l)
   rw [this]
   exact e
def sortI (ks:List Key) (xs:List PV):Option (List PV):=match yqW ks with|some ns=>if ns.length<4 then some ((yng (ns.zip xs)).map fun p=>.tup [.int p.1,p.2]) else none|none=>none
def yjc (e:XE):XO:=fun ρ h=>ob (e ρ h) fun x h1=>match yly x h1 with|some (ks,xs)=>(match sortI ks xs with|some l=>some (.lst l,h1)|none=>none)|none=>none
theorem ywh {W:Wd}{x:PV}{v:V}{ks:List Key}{xs:List PV}(w:WOk K W) (e:yly x W.h=some (ks,xs)) (r:ycC K W x v):tyV K.K "dict" v W.H:=by
 obtain ⟨a,vs,rfl,hp,_⟩:=ylz w e r
 exact .inr (.inr (.inl ⟨rfl,.inl ⟨_,hp⟩⟩))
theorem yqY {N:TE}{J:XE}(a:ybM K N J):ymq K (tCB rSI (ymz (yDi K.K "dict" ywg N) yvK)) (yjc J):=by
 intro Y W ρ σ Q z h' g e q
 obtain ⟨x,h1,e1,n⟩:=yg e
 refine a Y W ρ σ _ x h1 g e1 fun v G w1 s O=>?_
 subst w1
 split at n
 .rename_i ks xs M
  split at n
  .rename_i l hl
   cases n
   refine ⟨ywh s.ok M O,?_⟩
   obtain ⟨d,vs,ev,hp,hvl,R⟩:=ylz s.ok M O
   subst ev
   refine ⟨d,_,rfl,rfl,hp,fun r L=>?_⟩
   unfold sortI at hl
   split at hl
   .rename_i ns y
    split at hl
    .rename_i S
     cases hl
     have y:=yoe y
     have k:=ycE (o:=ypc r d) s.ok L
     have hnl:ks.length=ns.length:=by simp_all
     have C:xs.length=ns.length:=by rw [<- R.len];omega
     refine ⟨r,d,ks.zip vs,ns,rfl,yB,(yI (ybr hp L)).trans hp,by rw [List.map_fst_zip (by omega),y],by simp_all,fun p t o f hs X D c E=>?_⟩
     rw [List.map_snd_zip (by omega)]
     generalize m:yiw G r (ypc r d)=B at k
     have F:B.H=upd G.H r (ypc r d):=by rw [<- m];rfl
     rw [<- F] at c ⊢
     have j:=yxY (ts:=o.map fun i=>[V.int (ns.getD i 0),vs.getD i .non]) k.ok fun a P=>c a (mem_cons_of_mem _ P)
     obtain ⟨n1,n2⟩:=List.nodup_cons.mp E
     have h:(yFl B t (o.map fun i=>[V.int (ns.getD i 0),vs.getD i .non])).H p=none:=(ygA n1).trans (c p mem_cons_self)
     have I:=ycE (o:=.lst (t.map V.ref)) j.ok h
     have l:=k.trans (j.trans I)
     have A:∀ i∈o,i<ns.length:=fun i w=>by have:=f.mem_iff.mp w;simpa using this
     refine q p _ (by rw [<- m];rfl) (s.trans l) (j.ok.out h) ((s.trans k).fresh (c p mem_cons_self)) (fun z=>by cases z) ⟨j.ok.ff h,_,yB,?_⟩
     rw [<- yut C f hs X,map_map]
     refine ylB (T:=fun i=>[V.int (ns.getD i 0),vs.getD i .non]) (Z:=fun i=>[.int (ns.getD i 0),xs.getD i .non]) (fun i=>rfl) t o D n2 (fun a P i w e=>?_) fun i w=>⟨_,_,rfl,rfl,_,_,rfl,?_,rfl⟩
     .show yod B.F t _ a=_
      unfold yod
      rw [e]
     .have hi':=A i w
      obtain ⟨u,U,h4⟩:=(k.trans (j.trans I)).repL R |>.get (List.getElem?_eq_getElem (show i<xs.length by omega))
      have e5:xs.getD i .non=xs[i]'(by omega):=by simp [getD,List.getElem?_eq_getElem (show i<xs.length by omega)]
      have e6:vs.getD i .non=u:=by simp [getD,U]
      rw [e5,e6]
      exact h4
    .cases hl
   .cases hl
  .cases n
 .cases n
end PX
namespace PX
open PySem L2
variable {K:Ck}
def ItR (K:PySem.W.Frag) (a:Addr) (m:Nat):It :=
 ⟨fun i H=>i<m/\∃ xs x,SqL K H a xs/\xs[m-1-i]?=some x,fun i H x H'=>H'=H/\∀ xs,SqL K H a xs->xs[m-1-i]?=some x,fun i _=>i=m⟩
def yFm (K:PySem.W.Frag) (tl:TE):TI:=fun σ H R=>tl σ H fun x H1=>∃ a xs,x=.ref a/\SqL K H1 a xs/\R (ItR K a xs.length) H1
def yms (n:Nat) (rev:Bool) (g:XG) (s:XS):Nat->Nat->PSt->AH->Option (Out×AH)
 | 0,i,ρ,h=>match h[n]? with|some (.lst xs)=>if xs.length=i then some (.nx ρ,h) else none|_=>none
 | k+1,i,ρ,h=>match h[n]? with
  | some (.lst xs)=>(match xs[if rev then k else i]? with
   | some x=>(g x ρ).bind fun ρ1=>ob (s ρ1 h) fun o h1=>match o with|.nx ρ'=>yms n rev g s k (i+1) ρ' h1|.ct ρ'=>yms n rev g s k (i+1) ρ' h1|.bk ρ'=>some (.nx ρ',h1)|.rt y=>some (.rt y,h1)
   | none=>none)
  | _=>none
def yjZ (rev:Bool) (e:XE) (g:XG) (s:XS):XS:=fun ρ h=>ob (e ρ h) fun x h1=>match x with
 | .loc n=>(match h1[n]? with|some (.lst xs)=>yms n rev g s xs.length 0 ρ h1|_=>none)
 | _=>none
structure ItX (K:Ck) (n:Nat) (rev:Bool) (m:Nat) (a:Addr) (J:It):Prop where
 go:∀ (i:Nat) (H:Hp) (vs:List V) (v:V),H a=some (.lst vs)->i<m->vs[if rev then m-1-i else i]?=some v->J.go i H
 yld:∀ (i:Nat) (H:Hp) (vs:List V) (v:V) (H2:Hp),H a=some (.lst vs)->i<m->J.yld i H v H2->H2=H/\vs[if rev then m-1-i else i]?=some v
 stop:∀ (H:Hp) (vs:List V),H a=some (.lst vs)->vs.length=m->J.stop m H
section
variable {ta:TE}{ea:XE}{t:TS}{s:XS}
theorem ylC {n:Nat}{xs:List PV}{p:Addr}{us:List V}{J:It}{e:Bool}{g:TG}{y:XG}(b:ypx K g y) (c:yeG K t s) {E W r:Wd}{ρ:PSt}{σ:St}{D:Ends}{o:Out}{h':AH}(gd:Good K E W ρ σ) (l1:Le K W r) (q:Ends.Ok K E W D h' o)
  (f1:yms n e y s xs.length 0 ρ r.h=some (o,h')) (hn:r.h[n]?=some (.lst xs)) (hm:r.m[n]?=some p) (rs:ycy K r xs us) (S:ItX K n e us.length p J) :
  ∃ Z:Nat->Nat->St->Hp->Prop,(∃ m,Z 0 m σ r.H)/\∀ i m σ H,Z i m σ H ->
   (J.stop i H/\D.nx σ H)\/(J.go i H/\∃ N:St->Hp->Prop,(∀ F Q,N F Q->∃ m',m'<m/\Z (i+1) m' F Q)/\∀ x Q,J.yld i H x Q->g x σ Q fun d C=>t { D with nx:=N,ct:=N,bk:=D.nx } d C):=by
   have X:=q.from_ l1.lf
   have hul:us.length=xs.length:=rs.len
   rw [hul] at S
   refine ⟨fun i m σ H=>m=xs.length-i/\i<=xs.length/\∃ h ρ',h.H=H/\Lf K r h/\Good K E h ρ' σ/\yms n e y s (xs.length-i) i ρ' h.h=some (o,h'),⟨_,rfl,zero_le _,r,ρ,rfl,.refl,gd.step l1,f1⟩,?_⟩
   rintro i m σ _ ⟨rfl,hi,h,ρ',rfl,l,g',f⟩
   have L:h.m[n]?=some p:=ydS l.pre hm
   by_cases u:i<xs.length
   .obtain ⟨k,hk⟩:∃ k,xs.length-i=k+1:=⟨xs.length-i-1,by omega⟩
    rw [hk] at f
    unfold yms at f
    split at f
    .rename_i ys M
     split at f
     .rename_i z hz
      obtain ⟨p',A,Y,hf',vs,w,rs'⟩:=g'.ok.loc M (v:=.ref p) ⟨p,rfl,L⟩
      cases A
      have G:(if e=true then xs.length-1-i else i)=(if e=true then k else i):=by rw [show xs.length-1-i=k by omega]
      obtain ⟨vz,O,U⟩:=rs'.get hz
      obtain ⟨ρ1,k1,f⟩:=Option.bind_eq_some_iff.mp f
      obtain ⟨o1,h2,k2,T⟩:=yg f
      refine .inr ⟨S.go i h.H vs vz w u (by rw [G];exact O),fun d C=>i+1<=xs.length/\∃ j ρ2,j.H=C/\Lf K r j/\Good K E j ρ2 d/\yms n e y s (xs.length-(i+1)) (i+1) ρ2 j.h=some (o,h'),fun d C ⟨n1,n2⟩=>⟨xs.length-(i+1),by omega,rfl,n1,n2⟩,fun v C M=>?_⟩
      obtain ⟨rfl,hx⟩:=S.yld i h.H vs v C w u M
      rw [G,O] at hx
      cases hx
      have ek:xs.length-(i+1)=k:=by omega
      refine b E h ρ' ρ1 σ _ vz _ g' U k1 fun d g2=>?_
      refine c E h ρ1 d _ o1 h2 g2 k2 ?_
      cases o1 with
      | nx ρ2=>exact fun j B I R P=>⟨u,j,ρ2,rfl,l.trans R,P,by rw [I,ek];exact T⟩
      | ct ρ2=>exact fun j B I R P=>⟨u,j,ρ2,rfl,l.trans R,P,by rw [I,ek];exact T⟩
      | bk ρ2=>cases T;exact fun j B I R P=>X j B I (l.trans R) P
      | rt x=>cases T;exact X
     .cases f
    .cases f
   .have ei:i=xs.length:=by omega
    subst ei
    rw [sub_self] at f
    unfold yms at f
    split at f
    .rename_i ys M
     obtain ⟨p',A,Y,hf',vs,w,rs'⟩:=g'.ok.loc M (v:=.ref p) ⟨p,rfl,L⟩
     cases A
     split at f
     .rename_i hyl
      cases f
      exact .inl ⟨S.stop h.H vs w (by rw [rs'.len,hyl]),X h σ rfl l g'⟩
     .cases f
    .cases f
theorem yEj {n m:Nat}{a:Addr}:ItX K n false m a (Itl K.K a) where
 go:=fun i H vs v h _ e=>⟨vs,v,SqL.of h,e⟩
 yld:=fun i H vs v c h _ e=>⟨e.1,e.2 vs (SqL.of h)⟩
 stop:=fun H vs h e=>⟨vs,SqL.of h,le_of_eq e⟩
theorem yEk {n m:Nat}{a:Addr}:ItX K n true m a (ItR K.K a m) where
 go:=fun i H vs v h c e=>⟨c,vs,v,SqL.of h,e⟩
 yld:=fun i H vs v d h _ e=>⟨e.1,e.2 vs (SqL.of h)⟩
 stop:=fun H vs h e=>rfl
theorem yuu {g:TG}{y:XG}(a:ybM K ta ea) (b:ypx K g y) (c:yeG K t s):yeG K (yAc (ysZ K.K ta) g t) (yjZ false ea y s):=by
 intro u W ρ σ D o h' j e q
 obtain ⟨x,h1,n,f⟩:=yg e
 refine a u W ρ σ _ x h1 j n fun v z r h l=>?_
 subst r
 split at f
 .split at f
  .rename_i xs i
   obtain ⟨p,ev,k,w,us,hp,m⟩:=h.ok.loc i l
   exact ⟨p,ev,⟨us,SqL.of hp⟩,ylC b c j h q f i k m yEj⟩
  .cases f
 .cases f
theorem yuv {g:TG}{y:XG}(a:ybM K ta ea) (b:ypx K g y) (c:yeG K t s):yeG K (yAc (yFm K.K ta) g t) (yjZ true ea y s):=by
 intro u W ρ σ D o h' j e q
 obtain ⟨x,h1,n,f⟩:=yg e
 refine a u W ρ σ _ x h1 j n fun v z r h l=>?_
 subst r
 split at f
 .split at f
  .rename_i xs i
   obtain ⟨p,ev,k,w,us,hp,m⟩:=h.ok.loc i l
   exact ⟨p,us,ev,SqL.of hp,ylC b c j h q f i k m yEk⟩
  .cases f
 .cases f
end
end PX
namespace PX
open PySem L2
variable {K:Ck}
def yEl (kvs more:List (Key×V)):List (Key×V):=more.foldl (fun acc kv=>putK acc kv.1 kv.2) kvs
def yFn:V->List V->Hp->VK->Prop:=fun x vs H Q=>∃ d o kvs more,x=.ref d/\vs=[.ref o]/\d≠o/\H d=some (.dK kvs)/\H o=some (.dK more)/\kvs.length+more.length<=sizeLine/\Q .non (upd H d (.dK (yEl kvs more)))
def yka:List Key->List PV->List Key->List PV->List Key×List PV
 | j::js,y::ys,ks,xs=>yka js ys (ycK ks xs j y).1 (ycK ks xs j y).2
 | _,_,ks,xs=>(ks,xs)
def yqZ:PV->AH->Bool:=fun x h=>(yly x h).isSome
theorem yuw {W:Wd}{x:PV}{v:V}(w:WOk K W) (r:ycC K W x v) (c:yqZ x W.h=true):tyV K.K "dict" v W.H:=by
 obtain ⟨⟨ks,xs⟩,a⟩:=Option.isSome_iff_exists.mp c
 exact ywh w a r
theorem yra {F:Hp}{m:List Addr}:∀ {js:List Key}{ys:List PV}{us:List V}{ks:List Key}{xs:List PV}{vs:List V},RepL K F m ys us->us.length=js.length->RepL K F m xs vs->vs.length=ks.length ->
  ∃ ws,yEl (ks.zip vs) (js.zip us)=(yka js ys ks xs).1.zip ws/\ws.length=(yka js ys ks xs).1.length/\RepL K F m (yka js ys ks xs).2 ws
 | [],ys,us,ks,xs,vs,r,hl,r2,c=>by
  obtain rfl:us=[]:=List.length_eq_zero_iff.mp (by simpa using hl)
  cases ys with
  | cons y ys=>obtain ⟨v,n,e,_⟩:=r;cases e
  | nil=>exact ⟨vs,rfl,c,r2⟩
 | j::js,[],us,ks,xs,vs,r,hl,r2,c=>by
  obtain rfl:us=[]:=r
  cases hl
 | j::js,y::ys,_,ks,xs,vs,⟨u,us,e,d,i⟩,hl,r2,c=>by
  subst e
  have key:∃ ws,putK (ks.zip vs) j u=(ycK ks xs j y).1.zip ws/\ws.length=(ycK ks xs j y).1.length/\RepL K F m (ycK ks xs j y).2 ws:=by
   have b:=ynZ j u ks vs c
   unfold ycK
   by_cases f:yqO ks j=true
   .rw [if_pos f] at b ⊢
    exact ⟨_,b,by rw [yjT];exact c,r2.setK ks j d⟩
   .rw [if_neg f] at b ⊢
    exact ⟨_,b,by simp_all,r2.snoc d⟩
  obtain ⟨ws,l,k,h⟩:=key
  have g:=yra i (by simpa using hl) h k
  show ∃ ws,yEl (putK _ j u) _=_/\_
  rw [l]
  exact g
def yBc:PM:=fun x ys h=>match x,ys with|.loc n,[.loc k]=>(match h[n]?,h[k]? with|some (.dct ks xs),some (.dct js zs)=>if n≠k/\ks.length+js.length<1000 then some (.non,h.set n (.dct (yka js zs ks xs).1 (yka js zs ks xs).2)) else none|_,_=>none)|_,_=>none
theorem yEm:yix K "dict" yqZ yFn yBc:=by
 refine ⟨fun W x v w r c=>yuw w r c,fun W x v xs vs Q z h' w G r e q=>?_⟩
 unfold yBc at e
 split at e
 .rename_i n k
  split at e
  .rename_i ks xs js M m D
   split at e
   .rename_i F
    cases e
    obtain ⟨u,rfl,y⟩:=ylt r
    obtain ⟨a,ev,o,p,us,hp,hl,B⟩:=w.loc m G
    obtain ⟨b,h,g,E,H,l,i,f⟩:=w.loc D y
    have j:a≠b:=fun z=>by
     subst z
     obtain ⟨J,C⟩:=List.getElem?_eq_some_iff.mp o
     obtain ⟨s,t⟩:=List.getElem?_eq_some_iff.mp g
     exact F.1 (yja w.nd J s (C.trans t.symm))
    obtain ⟨ws,I,A,L⟩:=yra f i B hl
    refine ⟨a,b,_,_,ev,by rw [h],j,hp,l,by rw [length_zip,length_zip];exact small (by omega),?_⟩
    rw [I]
    exact q _ (yjS W n a _ _) rfl (yeJ w m o p ⟨p,_,yB,A,L⟩) rfl
   .cases e
  .cases e
 .cases e
end PX
namespace PX
open PySem L2
variable {K:Ck}
def yBd (J:It) (tc:TT) (te:TE) (inn:V->St) (D:Addr) (Q:VK) (H:Hp):Prop:=∃ W:Nat->Nat->Hp->Prop,(∃ m,W 0 m H)/\∀ i m H,W i m H ->
 (J.stop i H/\Q (.ref D) H)\/(J.go i H/\∀ x H',J.yld i H x H'->tc (inn x) H' fun b H1=>if b=true then te (inn x) H1 fun y H2=>∃ acc,H2 D=some (.lst acc)/\acc.length<sizeLine/\∃ m',m'<m/\W (i+1) m' (upd H2 D (.lst (acc++[y]))) else ∃ m',m'<m/\W (i+1) m' H1)
def yjd (wi:TI) (ix:List Nat) (tc:TT) (te:TE):TE:=fun σ H Q=>wi σ H fun J H1=>∀ D,H1 D=none->yBd J tc te (inner ix σ) D Q (upd H1 D (.lst []))
end PX
namespace PX
open PySem L2
variable {K:Ck}
noncomputable def yhM:Key->PV|.inl i=>.int i|.inr s=>.str s
theorem ylD {W:Wd} k:ycC K W (yhM k) (kV k):=by cases k<;>exact rfl
def ItD (a:Addr) (ob:Obj) (kvs:List (Key×V)):It :=
 ⟨fun i H=>i<kvs.length/\H a=some (.frz ob (.dK kvs)),fun i H x H'=>H'=H/\∃ kv,kvs[i]?=some kv/\x=kV kv.1,fun i H=>i=kvs.length/\H a=some (.frz ob (.dK kvs))⟩
def yxZ (NF:Addr->Prop) (te:TE):TI:=fun σ H R=>te σ H fun x H1=>∃ a kvs,x=.ref a/\H1 a=some (.dK kvs)/\∀ ob,NF a->R (ItD a ob kvs) (upd H1 a (.frz ob (.dK kvs)))
def yEn (NF:Addr->Prop) (D:Ends):Ends:=⟨fun σ H=>∃ a ob kvs,NF a/\H a=some (.frz ob (.dK kvs))/\D.nx σ (upd H a (.dK kvs)),D.rt,D.bk,D.ct⟩
def yBe (NF:Addr->Prop) (te:TE) (g:TG) (t:TS):TS:=fun D=>yAc (yxZ NF te) g t (yEn NF D)
theorem yya {W:Wd}(w:WOk K W) {n:Nat}{d d':Nd}{a:Addr}{o:HO}(e:W.h[n]?=some d) (i:W.m[n]?=some a) (r:W.F a=none) (at':NdAt K W.F (upd W.H a o) W.m d' a):WOk K (yjS W n a o d'):=by
 have v:=(List.getElem?_eq_some_iff.mp e).1
 refine ⟨fun b u q=>?_,by show W.m.length=(W.h.set n d').length;rw [length_set];exact w.len,w.nd,fun j k b g f=>?_⟩
 .have:=ybr q r
  exact (yI this).trans (w.le _ _ q)
 .have g:(W.h.set n d')[j]?=some k:=g
  by_cases h:n=j
  .subst h
   rw [getElem?_set_self v] at g
   cases g
   have f:W.m[n]?=some b:=f
   rw [i] at f
   cases f
   exact at'
  .rw [getElem?_set_ne h] at g
   have p:b≠a:=fun z=>by
    subst z
    obtain ⟨t,s⟩:=List.getElem?_eq_some_iff.mp i
    obtain ⟨m,l⟩:=List.getElem?_eq_some_iff.mp f
    exact h (yja w.nd t m (s.trans l.symm))
   exact (w.at_ j k b g f).mono (Same.refl _) (prefix_refl _) (fun u q=>(yI p).trans q) id
theorem yrb {e f:Wd}(w:WOk K f) (pre:e.m <+: f.m) (fz:∀ (n:Nat) ks xs,e.h[n]?=some (.fz ks xs)->f.h[n]?=some (.fz ks xs)/\∀ a,e.m[n]?=some a->f.H a=e.H a)
  {n:Nat}{a:Addr}{o:HO}{d:Nd}(q:f.m[n]?=some a) (r:∀ ks xs,e.h[n]?≠some (.fz ks xs)) (j:Nat) ks xs (i:e.h[j]?=some (.fz ks xs)) :
  (yjS f n a o d).h[j]?=some (.fz ks xs)/\∀ b,e.m[j]?=some b->(yjS f n a o d).H b=e.H b:=by
 obtain ⟨h1,h2⟩:=fz j ks xs i
 have k:n≠j:=fun z=>by subst z;exact r _ _ i
 refine ⟨(getElem?_set_ne k).trans h1,fun b g=>(yI fun z=>?_).trans (h2 b g)⟩
 subst z
 obtain ⟨s,m⟩:=List.getElem?_eq_some_iff.mp q
 obtain ⟨l,p⟩:=List.getElem?_eq_some_iff.mp (ydS pre g)
 exact k (yja w.nd s l (m.trans p.symm))
theorem yrc {h f:Wd}(l:Le K h f) {n:Nat}{a:Addr}{o:HO}{d d':Nd}(e:f.h[n]?=some d) (g:f.m[n]?=some a) (k:f.F a=none) (at':NdAt K f.F (upd f.H a o) f.m d' a) (j:∀ ks xs,h.h[n]?≠some (.fz ks xs)):Le K h (yjS f n a o d') where
 ok:=yya l.ok e g k at'
 fs:=l.fs
 pre:=l.pre
 keep:=fun b u q i=>by
  have:b≠a:=fun z=>by
   subst z
   rw [l.mn b (mem_of_getElem? g) i] at q
   cases q
  exact (yI this).trans (l.keep b u q i)
 new:=l.new
 mn:=l.mn
 fz:=yrb l.ok l.pre l.fz g j
theorem Good.thaw {f c:Wd}{ρ:PSt}{σ:St}(g:Good K f c ρ σ) {n:Nat}{a:Addr}{o:HO}{d d':Nd}(e:c.h[n]?=some d) (h:c.m[n]?=some a) (j:c.F a=none) (at':NdAt K c.F (upd c.H a o) c.m d' a) (r:∀ ks xs,f.h[n]?≠some (.fz ks xs)):Good K f (yjS c n a o d') ρ σ where
 le:=yrc g.le e h j at' r
 len:=g.len
 val:=g.val
 own:=fun i d1 m=>by
  obtain ⟨p,h1,h2,k,l,s⟩:=g.own i d1 m
  have hp:p≠a:=fun z=>h2 (z ▸ mem_of_getElem? h)
  exact ⟨p,h1,h2,k,l,s.mono (Same.refl _) (prefix_refl _) (fun u q=>(yI hp).trans q) id⟩
 ne:=g.ne
theorem ywi {W b:Wd}(l:Le K W b) {n:Nat}{d:Nd}(e:b.h[n]?=some d) (c:∀ ks xs,d≠.fz ks xs) ks xs:W.h[n]?≠some (.fz ks xs):=fun z=>by
 have:=(l.fz n ks xs z).1
 rw [e] at this
 simp_all
section
variable {ta:TE}{ea:XE}{t:TS}{s:XS}
theorem yux {J:It}{xs:List PV}{g:TG}{y:XG}(b:ypx K g y) (c:yeG K t s) {p k:Wd}{ρ:PSt}{σ:St}{D:Ends}{o:Out}{h':AH}(L:Good K p k ρ σ) (E:Ends.Ok K p k D h' o) (C:yCE K k J xs) (M:ydZ y s xs ρ k.h=some (o,h')) :
  ∃ Z:Nat->Nat->St->Hp->Prop,(∃ m,Z 0 m σ k.H)/\∀ i m σ H,Z i m σ H ->
   J.stop i H/\D.nx σ H\/J.go i H/\∃ N:St->Hp->Prop,(∀ z u,N z u->∃ m',m'<m/\Z (i+1) m' z u)/\∀ x u,J.yld i H x u->g x σ u fun d q=>t { D with nx:=N,ct:=N,bk:=D.nx } d q:=by
 refine ⟨fun i m σ H=>m=xs.length-i/\i<=xs.length/\∃ h ρ',h.H=H/\Lf K k h/\Good K p h ρ' σ/\ydZ y s (xs.drop i) ρ' h.h=some _,⟨_,rfl,zero_le _,k,ρ,rfl,.refl,L,by simpa using M⟩,?_⟩
 rintro i m σ _ ⟨rfl,R,h,ρ',rfl,l,g',f⟩
 by_cases e:i<xs.length
 .rw [List.drop_eq_getElem_cons e] at f
  obtain ⟨ρ1,k1,f⟩:=Option.bind_eq_some_iff.mp f
  obtain ⟨o1,h2,k2,B⟩:=yg f
  refine .inr ⟨C.go i h l g'.ok e,fun d q=>i+1<=xs.length/\∃ j ρ2,j.H=q/\Lf K k j/\Good K p j ρ2 d/\ydZ y s _ ρ2 j.h=some _,fun d q ⟨Q,G⟩=>⟨_,by omega,rfl,Q,G⟩,fun v q I=>?_⟩
  obtain ⟨rfl,x,F,O⟩:=C.yld i h v q l g'.ok e I
  rw [List.getElem?_eq_getElem e] at F
  cases F
  refine b p h ρ' ρ1 σ _ v _ g' O k1 fun d P=>?_
  refine c p h ρ1 d _ o1 h2 P k2 ?_
  cases o1 with
  | nx ρ2=>exact fun j n w r A=>⟨e,j,ρ2,rfl,l.trans r,A,by rw [w];exact B⟩
  | ct ρ2=>exact fun j n w r A=>⟨e,j,ρ2,rfl,l.trans r,A,by rw [w];exact B⟩
  | bk ρ2=>cases B;exact fun j n w r A=>E j n w (l.trans r) A
  | rt x=>cases B;exact E
 .have ei:i=xs.length:=by omega
  subst ei
  refine .inl ⟨C.stop h l g'.ok,?_⟩
  rw [List.drop_length] at f
  cases f
  exact E h σ rfl l g'
end
end PX
namespace PX
open PySem L2
variable {K:Ck}
def spJ (K:Ck) (n k:Nat) (f:List PV->AH->Option (Nd×AH)):Sp:=fun vs H Q _=>∃ (W0 W:Wd) (x:Addr) (args:List V) (xs:List PV) (d:Nd) (h':AH),vs=.ref x::args/\W.H=H/\Le K W0 W/\W0.H x=none/\x∉W.m/\NdAt K W.F W.H W.m (.ins k [] []) x /\
 ycy K W xs args/\xs.length=n/\f xs W.h=some (d,h')/\∀ W',W'.h=h'->Lf K W W'->Le K W0 W'->x∉W'.m->d≠.dead->NdAt K W'.F W'.H W'.m d x->Q .non W'.H
theorem yyb {n k:Nat}{f} {vs:List V}{H:Hp}{Q:VK}{E:XK}(h:spJ K n k f vs H Q E):vs.length=n+1:=by
 obtain ⟨b,W,x,args,xs,d,h',rfl,_,_,_,_,_,r,a,_⟩:=h
 rw [length_cons,r.len,a]
theorem yrd {N:List Str}{n k:Nat}{t:TS}{s:XS}{vs:List V}{H:Hp}{Q:VK}{E:XK}{bk ct:St->Hp->Prop}(U:n+1<=N.length) (a:ysP K t s) (h:spJ K n k (ymr N.length k s) vs H Q E):t ⟨fun _ P=>Q .non P,Q,bk,ct⟩ (L2.start N vs) H:=by
 obtain ⟨B,W,x,args,xs,d,h',rfl,rfl,le,I,O,v,r,T,e,q⟩:=h
 obtain ⟨o,h1,L,f⟩:=yg e
 have A:=ygx (K:=K) (N:=N.drop 1) le.ok r
 have g:Good K B W (.own (.ins k [] [])::(xs.map .val++replicate (N.length-(xs.length+1)) .no)) (L2.start N (.ref x::args)):=by
  have es:L2.start N (.ref x::args)=some (.ref x)::L2.start (N.drop 1) args:=by
   have R:N.length-(args.length+1)=(N.drop 1).length-args.length:=by rw [length_drop];omega
   unfold L2.start
   rw [map_cons,List.cons_append,length_cons,R]
  have C:N.length-(xs.length+1)=(N.drop 1).length-xs.length:=by rw [length_drop];omega
  rw [es,C]
  have c:∀ (j:Nat) (d:Nd),(xs.map PVar.val++replicate ((N.drop 1).length-xs.length) .no)[j]?≠some (.own d):=fun j d z=>by
   by_cases w:j<xs.length
   .rw [getElem?_append_left (by simpa using w),getElem?_map,List.getElem?_eq_getElem w] at z
    cases z
   .rw [getElem?_append_right (by simp;omega),getElem?_replicate] at z
    split at z<;>cases z
  refine ⟨le,by rw [length_cons,length_cons,A.len],fun j y z=>?_,fun j d z=>?_,fun i j d d' u z D=>?_⟩
  .cases j with
   | zero=>cases z
   | succ j=>exact A.val j y z
  .cases j with
   | zero=>cases z;exact ⟨x,rfl,O,I,(fun z=>by cases z),v⟩
   | succ j=>exact absurd z (c j d)
  .cases i with
   | zero =>
    cases j with
    | zero=>exact absurd rfl u
    | succ j=>exact absurd D (c j d')
   | succ i=>exact absurd z (c i d)
 cases o with
 | rt y=>cases f
 | bk ρ=>cases f
 | ct ρ=>cases f
 | nx ρ =>
  refine a B W _ ρ _ _ h1 g L fun J M lf g'=>?_
  dsimp only at f
  split at f
  .rename_i d' l
   cases f
   obtain ⟨p,m,G,X,F,S⟩:=g'.own 0 _ l
   have m:some (some (V.ref x))=some (some (V.ref p)):=m
   cases m
   exact q J M lf g'.le G F S
  .cases f
noncomputable def yBf:PVar->Bool|.own _=>false|_=>true
def xBI (k:Nat) (f:List PV->AH->Option (Nd×AH)) (a:XA):XS:=fun ρ h=>match ρ with
 | .own (.ins k' [] [])::r=>if k'=k/\r.all yBf=true then ob (a ρ h) fun xs h1=>ob (f xs h1) fun d h2=>(match d with|.dead=>none|d=>some (.nx (.own d::r),h2)) else none
 | _=>none
theorem yyc {n k:Nat}{f} {E:XK}{t:TA}{m:XA}(a:ymp K t m) (M:∀ ρ h xs h',m ρ h=some (xs,h')->xs.length=n):ysP K (ypG (ytg (spJ K n k f) [] E (ymz (ypw 0) t))) (xBI k f m):=by
 intro F W ρ ρ' σ D h' g e q
 unfold xBI at e
 split at e
 .rename_i X r
  split at e
  .rename_i c
   obtain ⟨rfl,u⟩:=c
   obtain ⟨xs,h1,A,P⟩:=yg e
   obtain ⟨d,h2,L,C⟩:=yg P
   have C:some (Out.nx (.own d::r),h2)=some (.nx ρ',h'):=by
    grind
   cases C
   obtain ⟨p,x,b2,b3,Z,b5⟩:=g.own 0 _ rfl
   refine ⟨_,x,?_⟩
   refine a F W _ σ _ xs h1 g A fun vs Q S G H=>?_
   subst S
   have l:=g.step G
   obtain ⟨p',B,R,T,Y,J⟩:=l.own 0 _ rfl
   rw [x] at B
   cases B
   rw [append_nil]
   refine ⟨F,Q,p,vs,xs,d,h',rfl,rfl,l.le,T,R,J,H,M _ _ _ _ A,L,fun O I lf le U hd N=>?_⟩
   refine q O I (G.lf.trans lf) ⟨le,l.len,fun j y z=>?_,fun j d' z=>?_,fun i j d1 d2 o s w=>?_⟩
   .cases j with
    | zero=>cases z
    | succ j =>
     obtain ⟨v,s,w⟩:=l.val (j+1) y z
     exact ⟨v,s,lf.rep w⟩
   .cases j with
    | zero=>grind
    | succ j =>
     have:=List.all_eq_true.mp u _ (mem_of_getElem? z)
     cases this
   .cases i with
    | zero =>
     cases j with
     | zero=>exact absurd rfl o
     | succ j =>
      have z:=w
      have:=List.all_eq_true.mp u _ (mem_of_getElem? z)
      cases this
    | succ i =>
     have z:=s
     have:=List.all_eq_true.mp u _ (mem_of_getElem? z)
     cases this
  .cases e
 .cases e
theorem yuy {a:Addr}{ss:List Str}(h:KTp K.K a (ss.map V.str)):ybM K (tC (.ref a)) (xC (.tup (ss.map PV.str))):=by
 intro c W ρ σ Q x h' g e q
 cases e
 refine q _ W rfl (.refl g.ok) ⟨a,_,rfl,.inr h,?_⟩
 clear h q
 induction ss with
 | nil=>exact rfl
 | cons s ss ih=>exact ⟨_,_,rfl,rfl,ih⟩
end PX
namespace PX
open PySem L2
variable {K:Ck}
noncomputable def yre (c:Nat):List Nat->List (List Nat)
 | []=>[[]]
 | k::r=>if k=c then []::yre c r else match yre c r with|[]=>[[k]]|w::ws=>(k::w)::ws
theorem ylE {c:Nat}:∀ {w:List Nat},c∉w->yre c w=[w]
 | [],_=>rfl
 | k::r,h=>by
  have h1:k≠c:=fun z=>h (z ▸ mem_cons_self ..)
  unfold yre
  rw [if_neg h1,ylE fun z=>h (mem_cons_of_mem _ z)]
theorem yog {c:Nat}:∀ {w r:List Nat},c∉w->yre c (w++c::r)=w::yre c r
 | [],r,_=>by
  show (if c=c then []::yre c r else _)=_
  rw [if_pos rfl]
 | k::w,r,h=>by
  have h1:k≠c:=fun z=>h (z ▸ mem_cons_self ..)
  show (if k=c then []::yre c _ else match yre c (w++c::r) with|[]=>[[k]]|w::ws=>(k::w)::ws)=_
  rw [if_neg h1,yog fun z=>h (mem_cons_of_mem _ z)]
def ywj (z:Str):List Str:=(yre 32 z.cps.toList).map fun w=>⟨w.toArray⟩
theorem yhN:∀ ws,ws≠[]->(∀ w∈ws,32∉w.cps.toList)->ywj (Str.join " " ws)=ws
 | [],h,_=>absurd rfl h
 | [w],_,h=>by
  have h1:=ylE (h w (List.mem_singleton.mpr rfl))
  show (yre 32 w.cps.toList).map _=_
  rw [h1];rfl
 | w::v::r,_,h=>by
  have c:=yhN _ (fun z=>by cases z) fun u d=>h u (mem_cons_of_mem _ d)
  show ywj (w++" "++Str.join " " _)=_
  have e:(w++" "++Str.join " " (v::r)).cps.toList=w.cps.toList++32::(Str.join " " (v::r)).cps.toList:=by
   show (w.cps++(" ":Str).cps++(Str.join " " _).cps).toList=_
   rw [show (" ":Str).cps = #[32] by rfl']
   simp
  unfold ywj at c ⊢
  rw [e,yog (h w (mem_cons_self ..)),map_cons,c]
def ywk:V->List V->Hp->VK->Prop:=fun x vs H Q=>∃ z:Str,x=.str z/\vs=[.str " "]/\z.length<=100000/\∀ p,H p=none->Q (.ref p) (upd H p (.lst ((ywj z).map V.str)))
def yoh:PM:=fun x xs h=>match x,xs with|.str z,[.str y]=>if y = " "/\z.length<=100000 then some (.lst ((ywj z).map .str),h) else none|_,_=>none
theorem RepL.of_strs {F:Hp}{m:List Addr}:∀ (ts:List Str),RepL K F m (ts.map PV.str) (ts.map V.str)
 | []=>rfl
 | _::ts=>⟨_,_,rfl,rfl,RepL.of_strs ts⟩
theorem m_split:yix K "str" isStr ywk yoh:=by
 refine ⟨fun W x v w r c=>?_,fun W x v xs vs Q z h' w f r e q=>?_⟩
 .unfold isStr at c
  split at c
  .rw [r];rfl
  .cases c
 .unfold yoh at e
  split at e
  .rename_i z y
   split at e
   .rename_i c
    cases e
    obtain ⟨u,rfl,d⟩:=ylt r
    refine ⟨z,f,by rw [d,c.1],c.2,fun p hp=>?_⟩
    have b:=yqo (o:=.lst ((ywj z).map V.str)) w hp
    exact q _ (yxq W p _) rfl b ⟨p,_,rfl,yB,RepL.of_strs _⟩
   .cases e
  .cases e
theorem yyd {z:Str}{h:AH}(e:z.length<=100000):yoh (.str z) [.str " "] h=some (.lst ((ywj z).map .str),h):=by
 exact if_pos ⟨rfl,e⟩
variable {t:TS}{s:XS}
end PX
namespace PX
open PySem L2
variable {K:Ck}
mutual
noncomputable def clean:PV->Bool
 | .loc _=>false
 | .lst xs=>yoi xs
 | .tup xs=>yoi xs
 | .ins _ _ xs=>yoi xs
 | _=>true
noncomputable def yoi:List PV->Bool
 | []=>true
 | x::xs=>clean x && yoi xs
end
noncomputable def yrf (f:PV->Option PV):List PV->Option (List PV)
 | []=>some []
 | x::xs=>match f x,yrf f xs with|some y,some ys=>some (y::ys)|_,_=>none
def see:Nat->AH->PV->Option PV
 | 0,_,x=>if clean x=true then some x else none
 | n+1,h,x=>match x with
  | .loc m=>(match h[m]? with|some (.lst xs)=>(yrf (see n h) xs).map .lst|some (.ins k ns xs)=>(yrf (see n h) xs).map (.ins k ns)|_=>none)
  | x=>if clean x=true then some x else none
variable {t:TA}{e:XA}
end PX
namespace PX
open PySem L2
variable {K:Ck}
theorem yEo {W e:Wd}(f:Le K W e) {p:Addr}{d:Nd}(q:p∉e.m) (o:W.H p=none) (j:NdAt K e.F e.H e.m d p):Le K W ⟨e.F,e.H,e.m++[p],e.h++[d]⟩/\ycC K ⟨e.F,e.H,e.m++[p],e.h++[d]⟩ (.loc e.h.length) (.ref p):=by
 have pre:e.m <+: e.m++[p]:=List.prefix_append _ _
 refine ⟨⟨⟨f.ok.le,?_,?_,fun n d' a g h=>?_⟩,f.fs,f.pre.trans pre,f.keep,f.new,fun b z n=>?_,fun n ks xs g=>⟨by
  have:=(f.fz n ks xs g).1
  grind,(f.fz n ks xs g).2⟩⟩,⟨p,rfl,?_⟩⟩
 .rw [length_append,length_append,f.ok.len];rfl
 .show (e.m++[p]).Nodup
  rw [List.nodup_append]
  refine ⟨f.ok.nd,by simp,?_⟩
  grind
 .by_cases i:n<e.h.length
  .rw [getElem?_append_left i] at g
   rw [getElem?_append_left (by rw [f.ok.len];exact i)] at h
   exact (f.ok.at_ n d' a g h).mono (Same.refl _) pre (fun _ l=>l) id
  .rw [getElem?_append_right (by omega)] at g
   rw [getElem?_append_right (by rw [f.ok.len];omega)] at h
   rw [f.ok.len] at h
   cases m:n-e.h.length with
   | zero =>
    rw [m] at g h
    simp at g h
    subst g h
    exact j.mono (Same.refl _) pre (fun _ l=>l) id
   | succ k=>rw [m] at g;simp at g
 .have z:b∈e.m++[p]:=z
  rcases List.mem_append.mp z with z|z
  .exact f.mn b z n
  .simp at z;subst z;exact o
 .rw [<- f.ok.len];simp
def yje (k:Nat) (f:Fn) (a:XA):XE:=fun ρ h=>ob (a ρ h) fun xs h1=>ob (f (.loc h1.length::xs) (h1++[.ins k [] []])) fun x h2=>match x with|.non=>some (.loc h1.length,h2)|_=>none
theorem yrg {k:Nat}{f:Fn}{b:XA}{ρ:PSt}{h:AH}:yje k f b ρ h=ob (b ρ h) fun xs h1=>ob (f (.loc h1.length::xs) (h1++[.ins k [] []])) fun x h2=>match x with|.non=>some (.loc h1.length,h2)|_=>none:=id rfl
theorem yrh {n k:Nat}{f:Fn}{s:XK}{t:TA}{e:XA}(a:ymp K t e) (L:∀ ρ h xs h',e ρ h=some (xs,h')->xs.length=n):ybM K (yth (K.A k) (spE K (n+1) f) [] s t) (yje k f e):=by
 intro D W ρ σ Q z h' g u q
 obtain ⟨xs,h1,B,C⟩:=yg u
 obtain ⟨y,h2,E,m⟩:=yg C
 refine a D W ρ σ _ xs h1 g B fun vs j J l w=>?_
 subst J
 intro x i c G o
 rw [append_nil]
 have a1:Le K j (yiw j i (.own x)):=ycE l.ok G
 have p:(yiw j i (.own x)).H x=none:=(yI o.symm).trans c
 have a2:Le K _ (yiw _ x (.ins (K.A k) i [])):=ycE a1.ok p
 obtain ⟨a3,r⟩:=yEo (d:=.ins k [] []) (a1.trans a2) (l.ok.out c) c ⟨l.ok.ff c,i,[],yB,rfl,rfl⟩
 refine ⟨_,.loc j.h.length::xs,y,h2,rfl,a3.ok,⟨_,_,rfl,r,a3.repL w⟩,by grind,E,fun v F A l' I=>?_⟩
 split at m
 .cases m
  exact ⟨I,q _ F A (l.trans (a3.trans l')) (l'.rep r)⟩
 .cases m
noncomputable def yFo:List V->Hp->VK->Prop:=fun xs H Q=>∃ (p:Addr) (bs:List Bool),xs=[.ref p]/\H p=some (.lst (bs.map V.bl))/\Q (.bl (bs.any id)) H
def yri:List PV->AH->Option (PV×AH):=fun xs h=>match xs with|[x]=>(match ybE x h with|some ys=>(match yhE ys with|some ns=>some (.bl (ns.any id),h)|none=>none)|none=>none)|_=>none
theorem yye:ygV K yFo yri:=by
 intro W xs vs Q z h' w r e q
 unfold yri at e
 split at e
 .split at e
  .rename_i ys f
   split at e
   .rename_i ns d
    cases e
    obtain ⟨v,rfl,g⟩:=ylt r
    obtain ⟨a,us,rfl,hs,c⟩:=yU w f g
    have:=yhF d c
    subst this
    exact ⟨a,ns,rfl,hs,q _ W rfl (.refl w) rfl⟩
   .cases e
  .cases e
 .cases e
def ynh (n:Nat) (e:XE) (inn:PV->PSt):Nat->Nat->AH->Option (List PV×AH)
 | 0,i,h=>match h[n]? with|some (.lst xs)=>if xs.length=i then some ([],h) else none|_=>none
 | k+1,i,h=>match h[n]? with
  | some (.lst xs)=>(match xs[i]? with|some x=>ob (e (inn x) h) fun y h1=>ob (ynh n e inn k (i+1) h1) fun ys h2=>some (y::ys,h2)|none=>none)
  | _=>none
def yew (e:XE) (ix:List Nat) (el:XE):XO:=fun ρ h=>ob (e ρ h) fun x h1=>match x with
 | .loc n=>(match h1[n]? with|some (.lst xs)=>if xs.length<=10000 then ob (ynh n el (yfP ix ρ) xs.length 0 h1) fun ys h2=>some (.lst ys,h2) else none|_=>none)
 | _=>none
theorem ylF {ta tb:TE}{ea M:XE}(ix:List Nat) (a:ybM K ta ea) (b:ybM K tb M):ymq K (yoN (ysZ K.K ta) ix tb) (yew ea ix M):=by
 intro W0 W ρ σ Q d h' gd e q
 obtain ⟨x,h1,e1,t⟩:=yg e
 refine a W0 W ρ σ _ x h1 gd e1 fun v W1 w1 r r1=>?_
 subst w1
 split at t
 .rename_i n
  split at t
  .rename_i xs hn
   split at t
   .rename_i hlen
    obtain ⟨zs,h2,e2,f2⟩:=yg t
    cases f2
    obtain ⟨p,ev,hm,hf,us,hp,rs⟩:=r.ok.loc hn r1
    refine ⟨p,ev,⟨us,SqL.of hp⟩,fun D F=>?_⟩
    have nm:=r.ok.out F
    have nf:=r.ok.ff F
    refine ⟨fun i m H=>m=xs.length-i/\i<=xs.length/\∃ j h g rest,j.H=H/\Le K W1 j/\D∉j.m/\j.F D=none/\H D=some (.lst h)/\ycy K j g h/\g.length=i/\zs=g++rest/\ynh n M (yfP ix ρ) (xs.length-i) i j.h=some (rest,h'),⟨_,rfl,zero_le _,yiw W1 D (.lst []),[],[],zs,rfl,ycE r.ok F,nm,nf,yB,rfl,rfl,rfl,e2⟩,?_⟩
    rintro i m _ ⟨rfl,hi,j,h,g,rest,rfl,l,O,Z,E,R,ld,Y,f⟩
    have I:j.m[n]?=some p:=ydS l.pre hm
    by_cases T:i<xs.length
    .obtain ⟨k,hk⟩:∃ k,xs.length-i=k+1:=⟨xs.length-i-1,by omega⟩
     rw [hk] at f
     unfold ynh at f
     split at f
     .rename_i ys A
      split at f
      .rename_i z hz
       obtain ⟨p',s,X,S,vs,o,rs'⟩:=l.ok.loc A (v:=.ref p) ⟨p,rfl,I⟩
       cases s
       obtain ⟨y,h3,k1,f3⟩:=yg f
       obtain ⟨G,h4,k2,f4⟩:=yg f3
       cases f4
       obtain ⟨vz,B,P⟩:=rs'.get hz
       refine .inr ⟨⟨vs,vz,SqL.of o,B⟩,fun v H2 A=>?_⟩
       obtain ⟨rfl,N⟩:=A
       have N:=N vs (SqL.of o)
       rw [B] at N
       cases N
       refine b j j _ _ _ y h3 (yjL gd (r.trans l) ix P) k1 fun w L w2 u r2=>?_
       have J:D∉L.m:=fun z=>by rw [u.mn D z O] at E;cases E
       have C:L.F D=none:=u.new D _ E O Z
       refine ⟨h,u.keep _ _ E O,?_,xs.length-(i+1),by omega,rfl,T,ytH L D (.lst (h++[w])),h++[w],g++[y],G,rfl,yjK (l.trans u) J C F,J,C,yB,(u.repL R).snoc r2,by simp [ld],by simp [Y],?_⟩
       .rw [R.len,ld];exact big (by omega)
       .show ynh n M (yfP ix ρ) (xs.length-(i+1)) (i+1) L.h=some (G,h')
        rw [w2,show xs.length-(i+1)=k by omega];exact k2
      .cases f
     .cases f
    .have ei:i=xs.length:=by omega
     subst ei
     rw [sub_self] at f
     unfold ynh at f
     split at f
     .rename_i ys A
      obtain ⟨p',s,X,S,vs,o,rs'⟩:=l.ok.loc A (v:=.ref p) ⟨p,rfl,I⟩
      cases s
      split at f
      .rename_i U
       cases f
       refine .inl ⟨⟨vs,SqL.of o,by rw [rs'.len,U];exact Nat.le_refl _⟩,?_⟩
       rw [append_nil] at Y
       subst Y
       exact q D j rfl (r.trans l) O (r.fresh F) (fun z=>by cases z) ⟨Z,h,E,R⟩
      .cases f
     .cases f
   .cases t
  .cases t
 .cases t
end PX
namespace PX
open PySem L2
variable {K:Ck}
def ylG (e:XE) (ix:List Nat) (el:XE):XO:=fun ρ h=>ob (e ρ h) fun x h1=>match x with
 | .loc n=>(match h1[n]? with|some (.dct ks xs)=>if ks.length<=10000 then ob (ygW el (yfP ix ρ) (ks.map yhM) (h1.set n (.fz ks xs))) fun ys h2=>some (.lst ys,h2.set n (.dct ks xs)) else none|_=>none)
 | _=>none
def ywl (NF:Addr->Prop) (te:TE) (ix:List Nat) (tb:TE):TE:=fun σ H Q=>yoN (yxZ NF te) ix tb σ H fun v H'=>∃ a ob kvs,NF a/\H' a=some (.frz ob (.dK kvs))/\Q v (upd H' a (.dK kvs))
theorem yrj {NF:Addr->Prop}{ta tb:TE}{ea T:XE}(ix:List Nat) (a:ybM K ta ea) (b:ybM K tb T):ymq K (ywl NF ta ix tb) (ylG ea ix T):=by
 intro W0 W ρ σ Q d h' gd e q
 obtain ⟨x,h1,e1,r⟩:=yg e
 refine a W0 W ρ σ _ x h1 gd e1 fun v k w1 U r1=>?_
 subst w1
 split at r
 .rename_i n
  split at r
  .rename_i ks xs X
   split at r
   .rename_i hlen
    obtain ⟨zs,h2,e2,f2⟩:=yg r
    cases f2
    have hz:=yqw e2
    rw [length_map] at hz
    obtain ⟨p,ev,Y,hf,us,hp,hl,rs⟩:=U.ok.loc X r1
    have G:(ks.zip us).length=ks.length:=by rw [length_zip,hl,Nat.min_self]
    refine ⟨p,ks.zip us,ev,hp,fun ob nf=>?_⟩
    have lf:Le K k (yjS k n p (.frz ob (.dK (ks.zip us))) (.fz ks xs)):=yeJ U.ok X Y hf ⟨hf,ob,us,yB,hl,rs⟩
    have hnl:n<k.h.length:=(List.getElem?_eq_some_iff.mp X).1
    have o:∀ g,Lf K (yjS k n p (.frz ob (.dK (ks.zip us))) (.fz ks xs)) g->g.h[n]?=some (.fz ks xs)/\g.H p=some (.frz ob (.dK (ks.zip us))):=fun g l=>by
     obtain ⟨S,J⟩:=l.fz n ks xs (getElem?_set_self hnl)
     exact ⟨S,(J p Y).trans yB⟩
    have l2:=U.trans lf
    generalize u:yjS k n p (.frz ob (.dK (ks.zip us))) (.fz ks xs)=I at *
    have A:I.h=k.h.set n (.fz ks xs):=by rw [<- u];rfl
    have B:I.H=upd k.H p (.frz ob (.dK (ks.zip us))):=by rw [<- u];rfl
    have C:I.m=k.m:=by rw [<- u];rfl
    rw [<- A] at e2
    rw [<- B]
    intro D M
    have nm:=lf.ok.out M
    have nf2:=lf.ok.ff M
    refine ⟨fun i m H=>m=ks.length-i/\i<=ks.length/\∃ g j h rest,g.H=H/\Le K I g/\D∉g.m/\g.F D=none/\H D=some (.lst j)/\ycy K g h j/\h.length=i/\zs=h++rest/\ygW T (yfP ix ρ) ((ks.map yhM).drop i) g.h=some (rest,h2),⟨_,rfl,zero_le _,yiw I D (.lst []),[],[],zs,rfl,ycE lf.ok M,nm,nf2,yB,rfl,rfl,rfl,by rw [List.drop_zero];exact e2⟩,?_⟩
    rintro i m _ ⟨rfl,hi,g,j,h,rest,rfl,l,P,n2,E,rd,ld,ez,f⟩
    obtain ⟨S,J⟩:=o g l.lf
    by_cases s:i<ks.length
    .have L:i<(ks.map yhM).length:=by rw [length_map];exact s
     rw [List.drop_eq_getElem_cons L] at f
     obtain ⟨y,h3,k1,f3⟩:=yg f
     obtain ⟨ys,h4,k2,f4⟩:=yg f3
     cases f4
     refine .inr ⟨⟨by rw [G];exact s,J⟩,fun v H2 hy=>?_⟩
     obtain ⟨rfl,kv,y1,rfl⟩:=hy
     obtain ⟨y4,y5⟩:=List.getElem?_eq_some_iff.mp y1
     have ek:(ks.map yhM)[i]=yhM kv.1:=by rw [List.getElem_map,<- y5,List.getElem_zip]
     rw [ek] at k1
     refine b g g _ _ _ y h3 (yjL gd (l2.trans l) ix (ylD kv.1)) k1 fun w R w3 O r3=>?_
     have F:D∉R.m:=fun z=>by rw [O.mn D z P] at E;cases E
     have N:R.F D=none:=O.new D _ E P n2
     refine ⟨j,O.keep _ _ E P,?_,ks.length-(i+1),by omega,rfl,s,ytH R D (.lst (j++[w])),j++[w],h++[y],ys,rfl,yjK (l.trans O) F N M,F,N,yB,(O.repL rd).snoc r3,by simp [ld],by simp [ez],?_⟩
     .rw [rd.len,ld];exact big (by omega)
     .show ygW T (yfP ix ρ) ((ks.map yhM).drop (i+1)) R.h=some (ys,h2)
      rw [w3];exact k2
    .have ei:i=ks.length:=by omega
     subst ei
     rw [List.drop_of_length_le (by rw [length_map];exact Nat.le_refl _)] at f
     cases f
     refine .inl ⟨⟨G.symm,J⟩,p,ob,ks.zip us,nf,J,?_⟩
     rw [append_nil] at ez
     subst ez
     have t:g.m[n]?=some p:=ydS l.pre (by rw [C];exact Y)
     obtain ⟨z3,_⟩:=l.ok.at_ n _ p S t
     have at':NdAt K g.F (upd g.H p (.dK (ks.zip us))) g.m (.dct ks xs) p:=⟨z3,us,yB,hl,RepL.mono (lf.fs.trans l.fs) (lf.pre.trans l.pre) _ _ rs⟩
     have nW:=ywi U X (fun _ _ z=>by cases z)
     have Z:D≠p:=fun z=>by subst z;exact P (mem_of_getElem? t)
     refine q D (yjS g n p (.dK (ks.zip us)) (.dct ks xs)) rfl (yrc (l2.trans l) S t z3 at' nW) P (l2.fresh M) (fun z=>by cases z) ⟨n2,j,(yI Z).trans E,rd⟩
   .cases r
  .cases r
 .cases r
end PX
namespace L2
open PySem PySem.Spec PyProof.Rows PX
def PTs (X:Cx) (cs:List Expr) (t:TT):Prop :=
 ∀ (pins:List (Addr×Obj)) (s:Shared) (σ:St) (H:Hp) (Q:Bool->Hp->Prop),Inv X pins σ H s->t σ H Q->wpAny (model X.prog X.w) X.A (forIn cs true fun c r=>if r=true then do let ok <- isTrue c X.env (eval c X.env);pure (ForInStep.yield ok) else pure (ForInStep.yield r)) (TP X pins σ Q) X.xe s
def yCM:TT:=fun _ H Q=>Q true H
theorem PTs.nil {X:Cx}:PTs X [] yCM:=fun p s σ H Q I q=>wpAny_tests_nil ⟨H,I,q⟩
theorem yrk {a:TI}{ix:List Nat}{te:TE}:yjd a ix yCM te=yoN a ix te:=rfl
theorem yyf {X:Cx}{e:Expr}{b:TI}{ix:List Nat}{te:TE}(h:PE X e (yjd b ix yCM te)):PE X e (yoN b ix te):=yrk ▸ h
theorem yyg {X:Cx}{e:Stmt}{b:TI}{ix:List Nat}{te:TE}{g:TG}(h:PS X e (yvD (yjd b ix yCM te) g)):PS X e (yvD (yoN b ix te) g):=yrk ▸ h
theorem ylH {X:Cx}{elt iter:Expr}{cs:List Expr}{tc:TT}{x:Str}{px:Pos}{scope:Scope}{N:Pos}{wi:TI}{te:TE}(ix:List Nat) (B:List Str) (hc:X.calm=true) (hi:PI X (.Name x px) iter wi) (hfr:FrOk X scope ix B)
  (he:∀ (t:List (Str×Addr)) (C:Addr) (R:Shared) (O:Hp) (fp:List Addr) (g:List (Addr×Obj)),PE (cxC X scope t C (x::B) R O fp g) elt te)
  (hq:∀ (t:List (Str×Addr)) (C:Addr) (R:Shared) (O:Hp) (fp:List Addr) (g:List (Addr×Obj)),PTs (cxC X scope t C (x::B) R O fp g) cs tc)
  (hnd:(x::B).Nodup) (F:scope.kind=.function) (Q:∀ y∈scope.names,y.2≠.cell)
  (hnames:∀ y∈scope.names,y.2=.local->scope.names.lookup y.1=some .local) (hfree0:∀ y∈scope.names,y.2=.free->y.1∈B) (hx:scope.names.lookup x=some .local)
  (hs:∀ v,foldedSetIterable iter X.env v=pure v)
  {g:List (Addr×Obj)}{s:Shared}{σ:St}{H:Hp}{Qf:VK}{use:Option (Value->Sem Unit)}{QQ:Value->Shared->Prop}{p2:Pos}(I:Inv X g σ H s) (h:yjd wi ix tc te σ H Qf)
  (fin0:∀ {t:List (Str×Addr)}{C:Addr}{s3:Shared}{E:Hp}{fp:List Addr},Inv X g σ E s3->(∀ b∈fp,ysY X g E b)->s3.heap.objs.size=C->∀ {D:Addr}{σ':St}{Z:Hp}{s':Shared},Inv (cxC X scope t C (x::B) s3 E fp g) [] σ' Z s'->Qf (.ref D) Z->compPost (model X.prog X.w) X.A X.xe use QQ (.ref D) C (.ok .next) s') :
  wpAny (model X.prog X.w) X.A (comprehension (.ListComp elt [⟨.Name x px,iter,cs,0⟩] scope N) scope X.env p2 (newList []) false (eval iter X.env) use) QQ X.xe s:=by
 have hfn:X.env.scope.kind=.function:=I.ok.kind
 have S:∀ y∈scope.names,y.2=.free->X.env.kindOf y.1=some .cell/\scope.names.lookup y.1=some .free:=fun y G e=>by
  obtain ⟨j,hj,ej⟩:=getElem_of_mem (hfree0 y G e)
  obtain ⟨i,_,_,h3,h4⟩:=hfr.get (j:=j) (y:=y.1) (by rw [List.getElem?_eq_getElem hj,ej])
  exact ⟨h4,h3⟩
 obtain ⟨t,ecl,M,hcl2⟩:=yeF (env:=X.env) scope.names [] fun n hn=>I.ok.has n (.inl (S _ hn rfl).1)
 have hclos:closureFor scope X.env=pure t:=by
  unfold closureFor
  have:(forIn scope.names ([]:List (Str×Addr)) (fun (x:Str×NameKind) (r:List (Str×Addr))=>if (x.2 == NameKind.free)=true then do let c <- cellOf X.env x.1;pure (ForInStep.yield ((x.1,c)::r)) else pure (ForInStep.yield r)):Sem (List (Str×Addr)))=pure t:=ecl
  first
   | exact (by simpa using congrArg (· >>= fun r=>pure r) this)
   | (rw [show (pure t:Sem (List (Str×Addr)))=(pure t >>= fun r=>pure r) from rfl,<- this];rfl)
 have A:∀ y c,t.lookup y=some c->X.env.cells.lookup y=some c/\(y,NameKind.free)∈scope.names:=fun y c e=>by
  by_cases G:(y,NameKind.free)∈scope.names
  .exact ⟨by rw [<- M y G];exact e,G⟩
  .rw [hcl2 y G] at e;simp at e
 refine wpAny_comprehension_free rfl hs hclos F hnames ?_
 refine thn (hi g s σ H _ I h) fun v s1 h1=>thn h1 fun itv s2 h2=>?_
 obtain ⟨it,fp,tn,J,H2,e,I2,T,st2,f2,q2⟩:=h2
 subst e
 refine wpAny_newObj_type ?_
 generalize hs3:({ s2 with heap:=s2.heap.push { cls:=.type "list",dict:=none,data:=.seq ([]:List Value).toArray } }:Shared)=s3
 generalize hD:s2.heap.objs.size=D
 have hDn:H2 D=none:=by rw [<- hD];exact I2.hok.fresh (Nat.le_refl _)
 have w:Inv X g σ (upd H2 D (.lst [])) s3:=by
  rw [<- hs3,<- hD]
  exact I2.lnew (t':=s2.toks) (ys:=[]) (its:=[]) .nil (zero_le _)
 have k3:∀ b o,s2.heap.get? b=some o->s3.heap.get? b=some o:=fun b o e=>by rw [<- hs3];exact Heap.get?_push_of_some _ e
 have st3:tn 0 s3.heap:=T.keep _ _ _ st2 fun b _ o e=>k3 b o e
 have fne:∀ b∈fp,b≠D:=fun b q=>by
  obtain ⟨o,e,_⟩:=T.obj _ _ st2 b q
  rw [<- hD]
  exact ne_of_lt (Heap.lt_size e)
 have Y:∀ b∈fp,ysY X g (upd H2 D (.lst [])) b:=fun b q=>⟨by rw [yI (fne b q)];exact (f2 b q).1,(f2 b q).2⟩
 have q3:=q2 D hDn
 generalize upd H2 D (.lst [])=E at w Y q3
 obtain ⟨W,⟨m0,w0⟩,turn⟩:=q3
 refine wpAny_newFunctionEnv Q (by intro y G;simp at G) (fun h4 hns hsb=>?_) F
 try dsimp only at hns hsb ⊢
 generalize hC:s3.heap.objs.size=C at hns hsb ⊢
 have k4:∀ b o,s3.heap.get? b=some o->h4.get? b=some o:=fun b o e=>(hsb.2 b (by rw [<- hC];exact ne_of_lt (Heap.lt_size e))).trans (Heap.get?_push_of_some _ e)
 have Cne:∀ b o,s3.heap.get? b=some o->b≠C:=fun b o e=>by rw [<- hC];exact ne_of_lt (Heap.lt_size e)
 have stk:=w.stkSub
 have pinF:∀ p∈X.pn++g,p.1∉frs X.stack:=fun p hp z=>by
  obtain ⟨_,_,n1,n2,_⟩:=w.pin p hp
  rcases mem_cons.mp (stk _ z) with z|z
  .exact n1 z
  .exact n2 z
 have okC:(cxC X scope t C (x::B) s3 E fp g).Ok:=by
  refine ⟨w.ok.mod,by show (relabel scope X.env).kind=_;exact F,w.ok.glob,w.ok.blt,le_of_eq hC,fun y z c h1 h2=>w.ok.inj y z c (A y c h1).1 (A z c h2).1,fun y G=>?_,fun y c hf _=>(by cases hf),w.ok.hd,w.ok.frames,.inl rfl,fun b q=>⟨?_,fun y c e z=>?_⟩,w.bs,?_,fun b o e q=>?_,fun b q z=>?_,w.stack,w.stkFree⟩
  .have G:((relabel scope X.env).names.lookup y=some .cell)\/((relabel scope X.env).names.lookup y=some .free):=G
   rw [show (relabel scope X.env).names.lookup y=_ from ydR y scope.names] at G
   cases e:scope.names.lookup y with
   | none=>rw [e] at G;simp at G
   | some k =>
    have hm:(y,k)∈scope.names:=PySem.mem_of_lookup e
    have hkf:k=.free:=by
     rw [e] at G
     cases k<;>simp at G ⊢
     exact absurd rfl (Q _ hm)
    subst hkf
    obtain ⟨c,hc'⟩:=w.ok.has y (.inl (S _ hm rfl).1)
    exact ⟨c,by show t.lookup y=_;rw [M y hm];exact hc'⟩
  .obtain ⟨o,e,_⟩:=T.obj _ _ st3 b q
   exact Cne b o e
  .exact (Y b q).2.2.2.2.1 y c (A y c e).1 z
  .exact Nat.le_trans w.ok.bsz w.sz
  .rcases (Y b q).2.2.2.1 with z|z
   .exact w.ok.noex b o e z
   .exact absurd (lt_of_lt_of_le (Heap.lt_size e) (Nat.le_trans w.ok.bsz z)) (lt_irrefl _)
  .rcases mem_cons.mp (stk _ z) with z|z
   .exact (Y b q).2.1 z
   .exact (Y b q).2.2.1 z
 have inn:∀ v,(inner ix σ v)=some v::ix.map fun i=>(σ[i]?).getD none:=fun _=>rfl
 have I4:Inv (cxC X scope t C (x::B) s3 E fp g) [] (none::ix.map fun i=>(σ[i]?).getD none) E { s3 with heap:=h4,toks:=s3.toks+([]:List (Str×Value)).length }:=by
  refine ⟨okC,rfl,w.bare,Un.kept k4,⟨_,hns,fun j y v e1 L e3=>?_⟩,fun y c e=>?_,w.hok.fresh (le_of_eq hC),fun y c e=>w.freeC y c (A y c e).1,fun p hp=>?_,w.hok.kept k4,?_⟩
  .match j,e1,L with
   | 0,e1,L=>simp at L
   | j+1,e1,L =>
    obtain ⟨i,hi1,hi2,hi3,hi4⟩:=hfr.get (j:=j) (y:=y) (by have e1':(x::B)[j+1]?=some y:=e1;simpa using e1')
    have e2':σ[i]?=some (some v):=by
     have L:(ix.map fun i=>(σ[i]?).getD none)[j]?=some (some v):=by simpa using L
     rw [getElem?_map,hi1] at L
     simp at L
     cases z:σ[i]? with
     | none=>rw [z] at L;simp at L
     | some o=>rw [z] at L;simp at L;rw [L]
    obtain ⟨m,_,hl⟩:=w.loc
    obtain ⟨u,r,l⟩:=hl i y v hi2 e2' (.inr (.inl hi4))
    refine ⟨u,r,?_⟩
    rcases l with ⟨k,_⟩|⟨k,c,ec,z⟩
    .rw [hi4] at k;cases k
    .have hm:(y,NameKind.free)∈scope.names:=PySem.mem_of_lookup hi3
     refine .inr ⟨.inl ?_,c,by show t.lookup y=_;rw [M y hm];exact ec,?_⟩
     .show (relabel scope X.env).names.lookup y=_
      rw [show (relabel scope X.env).names.lookup y=_ from ydR y scope.names,hi3]
      simp [hfn,hi4]
     .obtain ⟨o,ho,hd⟩:=z
      exact ⟨o,k4 _ _ ho,hd⟩
  .obtain ⟨v,o,ho,hd⟩:=w.cell y c (A y c e).1
   exact ⟨v,o,k4 _ _ ho,hd⟩
  .have hp:p∈X.pn++g:=by simpa [cxC] using hp
   obtain ⟨e,n,ne,nf,d⟩:=w.pin p hp
   exact ⟨k4 _ _ e,n,Cne _ _ e,pinF p hp,d⟩
  .show (none::ix.map fun i=>(σ[i]?).getD none).length=(x::B).length
   rw [length_cons,length_cons,length_map,hfr.len]
 have st4:tn 0 h4:=T.keep _ _ _ st3 fun b _ o e=>k4 b o e
 have f4:∀ b∈fp,b≠C/\b∉frs X.stack/\(∀ y c,t.lookup y=some c->c≠b)/\∀ p∈(X.pn++g)++([]:List (Addr×Obj)),p.1≠b:=fun b q=>by
  obtain ⟨o,e,_⟩:=T.obj _ _ st3 b q
  refine ⟨Cne b o e,fun z=>?_,fun y c e=>(Y b q).2.2.2.2.1 y c (A y c e).1,fun p hp=>(Y b q).2.2.2.2.2 p (by simpa using hp)⟩
  rcases mem_cons.mp (stk _ z) with z|z
  .exact (Y b q).2.1 z
  .exact (Y b q).2.2.1 z
 have P:∀ {Z:Hp},(∀ b∈fp,Z b=none)->∀ b∈fp,ysY (cxC X scope t C (x::B) s3 E fp g) [] Z b:=fun hn b q=>⟨hn b q,(f4 b q).1,(f4 b q).2.1,.inl q,(f4 b q).2.2.1,(f4 b q).2.2.2⟩
 have loop:∀ s5:Shared,s5={ s3 with heap:=h4,toks:=s3.toks+([]:List (Str×Value)).length } ->
   codeAny (model X.prog X.w) X.A (.compLoop (.ListComp elt [⟨.Name x px,iter,cs,0⟩] scope N) 0 (.ref it) (.ref D) (compEnvC scope t C X.env)) (compPost (model X.prog X.w) X.A X.xe use QQ (.ref D) C) s5:=by
  rintro s5 rfl
  refine codeAny_loop rfl (fun n s'=>∃ i o Z,Inv (cxC X scope t C (x::B) s3 E fp g) [] (o::ix.map fun i=>(σ[i]?).getD none) Z s'/\tn i s'.heap/\(∀ b∈fp,Z b=none)/\W i n Z) ?_ m0 ⟨0,none,E,I4,st4,fun b q=>(Y b q).1,w0⟩
  rintro n s6 ⟨i,o,H6,I6,st6,fr6,w6⟩
  show wpAny _ _ ((compTurn (.ListComp elt [⟨.Name x px,iter,cs,0⟩] scope N) 0 (.ref it) (.ref D) (compEnvC scope t C X.env)).onRaise (fun x=>do noteFrame x (compEnvC scope t C X.env);theTreesLotGoes x)) _ _ s6
  refine wpAny_noted ?_
  rw [compTurn_list]
  rcases turn i n H6 w6 with ⟨stop,qn⟩|⟨go,step⟩
  .refine wpAny_bind (wpAny_standAt (wpAny_bind (thn (T.done (cxC X scope t C (x::B) s3 E fp g) rfl rfl rfl hc i [] s6 _ H6 _ I6 (P fr6) st6 stop) fun r s7 ⟨hr,I7⟩=>?_)))
   subst hr
   exact wpAny_pure (fin0 w Y hC I7 qn)
  .refine wpAny_bind (wpAny_standAt (wpAny_bind (thn (T.item (cxC X scope t C (x::B) s3 E fp g) rfl rfl rfl hc i [] s6 _ H6 _ I6 (P fr6) st6 go) fun r s7 ⟨u,hr,h7⟩=>?_)))
   subst hr
   refine wpAny_bind (thn h7 fun _ s8 ⟨y,H8,I8,r8,y8,U,fr8⟩=>?_)
   have I8':=I8.pinned (P fr8) (T.obj _ _ U)
   have hx':Loc (cxC X scope t C (x::B) s3 E fp g).env.scope x:=.inl (lookup_relabel_local hx)
   refine wpAny_bind (wpAny_mono (ymy (X:=cxC X scope t C (x::B) s3 E fp g) (i:=0) (x:=x) (pos:=px) hnd rfl hx' (.inr (lookup_relabel_local hx)) _ s8 _ H8 y u (fun σ9 H9=>σ9=inner ix σ y/\H9=H8) I8' r8 ⟨rfl,rfl⟩) (fun _ s9 ⟨σ9,H9,I9,e9,e9'⟩=>?_) fun _ _ f=>f.elim)
   subst e9 e9'
   refine wpAny_bind (wpAny_mono (hq t C s3 E fp g _ s9 _ _ _ I9 (step y _ y8)) (fun kb s9b hkb=>?_) fun _ _ f=>f.elim)
   obtain ⟨H9b,I9b,q9b⟩:=hkb
   cases kb with
   | false =>
    rw [if_neg (by decide)] at q9b
    obtain ⟨m',hm',w10⟩:=q9b
    refine wpAny_pure ⟨rfl,m',hm',i+1,some y,_,I9b.unpinned,T.keep _ _ _ U fun b q o e=>(I9b.pin (b,o) (mem_append_right _ (mem_append_right _ (ycO q e)))).1,fun b q=>?_,w10⟩
    obtain ⟨o,e,d⟩:=T.obj _ _ U b q
    exact (I9b.pin (b,o) (mem_append_right _ (mem_append_right _ (ycO q e)))).2.1
   | true =>
   rw [if_pos rfl] at q9b
   refine wpAny_bind (wpAny_bind (wpAny_mono (he t C s3 E fp g _ s9b _ _ _ I9b q9b) (fun v s10 ⟨z,H10,I10,r10,acc,a10,l10,m',hm',w10⟩=>?_) fun _ _ f=>f.elim))
   refine wpAny_bind (wpAny_mono (ydX (X:=cxC X scope t C (x::B) s3 E fp g) _ s10 _ H10 (.ref D) [z] (.ref D) [v] (fun _ H11=>H11=upd H10 D (.lst (acc++[z]))) I10 rfl (.cons r10 .nil) ⟨D,acc,z,rfl,rfl,a10,l10,rfl⟩) (fun _ s11 ⟨_,H11,I11,_,e11⟩=>?_) fun _ _ f=>f.elim)
   subst e11
   refine wpAny_pure (wpAny_pure ⟨rfl,m',hm',i+1,some y,_,I11.unpinned,T.keep _ _ _ U fun b q o e=>(I11.pin (b,o) (mem_append_right _ (mem_append_right _ (ycO q e)))).1,fun b q=>?_,w10⟩)
   obtain ⟨o,e,d⟩:=T.obj _ _ U b q
   exact (I11.pin (b,o) (mem_append_right _ (mem_append_right _ (ycO q e)))).2.1
 exact codeAny_compStart_list (loop _ rfl) (T.self X.A 0 _ _ _ st4 (loop _ rfl))
theorem ykb {X:Cx}{elt iter:Expr}{cs:List Expr}{tc:TT}{x:Str}{G:Pos}{scope:Scope}{w:Pos}{J:TI}{te:TE} ix t (L:X.calm=true) (hi:PI X (.Name x G) iter J) (F:FrOk X scope ix t)
  (M:∀ z C f g fp d,PE (cxC X scope z C (x::t) f g fp d) elt te)
  (W:∀ z C f g fp d,PTs (cxC X scope z C (x::t) f g fp d) cs tc)
  (E:(x::t).Nodup) (l:scope.kind=.function) (p:∀ y∈scope.names,y.2≠.cell)
  (j:∀ y∈scope.names,y.2=.local->scope.names.lookup y.1=some .local) (i:∀ y∈scope.names,y.2=.free->y.1∈t) (O:scope.names.lookup x=some .local)
  (hs:∀ v,foldedSetIterable iter X.env v=pure v):PE X (.ListComp elt [⟨.Name x G,iter,cs,0⟩] scope w) (yjd J ix tc te):=by
 intro d s σ H Q I h
 refine ylH ix t L hi F M W E l p j i O hs I h fun {z C s3 H3 fp} T A Y {D Z B s'} u P=>?_
 have k:∀ b o,s3.heap.get? b=some o->b≠C:=fun b o e=>by rw [<- Y];exact ne_of_lt (Heap.lt_size e)
 obtain ⟨m,hn,_⟩:=u.loc
 refine ⟨m,hn,fun h' R=>⟨.ref D,B,?_,rfl,P⟩⟩
 have S:B C=none:=u.free
 have same:=fun b r=>R.2 b r
 have U:=u.base
 have N:Un (frs X.stack) fp H3 B s3.heap h':=by
  refine ⟨fun b o e n h1 h2=>?_,fun b o e n h1 h2=>?_,U.free,fun b o e h2=>?_,U.tups,U.frzs,U.tbls⟩
  .rw [same b (k b o e)];exact U.keep b o e n h1 h2
  .rw [same b (k b o e)];exact U.slot b o e n h1 h2
  .rw [same b (k b o e)];exact U.there b o e h2
 refine T.call' (by exact u.os) N ?_ u.bare fun b r=>⟨(A b r).2.2.2.1,(A b r).2.1,(A b r).2.2.2.2.1,(A b r).2.2.2.2.2⟩
 intro b ob e
 refine (u.hok b ob e).stay (fun c w' L q=>?_) (fun _ q=>q) fun _ _ q=>q
 grind
theorem ykc {y:Str}{W n:Pos}{iy:Nat}{X:Cx}{elt iter:Expr}{cs:List Expr}{tc:TT}{x:Str}{M:Pos}{scope:Scope}{l:Pos}{Y:TI}{te:TE} ix t (hc:X.calm=true) (hi:PI X (.Name x M) iter Y) (N:FrOk X scope ix t)
  (he:∀ A C g d fp c,PE (cxC X scope A C (x::t) g d fp c) elt te)
  (E:∀ A C g d fp c,PTs (cxC X scope A C (x::t) g d fp c) cs tc)
  (F:(x::t).Nodup) (q:scope.kind=.function) (p:∀ y∈scope.names,y.2≠.cell)
  (k:∀ y∈scope.names,y.2=.local->scope.names.lookup y.1=some .local) (j:∀ y∈scope.names,y.2=.free->y.1∈t) (hx:scope.names.lookup x=some .local)
  (hs:∀ v,foldedSetIterable iter X.env v=pure v)
  (hN:X.N.Nodup) (O:X.N[iy]?=some y) (B:Loc X.env.scope y) (L:X.fn y=true\/X.env.scope.names.lookup y=some .local) (P:swapsWith (.ListComp elt [⟨.Name x M,iter,cs,0⟩] scope l) (some (.Name y W)) n.line X.env=pure true) :
  PS X (.Assign [.Name y W] (.ListComp elt [⟨.Name x M,iter,cs,0⟩] scope l) n) (yvD (yjd Y ix tc te) (ypH iy)):=by
 intro c s σ H D0 I h
 rw [exec_Assign_Name_used _ _ _ _ P]
 refine wpAny_bind (wpAny_standAt (wpAny_bind ?_))
 refine wpAny_bind (wpAny_mono (ylH ix t hc hi N he E F q p k j hx hs I h fun {A C s3 H3 fp} T w hC {D σ' R s'} r q'=>?_) (fun _ s' E=>wpAny_pure (wpAny_pure E)) fun _ _ e=>e)
 obtain ⟨m,hn,_⟩:=r.loc
 have S:R C=none:=r.free
 have U:=r.base
 have U':Un (frs X.stack) fp H3 R s3.heap s'.heap:=⟨U.keep,U.slot,U.free,U.there,U.tups,U.frzs,U.tbls⟩
 have IX:=T.call' (by exact r.os) U' r.hok r.bare fun b hb=>⟨(w b hb).2.2.2.1,(w b hb).2.1,(w b hb).2.2.2.2.1,(w b hb).2.2.2.2.2⟩
 have hCf:=T.fpOk (le_of_eq hC) S
 obtain ⟨o,es,ep,eo,r1,r2,r3⟩:=hn
 have IP:=IX.pinned (fp:=[C]) (fun b hb=>by have e:=(by simpa using hb);subst e;exact hCf) (fun b hb=>by have e:=(by simpa using hb);subst e;exact ⟨o,eo,fun v z=>by simp_all⟩)
 refine thn (ymy hN O B L _ s' σ R (.ref D) _ D0.nx IP rfl q') fun _ s2 ⟨Q,J,u,G⟩=>?_
 have Z:=u.pin (C,o) (mem_append_right _ (mem_append_right _ (ycO (by simp) eo)))
 exact ⟨m,⟨o,es,ep,Z.1,r1,r2,r3⟩,fun h' sb=>⟨Q,J,u.unpinned.turned (fun b ob hb e=>(sb.2 b hb).trans e) Z.2.1 hCf.2.1 hCf.2.2.2.1 hCf.2.2.2.2.1 hCf.2.2.2.2.2,G⟩⟩
end L2
namespace PX
open PySem L2 PySem.Spec PyProof.Rows
section
variable (K:Ck)
def cE (x:XE):TE:=fun σ H Q=>∃ (W0 W:Wd) (ρ:PSt) (y:PV) (h':AH),W.H=H/\Good K W0 W ρ σ/\x ρ W.h=some (y,h')/\∀ v W',W'.h=h'->Le K W W'->ycC K W' y v->Q v W'.H
def cO (x:XO):TE:=fun σ H Q=>∃ (W0 W:Wd) (ρ:PSt) (d:Nd) (h':AH),W.H=H/\Good K W0 W ρ σ/\x ρ W.h=some (d,h')/\∀ p W',W'.h=h'->Le K W W'->p∉W'.m->W.H p=none->d≠.dead->NdAt K W'.F W'.H W'.m d p->Q (.ref p) W'.H
def cT (x:XT):TT:=fun σ H Q=>∃ (W0 W:Wd) (ρ:PSt) (y:Bool) (h':AH),W.H=H/\Good K W0 W ρ σ/\x ρ W.h=some (y,h')/\∀ W',W'.h=h'->Le K W W'->Q y W'.H
def cA (x:XA):TA:=fun σ H Q=>∃ (W0 W:Wd) (ρ:PSt) (y:List PV) (h':AH),W.H=H/\Good K W0 W ρ σ/\x ρ W.h=some (y,h')/\∀ v W',W'.h=h'->Le K W W'->ycy K W' y v->Q v W'.H
def cP (x:PSt->AH->Option (Option Int×AH)):TO:=fun σ H Q=>∃ (W0 W:Wd) (ρ:PSt) (y:Option Int) (h':AH),W.H=H/\Good K W0 W ρ σ/\x ρ W.h=some (y,h')/\∀ W',W'.h=h'->Le K W W'->Q y W'.H
def cI (x:XA):TI:=fun σ H R=>∃ (W0 W:Wd) (ρ:PSt) (y:List PV) (h':AH),W.H=H/\Good K W0 W ρ σ/\x ρ W.h=some (y,h')/\∀ J W',W'.h=h'->Le K W W'->yCE K W' J y->R J W'.H
def cG (y:XG):TG:=fun v σ H Q=>∃ (W0 W:Wd) (ρ ρ':PSt) (x:PV),W.H=H/\Good K W0 W ρ σ/\ycC K W x v/\y x ρ=some ρ'/\∀ σ',Good K W0 W ρ' σ'->Q σ' W.H
def cGs (y:XGs):TGs:=fun v σ H Q=>∃ (W0 W:Wd) (ρ ρ':PSt) (x:List PV),W.H=H/\Good K W0 W ρ σ/\ycy K W x v/\y x ρ=some ρ'/\∀ σ',Good K W0 W ρ' σ'->Q σ' W.H
def cS (s:XS):TS:=fun D σ H=>∃ (W0 W:Wd) (ρ:PSt) (o:Out) (h':AH),W.H=H/\Good K W0 W ρ σ/\s ρ W.h=some (o,h')/\Ends.Ok K W0 W D h' o
def cF (s:XS):TS:=fun D σ H=>∃ (W0 W:Wd) (ρ ρ':PSt) (h':AH),W.H=H/\Good K W0 W ρ σ/\s ρ W.h=some (.nx ρ',h')/\∀ W',W'.h=h'->Lf K W W'->Good K W0 W' ρ' σ->D.nx σ W'.H
end
section
variable {K:Ck}
theorem sE {x:XE}:ybM K (cE K x) x:=fun b W ρ σ Q y h' g e q=>⟨b,W,ρ,y,h',rfl,g,e,q⟩
theorem sO {x:XO}:ymq K (cO K x) x:=fun b W ρ σ Q y h' g e q=>⟨b,W,ρ,y,h',rfl,g,e,q⟩
theorem sT {x:XT}:ymo K (cT K x) x:=fun b W ρ σ Q y h' g e q=>⟨b,W,ρ,y,h',rfl,g,e,q⟩
theorem sA {x:XA}:ymp K (cA K x) x:=fun b W ρ σ Q y h' g e q=>⟨b,W,ρ,y,h',rfl,g,e,q⟩
theorem sP {x}:yzt K (cP K x) x:=fun b W ρ σ Q y h' g e q=>⟨b,W,ρ,y,h',rfl,g,e,q⟩
theorem sI {x:XA}:yxD K (cI K x) x:=fun b W ρ σ Q y h' g e q=>⟨b,W,ρ,y,h',rfl,g,e,q⟩
theorem sG {y:XG}:ypx K (cG K y) y:=fun b W ρ ρ' σ x v Q g r e q=>⟨b,W,ρ,ρ',x,rfl,g,r,e,q⟩
theorem sGs {y:XGs}:yoT K (cGs K y) y:=fun b W ρ ρ' σ x v Q g r e q=>⟨b,W,ρ,ρ',x,rfl,g,r,e,q⟩
theorem sS {s:XS}:yeG K (cS K s) s:=fun b W ρ σ D o h' g e q=>⟨b,W,ρ,o,h',rfl,g,e,q⟩
theorem sF {s:XS}:ysP K (cF K s) s:=fun b W ρ ρ' σ D h' g e q=>⟨b,W,ρ,ρ',h',rfl,g,e,q⟩
end
noncomputable abbrev ckX (X:Cx) (A:Nat->Addr):Ck:=⟨X.K,A⟩
structure ZE (X:Cx) (A:Nat->Addr) (e:Expr) (x:XE):Prop where of:PE X e (cE (ckX X A) x)
structure ZO (X:Cx) (A:Nat->Addr) (e:Expr) (x:XO):Prop where of:PE X e (cO (ckX X A) x)
structure ZT (X:Cx) (A:Nat->Addr) (e:Expr) (x:XT):Prop where of:PT X e (cT (ckX X A) x)
structure ZW (X:Cx) (A:Nat->Addr) (e:Expr) (x:XT):Prop where of:PW X e (cT (ckX X A) x)
structure ZA (X:Cx) (A:Nat->Addr) (e:List Expr) (n:Nat) (x:XA):Prop where
 of:PA X e (cA (ckX X A) x)
 len:∀ ρ h xs h',x ρ h=some (xs,h')->xs.length=n
structure ZP (X:Cx) (A:Nat->Addr) (e:Option Expr) (x:PSt->AH->Option (Option Int×AH)):Prop where of:PO X e (cP (ckX X A) x)
structure ZI (X:Cx) (A:Nat->Addr) (tg e:Expr) (x:XA):Prop where of:PI X tg e (cI (ckX X A) x)
structure ZG (X:Cx) (A:Nat->Addr) (e:Expr) (y:XG):Prop where of:PG X e (cG (ckX X A) y)
structure ZGs (X:Cx) (A:Nat->Addr) (e:List Expr) (y:XGs):Prop where of:PGs X e (cGs (ckX X A) y)
structure ZS (X:Cx) (A:Nat->Addr) (e:Stmt) (s:XS):Prop where of:PS X e (cS (ckX X A) s)
structure ZSs (X:Cx) (A:Nat->Addr) (e:List Stmt) (s:XS):Prop where of:PSs X e (cS (ckX X A) s)
structure ZF (X:Cx) (A:Nat->Addr) (e:Stmt) (s:XS):Prop where of:PS X e (cF (ckX X A) s)
structure ZFs (X:Cx) (A:Nat->Addr) (e:List Stmt) (s:XS):Prop where of:PSs X e (cF (ckX X A) s)
section
variable {X:Cx}{A:Nat->Addr}{e:Expr}{es:List Expr}
theorem wE {t:TE}{x:XE}(p:PE X e t) (s:ybM (ckX X A) t x):ZE X A e x:=⟨fun b st σ H Q I ⟨d,W,ρ,y,h',f,g,c,q⟩=>by subst f;exact p b st σ _ Q I (s d W ρ σ Q y h' g c q)⟩
theorem wO {t:TE}{x:XO}(p:PE X e t) (s:ymq (ckX X A) t x):ZO X A e x:=⟨fun b st σ H Q I ⟨d,W,ρ,y,h',f,g,c,q⟩=>by subst f;exact p b st σ _ Q I (s d W ρ σ Q y h' g c q)⟩
theorem wT {t:TT}{x:XT}(p:PT X e t) (s:ymo (ckX X A) t x):ZT X A e x:=⟨fun b st σ H Q I ⟨d,W,ρ,y,h',f,g,c,q⟩=>by subst f;exact p b st σ _ Q I (s d W ρ σ Q y h' g c q)⟩
theorem wW {t:TT}{x:XT}(p:PW X e t) (s:ymo (ckX X A) t x):ZW X A e x:=⟨fun wh b st σ H Q I ⟨d,W,ρ,y,h',f,g,c,q⟩=>by subst f;exact p wh b st σ _ Q I (s d W ρ σ Q y h' g c q)⟩
theorem wA {t:TA}{x:XA}{n:Nat}(p:PA X es t) (s:ymp (ckX X A) t x) (l:∀ ρ h xs h',x ρ h=some (xs,h')->xs.length=n):ZA X A es n x:=⟨fun pos b st σ H Q I ⟨d,W,ρ,y,h',f,g,c,q⟩=>by subst f;exact p pos b st σ _ Q I (s d W ρ σ Q y h' g c q),l⟩
theorem wP {o:Option Expr}{t:TO}{x} (p:PO X o t) (s:yzt (ckX X A) t x):ZP X A o x:=⟨fun b st σ H Q I ⟨d,W,ρ,y,h',f,g,c,q⟩=>by subst f;exact p b st σ _ Q I (s d W ρ σ Q y h' g c q)⟩
theorem wI {c:Expr}{t:TI}{x:XA}(p:PI X c e t) (s:yxD (ckX X A) t x):ZI X A c e x:=⟨fun b st σ H Q I ⟨f,W,ρ,y,h',h,g,d,q⟩=>by subst h;exact p b st σ _ Q I (s f W ρ σ Q y h' g d q)⟩
theorem wG {t:TG}{y:XG}(p:PG X e t) (s:ypx (ckX X A) t y):ZG X A e y:=⟨fun b st σ H v u Q I h ⟨d,W,ρ,ρ',x,f,g,r,c,q⟩=>by subst f;exact p b st σ _ v u Q I h (s d W ρ ρ' σ x v Q g r c q)⟩
theorem wGs {t:TGs}{y:XGs}(p:PGs X es t) (s:yoT (ckX X A) t y):ZGs X A es y:=⟨fun b st σ H v u Q I h ⟨d,W,ρ,ρ',x,f,g,r,c,q⟩=>by subst f;exact p b st σ _ v u Q I h (s d W ρ ρ' σ x v Q g r c q)⟩
theorem wS {st:Stmt}{t:TS}{x:XS}(p:PS X st t) (s:yeG (ckX X A) t x):ZS X A st x:=⟨fun b st σ H D I ⟨d,W,ρ,o,h',f,g,c,q⟩=>by subst f;exact p b st σ _ D I (s d W ρ σ D o h' g c q)⟩
theorem wSs {st:List Stmt}{t:TS}{x:XS}(p:PSs X st t) (s:yeG (ckX X A) t x):ZSs X A st x:=⟨fun b st σ H D I ⟨d,W,ρ,o,h',f,g,c,q⟩=>by subst f;exact p b st σ _ D I (s d W ρ σ D o h' g c q)⟩
theorem wF {st:Stmt}{t:TS}{x:XS}(p:PS X st t) (s:ysP (ckX X A) t x):ZF X A st x:=⟨fun b st σ H D I ⟨d,W,ρ,ρ',h',f,g,c,q⟩=>by subst f;exact p b st σ _ D I (s d W ρ ρ' σ D h' g c q)⟩
theorem wFs {st:List Stmt}{t:TS}{x:XS}(p:PSs X st t) (s:ysP (ckX X A) t x):ZFs X A st x:=⟨fun b st σ H D I ⟨d,W,ρ,ρ',h',f,g,c,q⟩=>by subst f;exact p b st σ _ D I (s d W ρ ρ' σ D h' g c q)⟩
end
structure Nm (x:Str):Prop where
 d:(x == ("__debug__":Str))=false
 c:(x == ("__classdict__":Str))=false
 n:x≠"__name__"
section
variable {X:Cx}{A:Nat->Addr}{a b c o:Expr}{es:List Expr}{xa xb xc:XE}{xo:XO}{aa:XA}{pos p apos:Pos}{x:Str}{n k:Nat}
theorem yiA {j}:ZE X A (.Constant .none j pos) (xC .non):=wE yzK yxl
theorem ymt {b j}:ZE X A (.Constant (.bool b) j pos) (xC (.bl b)):=wE yCS yAo
theorem yk {i j}:ZE X A (.Constant (.int i) j pos) (xC (.int i)):=wE yzJ yqm
theorem yz {x j}:ZE X A (.Constant (.str x) j pos) (xC (.str x)):=wE yzL yqn
theorem z_v {i:Nat}(m:Nm x:=by exact ⟨by rfl',by rfl',by rfl'⟩) (e:X.N[i]?=some x:=by rfl) (d:Vis X.env.scope x:=by first|exact Or.inl rfl|exact Or.inr (Or.inl rfl)):ZE X A (.Name x pos) (yd i):=wE (yiM e d m.d m.c) (yxk i)
theorem yfq {n:Int}{t:Tok}(f:X.mg x=some (.int n t)) (m:Nm x:=by exact ⟨by rfl',by rfl',by rfl'⟩) (e:Gl X x:=by rfl):ZE X A (.Name x pos) (xC (.int n)):=wE (yxh e f m.d) yqm
theorem ylI {n:Str}{t:Tok}(f:X.mg x=some (.str n t)) (m:Nm x:=by exact ⟨by rfl',by rfl',by rfl'⟩) (e:Gl X x:=by rfl):ZE X A (.Name x pos) (xC (.str n)):=wE (yxi e f m.d) yqn
theorem yex {k:Nat}(f:X.mg x=some (.ref (A k))) (m:Nm x:=by exact ⟨by rfl',by rfl',by rfl'⟩) (e:Gl X x:=by rfl):ZE X A (.Name x pos) (xC (.cls k)):=wE (ymJ e f m.d) (yxm)
theorem yrl {n:String}(g:X.mg x=none) (m:Nm x:=by exact ⟨by rfl',by rfl',by rfl'⟩) (e:Gl X x:=by rfl) (f:bootBuiltins x=some (.type n):=by rfl'):ZE X A (.Name x pos) (xC (.ty n)):=wE (yAn e g f m.n m.d) yAp
theorem ybV (h:ZO X A a xo):ZE X A a (xFz xo):=wE h.of (yvT sO)
theorem yeb (h:ZO X A a xo):ZE X A a (ygI xo):=wE h.of (ymU sO)
theorem ybF {op:Operator}{r:R2}{q:P2}(g:OpR X (binaryOp op) r) (h:yci (ckX X A) r q) (e:ZE X A a xa) (f:ZE X A b xb):ZE X A (.BinOp a op b pos) (xOp q xa xb):=wE (yAd g e.of f.of) (ynP h sE sE)
theorem ylJ {op:Operator}{r:R2}{q:P2O}(g:OpR X (binaryOp op) r) (h:ynO (ckX X A) r q) (e:ZE X A a xa) (f:ZE X A b xb):ZO X A (.BinOp a op b pos) (yqi q xa xb):=wO (yAd g e.of f.of) (yxn h sE sE)
theorem yuz {op:UnaryOp}{r} {q} (e:UnR X (unaryOp op) r) (g:yxj (ckX X A) r q) (f:ZE X A a xa):ZE X A (.UnaryOp op a pos) (xUn q xa):=wE (yCZ e f.of) (yAq g sE)
theorem yBg (e:ZE X A a xa):ZE X A (.UnaryOp .Not a pos) (ytu xa):=wE (yzW e.of) (ytw sE)
theorem yem {op:CmpOp}{r:R2}{q:P2}(h:OpR X (compareOp op) r) (i:yci (ckX X A) r q) (e:ZE X A a xa) (g:ZE X A b xb) (f:behindInMarks op b=false:=by first|exact yiN _|with_unfolding_all rfl):ZE X A (.Compare a [op] [b] pos) (xOp q xa xb):=wE (ywS h e.of g.of f) (ynP i sE sE)
theorem yrm {op e:CmpOp}{r i:R2}{q h:P2}(s:OpR X (compareOp op) r) (f:OpR X (compareOp e) i) (u:yci (ckX X A) r q) (g:yci (ckX X A) i h) (m:ZE X A a xa) (l:ZE X A b xb) (t:ZE X A c xc) (j:lastMarks [op,e] [b,c]=false:=by first|exact yiN _|with_unfolding_all rfl):ZE X A (.Compare a [op,e] [b,c] pos) (yfn q h xa xb xc):=wE (ytc s f m.of l.of t.of j) (ylr u g sE sE sE)
theorem yhO {op} (h:ZE X A a xa):ZE X A (.BoolOp op [a] pos) xa:=⟨yzU h.of⟩
theorem ygZ (f:ZE X A a xa) (e:ZE X A (.BoolOp .And (b::es) pos) xb):ZE X A (.BoolOp .And (a::b::es) pos) (yfh xa xb):=wE (yzV f.of e.of) (ytv sE sE)
section
variable {ca cb:XT}
theorem yrn (g:ZT X A c ca) (f:ZE X A a xa) (e:ZE X A b xb):ZE X A (.IfExp c a b pos) (xIf ca xa xb):=wE (ysU g.of f.of e.of) (yAt sT sE sE)
theorem yy {op:CmpOp}{r:R2}{q:P2}(h:OpR X (compareOp op) r) (i:yci (ckX X A) r q) (e:ZE X A a xa) (g:ZE X A b xb) (f:behindInMarks op b=false:=by first|exact yiN _|with_unfolding_all rfl):ZT X A (.Compare a [op] [b] pos) (yr (xOp q xa xb)):=wT (ywU h e.of g.of f) (yhn (ynP i sE sE))
theorem yho {op e:CmpOp}{r i:R2}{q h:P2}(s:OpR X (compareOp op) r) (f:OpR X (compareOp e) i) (u:yci (ckX X A) r q) (g:yci (ckX X A) i h) (m:ZE X A a xa) (l:ZE X A b xb) (t:ZE X A c xc) (j:lastMarks [op,e] [b,c]=false:=by first|exact yiN _|with_unfolding_all rfl):ZT X A (.Compare a [op,e] [b,c] pos) (yr (yfn q h xa xb xc)):=wT (ytd s f m.of l.of t.of j) (yhn (ylr u g sE sE sE))
theorem ydu (e:ZT X A a ca):ZT X A (.UnaryOp .Not a pos) (yjG ca):=wT (yzR e.of) (yxp sT)
theorem ybG (h:ZE X A a xa) (f:∀ e,isTrue a X.env e=(do let v <- e;standAt a.pos;holding [v] (truthy v)):=by exact fun _=>rfl):ZT X A a (yr xa):=wT (yzO h.of f) (yAr sE)
theorem ylK (h:ZW X A a ca):ZT X A a ca:=⟨PW.pt h.of⟩
theorem yjf (f:ZT X A a ca) (e:ZW X A (.BoolOp .And (b::es) pos) cb):ZW X A (.BoolOp .And (a::b::es) pos) (yqj ca cb):=wW (yzQ f.of e.of) (yxo sT sT)
theorem yfE (f:ZT X A a ca) (e:ZW X A (.BoolOp .Or (b::es) pos) cb):ZW X A (.BoolOp .Or (a::b::es) pos) (xOr ca cb):=wW (yCU f.of e.of) (yAs sT sT)
theorem ygB (e:ZT X A a ca):ZW X A (.BoolOp .And [a] pos) ca:=⟨ywO e.of⟩
theorem yeK (e:ZT X A a ca):ZW X A (.BoolOp .Or [a] pos) ca:=⟨yzP e.of⟩
end
theorem ye:ZA X A [] 0 yh:=wA yiP yjI ymV
theorem ya (f:ZE X A a xa) (e:ZA X A es n aa) (hs:starEach (a::es) X.env=(false,eval a X.env)::starEach es X.env:=by rfl):ZA X A (a::es) (n+1) (yc xa aa):=wA (yfx f.of e.of hs) (ytx sE sA) (ytA e.len)
theorem ycb (h:ZA X A es n aa):ZO X A (.List es pos) (ydY aa):=wO (yAg h.of) (yxs sA)
theorem ycL {q} (h:ZA X A es n aa):ZE X A (.Tuple es q pos) (yfz aa):=wE (yAf h.of) (yxr sA)
theorem yyh:ZP X A none ydT:=wP yxb yoS
theorem yhP (h:ZE X A a xa):ZP X A (some a) (ygU xa):=wP (yxc h.of) (ytB sE)
section
variable {lo hi:Option Expr}{xl xh:PSt->AH->Option (Option Int×AH)}{p2:Pos}
theorem yuA {r} {q} (g:SlR X r) (d:yqq (ckX X A) r q) (e:ZE X A a xa) (hl:ZP X A lo xl) (f:ZP X A hi xh):ZO X A (.Subscript a (.Slice lo hi none p2) pos) (yqk q xa xl xh):=wO (ytl g e.of hl.of f.of) (yxv d sE sP sP)
end
theorem ybe {r:R2}{q:P2}(g:IxR X r) (h:yci (ckX X A) r q) (e:ZE X A a xa) (f:ZE X A b xb) (hs:ypZ b:=by exact fun _ _=>rfl):ZE X A (.Subscript a b pos) (xOp q xa xb):=wE (yDe g e.of f.of hs) (ynP h sE sE)
theorem yA {cs:List Nat}{f:Str}(h:∀ k∈cs,Cls X.K (A k)/\NoAttr X.K (A k) f) (e:ZE X A a xa) (g:attributeBase a f X.env (eval a X.env)=eval a X.env:=by rfl):ZE X A (.Attribute a f pos) (ybb cs f xa):=wE (yAe e.of g) (yxK h sE)
section
variable {f C:Addr}{fd:FuncData}{ps:List Str}{lv:Nat}{fn:Fn}
theorem yR (F:FnOk X.prog X.w X.K X.mg X.base CX0 lv f fd ps (spE (ckX X A) (n+1) fn)) (j:X.mg x=some (.ref f)) (i:keepIn X.K (.ref f)=true) (l:Binds X.K fd ps []) (e:ZA X A (a::es) (n+1) aa) (hr:Room lv X.A:=by exact hr.mono (by omega)) (m:Nm x:=by exact ⟨by rfl',by rfl',by rfl'⟩) (g:Gl X x:=by rfl) (h:starEach (a::es) X.env=(false,eval a X.env)::starEach es X.env:=by rfl) (d:(backTo pos (starEach es X.env)).any (·.1)=false:=by rfl):ZE X A (.Call (.Name x p) (a::es) [] pos) (yW fn aa) :=
 wE (ywZ F hr g j i l .nil ykW e.of m.d h d) (ytz sA e.len)
theorem yfr {k:Nat}{g} (M:Mk X.K (A k) f) (F:FnOk X.prog X.w X.K X.mg X.base CX0 lv f fd ps (spI (ckX X A) (n+1) k g)) (h:X.mg x=some (.ref (A k))) (j:Binds X.K fd ps []) (e:ZA X A (a::es) (n+1) aa) (hr:Room (lv+1) X.A:=by exact hr.mono (by omega)) (m:Nm x:=by exact ⟨by rfl',by rfl',by rfl'⟩) (l:Gl X x:=by rfl) (i:starEach (a::es) X.env=(false,eval a X.env)::starEach es X.env:=by rfl) (d:(backTo pos (starEach es X.env)).any (·.1)=false:=by rfl):ZO X A (.Call (.Name x p) (a::es) [] pos) (yfB g aa) :=
 wO (ypV M F hr l h j .nil ykW e.of m.d i d) (ynT sA e.len)
theorem yyi {k:Nat}(j:makesIn X.K (A k)=true) (i:findIn X.K (.ref (A k)) "__init__" = some (some (.builtin "object.__init__"))) (g:keepIn X.K (.ref (A k))=true) (e:X.mg x=some (.ref (A k))) (m:Nm x:=by exact ⟨by rfl',by rfl',by rfl'⟩) (h:Gl X x:=by rfl):ZO X A (.Call (.Name x p) [] [] pos) (yqF k) :=
 wO (ytq j i g h e m.d) (yqG)
theorem yro {m:Str}{d:Nat->Fn}{pl:Sem Bool}(h:ZE X A o xa) (G:ymI X.prog X.w X.K X.mg X.base lv A m fun k=>spE (ckX X A) 1 (d k)) (hr:Room lv X.A:=by exact hr.mono (by omega)) (g:eval (.Call (.Attribute o m apos) [] [] pos) X.env=(do
   let e <- eval o X.env
   standAt apos.atName
   let (f,first) <- holding [e] (getMethod e m pl)
   callWith pos f first (backTo pos (starEach [] X.env)) (backToKw pos (keywordEach [] X.env))):=by rfl):ZE X A (.Call (.Attribute o m apos) [] [] pos) (yoX m d xa) :=
 wE (yqh h.of G hr g) (ytV sE)
end
theorem ydd {id:String}{r} {q} (j:yfg X (.builtin id) r) (s:ygV (ckX X A) r q) (i:X.mg x=none) (h:ZA X A (a::es) n aa) (m:Nm x:=by exact ⟨by rfl',by rfl',by rfl'⟩) (l:Gl X x:=by rfl) (f:bootBuiltins x=some (.builtin id):=by rfl') (g:starEach (a::es) X.env=(false,eval a X.env)::starEach es X.env:=by rfl) (e:(backTo pos (starEach es X.env)).any (·.1)=false:=by rfl):ZE X A (.Call (.Name x p) (a::es) [] pos) (xCB q aa) :=
 wE (yjx j l i f h.of m.n m.d g e) (yvU s sA)
theorem ypd {T:String}{r} {q} (j:yfg X (.type T) r) (s:ygV (ckX X A) r q) (i:X.mg x=none) (h:ZA X A (a::es) n aa) (m:Nm x:=by exact ⟨by rfl',by rfl',by rfl'⟩) (l:Gl X x:=by rfl) (f:bootBuiltins x=some (.type T):=by rfl') (g:starEach (a::es) X.env=(false,eval a X.env)::starEach es X.env:=by rfl) (e:(backTo pos (starEach es X.env)).any (·.1)=false:=by rfl):ZE X A (.Call (.Name x p) (a::es) [] pos) (xCB q aa) :=
 wE (ykT j l i f h.of m.n m.d g e) (yvU s sA)
theorem ycN {T:String}{r} {q} (j:yfg X (.type T) r) (s:yql (ckX X A) r q) (i:X.mg x=none) (h:ZA X A (a::es) n aa) (m:Nm x:=by exact ⟨by rfl',by rfl',by rfl'⟩) (l:Gl X x:=by rfl) (f:bootBuiltins x=some (.type T):=by rfl') (g:starEach (a::es) X.env=(false,eval a X.env)::starEach es X.env:=by rfl) (e:(backTo pos (starEach es X.env)).any (·.1)=false:=by rfl):ZO X A (.Call (.Name x p) (a::es) [] pos) (yhm q aa) :=
 wO (ykT j l i f h.of m.n m.d g e) (yxt s sA)
section
variable {name:Str}{cpos:Pos}{T id:String}{r:V->List V->Hp->VK->Prop}{cc:PV->AH->Bool}{q:PM}
theorem ywm (l:PlainAttrs T) (h:Slot T name id) (j:typeOf (.builtin id)=pure (.type "method_descriptor")) (s:MtR X id r) (m:yix (ckX X A) T cc r q) (u:ZE X A o xa) (t:ZA X A (a::es) n aa) (g:attributeBase o name X.env (eval o X.env)=eval o X.env:=by rfl) (i:((backTo cpos (starEach (a::es) X.env)).all (fun x=>!x.1) && (backToKw cpos (keywordEach [] X.env)).all (fun x=>x.1.isSome)
   && decide ((a::es).length+([]:List Keyword).length+(if ([]:List Keyword).isEmpty then 0 else 1)<30))=true:=by rfl) (f:(apos.endLine == cpos.line)=true:=by rfl) (hs:starEach (a::es) X.env=(false,eval a X.env)::starEach es X.env:=by rfl) (e:(backTo cpos (starEach es X.env)).any (·.1)=false:=by rfl) :
  ZE X A (.Call (.Attribute o name apos) (a::es) [] cpos) (xBM cc q xa aa):=wE (yxd l h j s u.of t.of g i f hs e) (yvV m sE sA)
theorem yuB (l:PlainAttrs T) (g:Slot T name id) (h:typeOf (.builtin id)=pure (.type "method_descriptor")) (i:MtR X id r) (m:yix (ckX X A) T cc r q) (j:ZE X A o xa) (f:attributeBase o name X.env (eval o X.env)=eval o X.env:=by rfl) (e:(apos.endLine == cpos.line)=true:=by rfl) :
  ZE X A (.Call (.Attribute o name apos) [] [] cpos) (xBM cc q xa yh):=wE (yvP l g h i j.of f e) (yxu m sE)
theorem yhQ {i:Nat}(j:ZE X A a xa) (l:PE X o (ypw i):=by exact yiM rfl (by first|exact Or.inl rfl|exact Or.inr (Or.inl rfl)) (by rfl') (by rfl')) (e:attributeBase o "append" X.env (eval o X.env)=eval o X.env:=by rfl) (g:((backTo cpos (starEach [a] X.env)).all (fun x=>!x.1) && (backToKw cpos (keywordEach [] X.env)).all (fun x=>x.1.isSome)
   && decide ([a].length+([]:List Keyword).length+(if ([]:List Keyword).isEmpty then 0 else 1)<30))=true:=by rfl) (f:(apos.endLine == cpos.line)=true:=by rfl) (hs:starEach [a] X.env=(false,eval a X.env)::starEach [] X.env:=by rfl) (d:(backTo cpos (starEach [] X.env)).any (·.1)=false:=by rfl) (h:swapsWith (.Call (.Attribute o "append" apos) [a] [] cpos) none pos.line X.env=pure false:=by rfl) :
  ZS X A (.Expr (.Call (.Attribute o "append" apos) [a] [] cpos) pos) (yfW i xa) :=
 wS (yjs (yxd plainAttrs_list PySem.F.slot_list_append PySem.F.type_list_append ydX l (yfx j.of yiP hs) e g f hs d) h) (ytI i sE)
end
section
variable {tg:Expr}
theorem ycz (h:ZE X A a xa):ZI X A tg a (xIL xa):=wI (yjt h.of) (yqt sE)
theorem yBh (h:ZE X A a xa):ZI X A tg a (xIS xa):=wI (yAm h.of) (ytJ sE)
theorem yfF (g:X.mg "range" = none) (f:ZA X A [a] n aa) (e:Gl X "range":=by rfl) (hs:starEach [a] X.env=[(false,eval a X.env)]:=by rfl):ZI X A tg (.Call (.Name "range" p) [a] [] pos) (yiT aa):=wI (ypK e g f.of hs) (yqu sA)
end
theorem ycF {i:Nat}(f:X.N.Nodup:=by exact nd) (g:X.N[i]?=some x:=by rfl) (h:Loc X.env.scope x:=by first|exact Or.inl rfl|exact Or.inr rfl) (e:X.fn x=true\/X.env.scope.names.lookup x=some .local:=by exact Or.inl rfl):ZG X A (.Name x pos) (yp i):=wG (ymy f g h e) (yeH i)
theorem yyj:ZGs X A [] yzu:=wGs ywQ ytF
theorem yoj {y:XG}{ys:XGs}(h1:ZG X A a y) (h2:ZGs X A es ys) (hs:(assignEach (a::es) X.env).map (·.2)=assign a X.env::(assignEach es X.env).map (·.2):=by rfl):ZGs X A (a::es) (yjJ y ys):=wGs (ysW h1.of h2.of hs) (yqr sG sGs)
theorem yeL {elt iter:Expr}{w:Pos}{scope:Scope}{q:Pos}{u:XA}{xe:XE}{ix:List Nat} m (D:ZI X A (.Name x w) iter u) (z:∀ r C f g fp e,ZE (cxC X scope r C (x::m) f g fp e) A elt xe) (E:X.calm=true:=by rfl) (t:FrOk X scope ix m:=by repeat' first|exact True.intro|exact rfl|refine And.intro ?_ ?_) (s:(x::m).Nodup:=by rfl') (j:scope.kind=.function:=by rfl) (l:∀ y∈scope.names,y.2≠.cell:=by rfl') (h:∀ y∈scope.names,y.2=.local->scope.names.lookup y.1=some .local:=by rfl') (i:∀ y∈scope.names,y.2=.free->y.1∈m:=by rfl') (B:scope.names.lookup x=some .local:=by rfl) (hs:∀ v,foldedSetIterable iter X.env v=pure v:=by exact fun _=>rfl):ZO X A (.ListComp elt [⟨.Name x w,iter,[],0⟩] scope q) (yel u ix xe) :=
 wO (yyf (ykb ix m E D.of t (fun r C f g fp e=>(z r C f g fp e).of) (fun _ _ _ _ _ _=>.nil) s j l h i B hs)) (yjM ix sI sE)
section
variable {st:Stmt}{rest:List Stmt}{s u:XS}
theorem yi (h:ZE X A a xa):ZS X A (.Return (some a) pos) (yQ xa):=wS (yzY h.of) (yxy sE)
theorem yJ (h:ZE X A a xa) (hs:swapsWith a none pos.line X.env=pure false:=by rfl):ZS X A (.Expr a pos) (yZ xa):=wS (yjs h.of hs) (ytE sE)
theorem yw {i:Nat}{e:Pos}(h:ZE X A a xa) (f:X.N.Nodup:=by exact nd) (l:X.N[i]?=some x:=by rfl) (g:Loc X.env.scope x:=by first|exact Or.inl rfl|exact Or.inr rfl) (hs:swapsWith a (some (.Name x e)) pos.line X.env=pure false:=by rfl) (j:X.fn x=true\/X.env.scope.names.lookup x=some .local:=by exact Or.inl rfl):ZS X A (.Assign [.Name x e] a pos) (ybs xa (yp i)) :=
 wS (yvF f l g h.of hs j) (yhD sE (yeH i))
theorem yhR {i:Nat}{e:Pos}(h:ZO X A a xo) (f:X.N.Nodup:=by exact nd) (l:X.N[i]?=some x:=by rfl) (g:Loc X.env.scope x:=by first|exact Or.inl rfl|exact Or.inr rfl) (hs:swapsWith a (some (.Name x e)) pos.line X.env=pure false:=by rfl) (j:X.fn x=true\/X.env.scope.names.lookup x=some .local:=by exact Or.inl rfl):ZS X A (.Assign [.Name x e] a pos) (yls xo i) :=
 wS (yvF f l g h.of hs j) (ytG i sO)
theorem yBi {e:Expr}{y:XG}(h:ZE X A a xa) (g:ZG X A e y) (hs:swapsWithSole [e] a pos.line X.env=pure false:=by rfl) (f:swappedStores [e] a X.env=pure none:=by rfl) (h1:(assignEach [e] X.env).map (·.2)=[assign e X.env]:=by rfl):ZS X A (.Assign [e] a pos) (ybs xa y):=wS (yvE h.of g.of hs f h1) (yhD sE sG)
theorem ybn {cs:List Nat}{f:Str}{d:Pos}{i:Nat}(e:∀ k∈cs,Cls X.K (A k)/\NoAttr X.K (A k) f) (h:ZE X A a xa) (g:PE X o (ypw i):=by exact yiM rfl (by first|exact Or.inl rfl|exact Or.inr (Or.inl rfl)) (by rfl') (by rfl')) (hs:swapsWith a (some (.Attribute o f d)) pos.line X.env=pure false:=by rfl):ZF X A (.Assign [.Attribute o f d] a pos) (ycr cs i f xa):=wF (yvJ g h.of hs) (ytS e sE)
theorem yN {e:XT}{l m:List Stmt}(h:ZT X A c e) (f:ZSs X A l s) (g:ZSs X A m u):ZS X A (.If c l m pos) (ybD e s u):=wS (yCW h.of f.of g.of) (yxz sT sS sS)
theorem yga {e iter:Expr}{f:XA}{y:XG}(j:ZI X A e iter f) (g:ZG X A e y) (h:ZSs X A rest s) (hp:PassesOwn (model X.prog X.w) X.A X.env X.xe:=by exact PassesOwn.never) (i:X.calm=true:=by rfl) (hs:∀ x,foldedSetIterable iter X.env x=pure x:=by exact fun _=>rfl):ZS X A (.For e iter rest [] pos) (yiS f y s):=wS (ynG hp i j.of g.of h.of hs) (yxE sI sG sS)
theorem ykd {e:XT}{f:Nat}(h:ZT X A c e) (g:ZSs X A rest s) (hp:PassesOwn (model X.prog X.w) X.A X.env X.xe:=by exact PassesOwn.never):ZS X A (.While c rest [] pos) (yfo f e s):=wS (ysX hp h.of g.of) (yqv f sT sS)
theorem ym:ZSs X A [] yM:=wSs ywP ytD
theorem yf (h:ZS X A st s):ZSs X A [st] s:=⟨ypF h.of⟩
theorem yb (h:ZS X A st s) (e:ZSs X A rest u):ZSs X A (st::rest) (yl s u):=wSs (ynE h.of e.of) (yxx sS sS)
theorem yhS {i:Nat}(h:ZSs X A rest s):ZSs X A rest (yvW i s):=wSs h.of (yxA i sS)
theorem ydk (h:ZF X A st s):ZFs X A [st] s:=⟨ypF h.of⟩
theorem ybh (h:ZF X A st s) (e:ZFs X A rest u):ZFs X A (st::rest) (yl s u):=wFs (ynE h.of e.of) (ytT sF sF)
end
end
section
variable {P:Program}{w:World}{K:PySem.W.Frag}{mg:Str->Option Value}{base:Heap}{A:Nat->Addr}
theorem zfn {x b:Str}{st:Stmt}{f:Addr}{g:FuncData}{N ps:List Str}{k:Nat}{s:XS}(F:Fun K x b st f g) (S:yek N ps (ybA st))
  (h:∀ c d outer e H E,Room k (d.deeper (envOfC b (ybA st) e.heap.objs.size f c))->ZSs (ytk CX0 P w K mg base N b (ybA st) f c d outer e H E).nox A (yfy st) s) :
  FnOk P w K mg base CX0 (k+1) f g ps (spE ⟨K,A⟩ ps.length (ybk N.length s)) :=
 F.ok S (fun _ _ _ _ h=>yxF h) fun c d outer e H vs Q E i j=>⟨_,(h c d outer e H E i).of,ytK sS j⟩
theorem zin {x b:Str}{st:Stmt}{f:Addr}{i:FuncData}{N ps:List Str}{k g n:Nat}{s:XS}(F:Fun K x b st f i) (S:yek N ps (ybA st)) (m:ps.length=n+1) (l:n+1<=N.length)
  (h:∀ c e outer d H E,Room k (e.deeper (envOfC b (ybA st) d.heap.objs.size f c))->ZFs (ytk CX0 P w K mg base N b (ybA st) f c e outer d H E).nox A (yfy st) s) :
  FnOk P w K mg base CX0 (k+1) f i ps (spI ⟨K,A⟩ n g (ymr N.length g s)) :=
 F.ok S (fun _ _ _ _ h=>(yxL h).trans m.symm) fun c e outer d H vs Q E o j=>⟨_,(h c e outer d H E o).of,ytU l sF j⟩
end
end PX
namespace PX
open PySem L2 PySem.Spec PyProof.Rows
section
variable {X:Cx}{A:Nat->Addr}{a b c o i:Expr}{es:List Expr}{xa xb xc xd xk xv:XE}{xo:XO}{aa:XA}{pos p apos cpos pos':Pos}{x:Str}{n k:Nat}
theorem yrp (g:ZE X A o xd) (f:ZE X A i xk) (e:X.A.units+1<cLine:=by exact ytn hr) (hs:yEd i:=by exact fun _ _=>rfl):ZE X A (.Subscript o i pos) (yfk xd xk):=wE (yxU e g.of f.of hs) (yug sE sE)
theorem yEp (f:ZE X A i xk) (h:ZE X A o xd) (e:X.A.units+1<cLine:=by exact ytn hr) (g:behindInMarks .In o=false:=by first|exact yiN _|with_unfolding_all rfl):ZE X A (.Compare i [.In] [o] pos) (yuh false xk xd):=wE (yzM (ywc e f.of h.of) g) (yqR sE sE)
theorem yBj (g:ZE X A i xk) (f:ZE X A o xd) (e:X.A.units+1<cLine:=by exact ytn hr) (h:behindInMarks .In o=false:=by first|exact yiN _|with_unfolding_all rfl):ZT X A (.Compare i [.In] [o] pos) (yr (yuh false xk xd)):=wT (yzN (ywc e g.of f.of) h) (yhn (yqR sE sE))
theorem yke (f:ZE X A o xd) (g:ZE X A i xk) (h:ZE X A a xv) (e:X.A.units+1<cLine:=by exact ytn hr) (hs:swapsWith a (some (.Subscript o i pos')) pos.line X.env=pure false:=by rfl):ZS X A (.Assign [.Subscript o i pos'] a pos) (yiz xd xk xv):=wS (yxV e f.of g.of h.of hs) (yui sE sE sE)
theorem ygK:ZO X A (.Dict [] [] pos) ync:=wO yue yuj
theorem yfG (h:ZE X A a xv) (j:ZE X A o xd) (m:ZE X A i xk) (l:∀ v,assign (.Subscript o i pos') X.env v=(do
   let e <- holding [v] (eval o X.env)
   let f <- holding [v,e] (eval i X.env)
   standAt pos'
   holding [v,e,f] (setItem e f v)
   release [v,e,f] []):=by exact fun _=>rfl) (hs:swapsWithSole [.Subscript o i pos'] a pos.line X.env=pure false:=by rfl) (g:swappedStores [.Subscript o i pos'] a X.env=pure none:=by rfl) (h1:(assignEach [.Subscript o i pos'] X.env).map (·.2)=[assign (.Subscript o i pos') X.env]:=by rfl) :
  ZS X A (.Assign [.Subscript o i pos'] a pos) (yea xd xk xv):=wS (yvE h.of (yAa j.of m.of set_list l) hs g h1) (yuf sE sE sE)
end
end PX
namespace PX
open PySem L2 PySem.Spec PyProof.Rows
theorem yni:bootBuiltins "reversed" = some (.type "reversed"):=by rfl'
section
variable {X:Cx}{A:Nat->Addr}{a b c o:Expr}{es:List Expr}{xa xb xc:XE}{pos p apos cpos:Pos}{x:Str}{n k:Nat}
theorem yBk {i:Nat}(j:ZE X A a xa) (l:PE X o (ypw i):=by exact yiM rfl (by first|exact Or.inl rfl|exact Or.inr (Or.inl rfl)) (by rfl') (by rfl')) (e:attributeBase o "extend" X.env (eval o X.env)=eval o X.env:=by rfl) (g:((backTo cpos (starEach [a] X.env)).all (fun x=>!x.1) && (backToKw cpos (keywordEach [] X.env)).all (fun x=>x.1.isSome)
   && decide ([a].length+([]:List Keyword).length+(if ([]:List Keyword).isEmpty then 0 else 1)<30))=true:=by rfl) (f:(apos.endLine == cpos.line)=true:=by rfl) (hs:starEach [a] X.env=(false,eval a X.env)::starEach [] X.env:=by rfl) (d:(backTo cpos (starEach [] X.env)).any (·.1)=false:=by rfl) (h:swapsWith (.Call (.Attribute o "extend" apos) [a] [] cpos) none pos.line X.env=pure false:=by rfl) :
  ZS X A (.Expr (.Call (.Attribute o "extend" apos) [a] [] cpos) pos) (ynf i xa) :=
 wS (yjs (yxd plainAttrs_list PySem.F.slot_list_extend PySem.F.type_list_extend yqb l (yfx j.of yiP hs) e g f hs d) h) (yum i sE)
theorem yBl {i:Nat}(h:X.mg x=none) (j:PE X a (ypw i):=by exact yiM rfl (by first|exact Or.inl rfl|exact Or.inr (Or.inl rfl)) (by rfl') (by rfl')) (m:Nm x:=by exact ⟨by rfl',by rfl',by rfl'⟩) (g:Gl X x:=by rfl) (f:bootBuiltins x=some (.builtin "len"):=by rfl') (e:starEach [a] X.env=(false,eval a X.env)::starEach [] X.env:=by rfl) (d:(backTo pos (starEach [] X.env)).any (·.1)=false:=by rfl) :
  ZE X A (.Call (.Name x p) [a] [] pos) (ypa i) :=
 wE (yjx yt g h f (yfx j yiP e) m.n m.d e d) (yun i)
end
section
theorem yeM {xs:List V}{its:List Value}(r:Vals xs its) {j:Nat} a:∃ x,xs[j]?=some x/\RelV x its.toArray[j]:=by
 have hl:=r.length
 have b:=by simpa using a
 have x1:xs[j]?=some xs[j]:=List.getElem?_eq_getElem _
 obtain ⟨u1,d,c⟩:=r.get x1
 simp_all
variable {X:Cx}
theorem ywn {i:List (Addr×Obj)}{σ:L2.St}{H:Hp}{s:Shared}(I:Inv X i σ H s) {n:Nat}{x y:V}{b:Bool}(r:EqR X.K H n x y b):∀ {A:Around}{u v:Value},RelV x u->RelV y v->A.units+n<cLine->SeqAt.EqAt A s u v b:=by
 induction r with
 | flat fx fy=>exact fun d f _=>eqAt_V d f fx fy
 | same =>
  intro A u v d f _
  cases d
  cases f
  exact SeqAt.EqAt.same _
 | odd h =>
  obtain ⟨a,o,ob,h1,h2⟩:=h
  have:=(I.bs a ob (I.ok.mod.kin a ob h2)).2
  rw [h1] at this
  cases this
 | nt hb =>
  intro A u v d f m
  cases d
  cases f
  obtain ⟨l,r2,k,p⟩:=I.tuple hb
  exact SeqAt.EqAt.none_tuple k (by omega)
 | tn hb =>
  intro A u v d f m
  cases d
  cases f
  obtain ⟨l,r2,k,p⟩:=I.tuple hb
  exact SeqAt.EqAt.tuple_none k (by omega)
 | @lst n a b xs ys e ha hb hl hne he ih =>
  intro A u v d f m
  cases d
  cases f
  obtain ⟨q,t,g,F,P⟩:=I.lst ha
  obtain ⟨l,C,r2,M,p⟩:=I.lst hb
  have O:=g.length
  have N:=r2.length
  rw [show xs.length=q.toArray.size by simp only [size_toArray];omega]
  refine SeqAt.EqAt.of_refs hne (SeqAt.RcAt.lists ⟨_,F,rfl,t,rfl⟩ ⟨_,M,rfl,C,rfl⟩ (by simp only [size_toArray];omega) (by omega) fun j L B=>?_)
  obtain ⟨x1,G,E⟩:=yeM g L
  obtain ⟨J,D,w⟩:=yeM r2 B
  exact ih j x1 J G D E w (by show A.units+1+n<cLine;omega)
 | @lstN n a b xs ys ha hb hl =>
  intro A u v d f m
  cases d
  cases f
  obtain ⟨q,t,g,F,P⟩:=I.lst ha
  obtain ⟨l,C,r2,M,p⟩:=I.lst hb
  have O:=g.length
  have N:=r2.length
  have hne:a≠b:=fun z=>by subst z;rw [ha] at hb;cases hb;exact hl rfl
  exact SeqAt.EqAt.of_refs hne (SeqAt.RcAt.lists_lengths ⟨_,F,rfl,t,rfl⟩ ⟨_,M,rfl,C,rfl⟩ (by simp only [size_toArray,bne_iff_ne];omega) (by omega))
 | @tup n a b xs ys e ha hb hne he ih =>
  intro A u v d f m
  cases d
  cases f
  obtain ⟨q,g,Q,P⟩:=I.tuple ha
  obtain ⟨l,r2,k,p⟩:=I.tuple hb
  have O:=g.length
  have N:=r2.length
  rw [show xs.length=q.toArray.size by simp only [size_toArray];omega,show ys.length=l.toArray.size by simp only [size_toArray];omega]
  refine SeqAt.EqAt.of_refs hne (SeqAt.RcAt.tuples Q k (by omega) fun j L B=>?_)
  obtain ⟨x1,G,E⟩:=yeM g L
  obtain ⟨J,D,w⟩:=yeM r2 B
  exact ih j x1 J G D E w (by show A.units+1+n<cLine;omega)
theorem yBm (M:X.A.units+60<cLine):OpR X (compareOp .Eq) (yFk X.K):=by
 intro G s σ H x y v u Q I f i h
 obtain ⟨b,hb,q⟩:=h
 cases hb with
 | nt hb =>
  cases f
  cases i
  obtain ⟨k,r2,g,l⟩:=I.tuple hb
  exact SeqAt.RcAt.none_tuple g (by omega) _ _ _ _ ⟨.bl _,H,I,rfl,q⟩
 | tn hb =>
  cases f
  cases i
  obtain ⟨k,r2,g,l⟩:=I.tuple hb
  exact SeqAt.RcAt.tuple_none g (by omega) _ _ _ _ ⟨.bl _,H,I,rfl,q⟩
 | @lst a b xs ys e ha hb hl he =>
  cases f
  cases i
  obtain ⟨m,t,d,z,F⟩:=I.lst ha
  obtain ⟨k,A,r2,D,l⟩:=I.lst hb
  have J:=d.length
  have E:=r2.length
  rw [show xs.length=m.toArray.size by simp only [size_toArray];omega] at q
  refine SeqAt.RcAt.lists ⟨_,z,rfl,t,rfl⟩ ⟨_,D,rfl,A,rfl⟩ (by simp only [size_toArray];omega) (by omega) (fun j o r=>?_) _ _ _ _ ⟨.bl _,H,I,rfl,q⟩
  obtain ⟨x1,p,w⟩:=yeM d o
  obtain ⟨C,B,n⟩:=yeM r2 r
  exact ywn I (he j x1 C p B) w n (by show X.A.units+1+40<cLine;omega)
 | @lstN a b xs ys ha hb hl =>
  cases f
  cases i
  obtain ⟨m,t,d,z,F⟩:=I.lst ha
  obtain ⟨k,A,r2,D,l⟩:=I.lst hb
  have J:=d.length
  have E:=r2.length
  exact SeqAt.RcAt.lists_lengths ⟨_,z,rfl,t,rfl⟩ ⟨_,D,rfl,A,rfl⟩ (by grind) (by omega) _ _ _ _ ⟨.bl _,H,I,rfl,q⟩
 | @tup a b xs ys e ha hb he =>
  cases f
  cases i
  obtain ⟨m,d,L,F⟩:=I.tuple ha
  obtain ⟨k,r2,g,l⟩:=I.tuple hb
  have J:=d.length
  have E:=r2.length
  rw [show xs.length=m.toArray.size by simp only [size_toArray];omega,show ys.length=k.toArray.size by simp only [size_toArray];omega] at q
  refine SeqAt.RcAt.tuples L g (by omega) (fun j o r=>?_) _ _ _ _ ⟨.bl _,H,I,rfl,q⟩
  obtain ⟨x1,p,w⟩:=yeM d o
  obtain ⟨C,B,n⟩:=yeM r2 r
  exact ywn I (he j x1 C p B) w n (by show X.A.units+1+40<cLine;omega)
theorem yBn {k:Nat}{A:Around}(r:Room k A):A.units+60<cLine:=by have:=r.un;omega
end
end PX
namespace PX
open PySem L2 PySem.Spec PyProof.Rows
section
variable {X:Cx}{A:Nat->Addr}{o e:Expr}{es:List Expr}{xa xb:XE}{aa:XA}{pos apos pos':Pos}{m f:Str}{n k kc:Nat}{pl:Sem Bool}{p:Fn}{fa:Addr}{fd:FuncData}{ps:List Str}
theorem yce {st:Stmt}:ZS X A st yfl:=wS ysV (yur)
theorem yn (l:ZE X A o xa) (i:Meth X.K (A kc) m fa) (F:FnOk X.prog X.w X.K X.mg X.base CX0 k fa fd ps (spE (ckX X A) (n+1) p)) (h:Binds X.K fd ps []) (d:ZA X A (e::es) n aa) (c:Cls X.K (A kc):=by exact T.cl _) (hr:Room k X.A:=by exact hr.mono (by omega)) (b:starEach (e::es) X.env=(false,eval e X.env)::starEach es X.env:=by rfl) (a:(backTo pos (starEach es X.env)).any (·.1)=false:=by rfl) (j:eval (.Call (.Attribute o m apos) (e::es) [] pos) X.env=(do
   let g <- eval o X.env
   standAt apos.atName
   let (f,first) <- holding [g] (getMethod g m pl)
   callWith pos f first (backTo pos (starEach (e::es) X.env)) (backToKw pos (keywordEach [] X.env))):=by rfl) :
  ZE X A (.Call (.Attribute o m apos) (e::es) [] pos) (yj kc m p xa aa):=wE (yxa l.of c i F hr h .nil ykW d.of b a j) (ylA sE sA d.len)
theorem yx (b:ZE X A o xa) (h:Meth X.K (A kc) m fa) (F:FnOk X.prog X.w X.K X.mg X.base CX0 k fa fd ps (spE (ckX X A) 1 p)) (d:Binds X.K fd ps []) (c:Cls X.K (A kc):=by exact T.cl _) (hr:Room k X.A:=by exact hr.mono (by omega)) (g:eval (.Call (.Attribute o m apos) [] [] pos) X.env=(do
   let a <- eval o X.env
   standAt apos.atName
   let (f,first) <- holding [a] (getMethod a m pl)
   callWith pos f first (backTo pos (starEach [] X.env)) (backToKw pos (keywordEach [] X.env))):=by rfl) :
  ZE X A (.Call (.Attribute o m apos) [] [] pos) (yj kc m p xa yh):=wE (yti b.of c h F hr d .nil ykW g) (ylA sE yjI ymV)
theorem ybv {cs:List Nat}{value:Expr}(d:∀ k∈cs,Cls X.K (A k)/\NoAttr X.K (A k) f) (c:ZE X A o xa) (b:ZE X A value xb) (hs:swapsWith value (some (.Attribute o f pos')) pos.line X.env=pure false:=by rfl) :
  ZS X A (.Assign [.Attribute o f pos'] value pos) (ycR cs f xa xb):=wS (yvJ c.of b.of hs) (yus d sE sE)
end
end PX
namespace KasS
open PySem PySem.W PyProof.Rows
noncomputable def run {α:Type}(lt:Nat->Nat->Bool):KasT α->α
 | .ret a=>a
 | .ask i j k=>run lt (k (lt i j))
noncomputable def yuC {α:Type}(P:Nat->Prop) (lt:Nat->Nat->Bool):KasT α->Prop
 | .ret _=>True
 | .ask i j k=>P i/\P j/\yuC P lt (k (lt i j))
theorem yBo {α:Type}{P:Nat->Prop}{lt:Nat->Nat->Bool}{e:Nat->Nat->(Bool->Shared->Prop)->Shared->Prop}{s:Shared}(f:∀ i j C,P i->P j->C (lt i j) s->e i j C s) {Q:α->Shared->Prop} :
  ∀ t,yuC P lt t->Q (run lt t) s->t.kasWp e Q s
 | .ret _,_,h=>h
 | .ask i j k,⟨a,b,c⟩,h=>f i j _ a b (yBo f _ c h)
section
variable (key:Nat->Int)
noncomputable def ltK (i j:Nat):Bool:=decide (key i<key j)
noncomputable def Kp (p:Array Nat) (i:Nat):Int:=key (p[i]?.getD 0)
def Up (p:Array Nat) (k:Nat):Prop:=∀ i j,i<=j->j<k->Kp key p i<=Kp key p j
variable {key}
noncomputable def AllIn {α:Type}(n:Nat):KasT α->Bool
 | .ret _=>true
 | .ask i j k=>decide (i<n) && decide (j<n) && AllIn n (k true) && AllIn n (k false)
theorem ywo {α:Type}{n:Nat}{lt lt':Nat->Nat->Bool}(e:∀ i j,i<n->j<n->lt i j=lt' i j):∀ t:KasT α,AllIn n t=true->yuC (· < n) lt t/\run lt t=run lt' t
 | .ret _,_=>⟨trivial,rfl⟩
 | .ask i j k,h=>by
  unfold AllIn at h
  simp only [and_eq_true,decide_eq_true_eq] at h
  obtain ⟨⟨⟨h1,h2⟩,h3⟩,h4⟩:=h
  have q:=ywo e (k (lt i j)) (by cases lt i j<;>assumption)
  exact ⟨⟨h1,h2,q.1⟩,by show run lt (k (lt i j))=run lt' (k (lt' i j));rw [q.2,e i j h1 h2]⟩
noncomputable def tb (a b c d e f:Bool):Nat->Nat->Bool
 | 0,1=>a|1,0=>b|0,2=>c|2,0=>d|1,2=>e|2,1=>f|_,_=>false
def okB (n:Nat) (lt:Nat->Nat->Bool):Bool:=(run lt (kas_sort n)).toList.isPerm (List.range n) && (List.range n).all fun i=>(List.range i).all fun j=>!(lt ((run lt (kas_sort n))[i]?.getD 0) ((run lt (kas_sort n))[j]?.getD 0))
theorem yBp:∀ a b c d e f:Bool,((List.range 3).all fun i=>(List.range 3).all fun j=>(List.range 3).all fun k=>(tb a b c d e f i j || tb a b c d e f j k || !(tb a b c d e f i k)) && !(tb a b c d e f i j && tb a b c d e f j i))=true->(okB 2 (tb a b c d e f) && okB 3 (tb a b c d e f) && AllIn 2 (kas_sort 2) && AllIn 3 (kas_sort 3))=true:=by rfl'
theorem yrq:∀ i j,i<3->j<3->ltK key i j=tb (ltK key 0 1) (ltK key 1 0) (ltK key 0 2) (ltK key 2 0) (ltK key 1 2) (ltK key 2 1) i j
 | 0,1,_,_|1,0,_,_|0,2,_,_|2,0,_,_|1,2,_,_|2,1,_,_=>rfl
 | 0,0,_,_|1,1,_,_|2,2,_,_=>decide_eq_false (Int.lt_irrefl _)
 | n+3,_,h,_=>absurd h (by omega)
 | _,n+3,_,h=>absurd h (by omega)
theorem yuD {n:Nat}(hn:n=2\/n=3):yuC (· < n) (ltK key) (kas_sort n)/\(run (ltK key) (kas_sort n)).Perm (toArray (List.range n))/\Up key (run (ltK key) (kas_sort n)) n:=by
 have k:=yBp (ltK key 0 1) (ltK key 1 0) (ltK key 0 2) (ltK key 2 0) (ltK key 1 2) (ltK key 2 1) (by
  simp only [List.all_eq_true,List.mem_range]
  intro i hi j hj l hl
  rw [<- yrq i j hi hj,<- yrq j l hj hl,<- yrq i l hi hl,<- yrq j i hj hi]
  unfold ltK
  by_cases a:key i<key j
  .simp [a];omega
  .by_cases b:key j<key l
   .simp [a,b]
   .simp [a,b];omega)
 simp only [and_eq_true] at k
 obtain ⟨⟨⟨k2,k3⟩,k4⟩,k5⟩:=k
 have e:∀ i j,i<n->j<n->ltK key i j=tb (ltK key 0 1) (ltK key 1 0) (ltK key 0 2) (ltK key 2 0) (ltK key 1 2) (ltK key 2 1) i j:=fun i j hi hj=>yrq i j (by omega) (by omega)
 have q:=ywo e (kas_sort n) (by rcases hn with rfl|rfl<;>assumption)
 have ok:okB n (tb (ltK key 0 1) (ltK key 1 0) (ltK key 0 2) (ltK key 2 0) (ltK key 1 2) (ltK key 2 1))=true:=by rcases hn with rfl|rfl<;>assumption
 unfold okB at ok
 rw [<- q.2,and_eq_true] at ok
 have p:(run (ltK key) (kas_sort n)).Perm (toArray (List.range n)):=Array.Perm.of_toList_perm (List.isPerm_iff.mp ok.1)
 refine ⟨q.1,p,fun i j h1 h2=>?_⟩
 by_cases z:i=j
 .rw [z];exact Int.le_refl _
 .have o:=ok.2
  simp only [List.all_eq_true,List.mem_range,Bool.not_eq_true'] at o
  have o:=o j h2 i (by omega)
  have lt:∀ t,t<n->(run (ltK key) (kas_sort n))[t]?.getD 0<n:=fun t ht=>by
   have l:(run (ltK key) (kas_sort n)).size=n:=by have:=p.size_eq;simpa using this
   rw [Array.getElem?_eq_getElem (by omega)]
   have:=p.mem_iff.mp (Array.getElem_mem (xs:=run (ltK key) (kas_sort n)) (i:=t) (by omega))
   simpa using this
  rw [<- e _ _ (lt j h2) (lt i (by omega))] at o
  have:=of_decide_eq_false o
  show key _<=key _
  omega
end
end KasS
namespace KasS
open PySem PySem.W PyProof.Rows PySem.Calls
noncomputable def Tps (h:Heap):List Value->List (Int×Tok×Value)->Prop
 | [],[]=>True
 | v::vs,p::ps=>(∃ b o m,v=.ref b/\h.get? b=some o/\o.cls=.type "tuple"/\o.data=.seq #[.int p.1 p.2.1,p.2.2] m)/\Tps h vs ps
 | _,_=>False
theorem Tps.len {h:Heap}:∀ {vs:List Value}{ps:List _},Tps h vs ps->ps.length=vs.length
 | [],[],_=>rfl
 | _::_,_::_,⟨_,t⟩=>by rw [length_cons,length_cons,Tps.len t]
 | [],_::_,t=>t.elim
 | _::_,[],t=>t.elim
theorem Tps.get {h:Heap}:∀ {vs:List Value}{ps:List _},Tps h vs ps->∀ i,i<vs.length->∃ p b o m,ps[i]?=some p/\vs.getD i .none=.ref b/\h.get? b=some o/\o.cls=.type "tuple"/\o.data=.seq #[.int p.1 p.2.1,p.2.2] m
 | _::_,p::_,⟨⟨b,o,m,e,d,f,g⟩,_⟩,0,_=>⟨p,b,o,m,rfl,by rw [e];rfl,d,f,g⟩
 | _::vs,_::ps,⟨_,t⟩,i+1,c=>by
  obtain ⟨p,b,o,m,e,d,f⟩:=Tps.get t i (by simpa using c)
  simp_all
 | [],[],_,_,c=>by simp at c
 | [],_::_,t,_,_=>t.elim
 | _::_,[],t,_,_=>t.elim
theorem Tps.mono {h h':Heap}:∀ {vs:List Value}{ps:List _},Tps h vs ps->(∀ b o,Value.ref b∈vs->h.get? b=some o->h'.get? b=some o)->Tps h' vs ps
 | [],[],_,_=>trivial
 | _::_,_::_,⟨⟨b,o,m,d,c,e⟩,t⟩,k=>⟨⟨b,o,m,d,k b o (by simp_all) c,e⟩,Tps.mono t fun b o f=>k b o (mem_cons_of_mem _ f)⟩
 | [],_::_,t,_=>t.elim
 | _::_,[],t,_=>t.elim
theorem Tps.kat {h:Heap}:∀ {vs:List Value}{ps:List _},Tps h vs ps->KatTups h vs (ps.map fun p=>Value.int p.1 p.2.1)
 | [],[],_=>trivial
 | _::_,p::_,⟨⟨b,o,m,d,c,f,e⟩,t⟩=>⟨⟨b,o,_,m,d,c,f,e,rfl⟩,Tps.kat t⟩
 | [],_::_,t=>t.elim
 | _::_,[],t=>t.elim
noncomputable def yfm (ps:List (Int×Tok×Value)) (i:Nat):Int:=((ps[i]?).map (·.1)).getD 0
theorem yrr {ps:List _}(d:(ps.map (·.1)).Nodup) {i j:Nat}(c:i<ps.length) (b:j<ps.length) (e:yfm ps i=yfm ps j):i=j:=by
 unfold yfm at e
 rw [List.getElem?_eq_getElem c,List.getElem?_eq_getElem b] at e
 have h1:i<(ps.map (·.1)).length:=by simpa using c
 have h2:j<(ps.map (·.1)).length:=by simpa using b
 exact (List.getElem_inj (h₀:=h1) (h₁:=h2) d).mp (by simpa using e)
section
variable {prog:Program}{w:World}{A:Around}{E:Value->Shared->Prop}{s:Shared}
theorem yyk {vs:List Value}{ps:List _}(c:Tps s.heap vs ps) (t:(ps.map (·.1)).Nodup) (i j:Nat) C (n:i<vs.length) (l:j<vs.length) (f:C (ltK (yfm ps) i j) s) :
  kas_ask prog w A (tuples' true) vs i j C s:=by
 obtain ⟨p,b,o,m,k,q,z,D,v⟩:=c.get i n
 obtain ⟨d,G,H,m',h,u,r,F,B⟩:=c.get j l
 have k1:yfm ps i=p.1:=by unfold yfm;rw [k];rfl
 have k2:yfm ps j=d.1:=by unfold yfm;rw [h];rfl
 unfold ltK at f
 rw [k1,k2] at f
 unfold kas_ask
 rw [q,u]
 refine kat_lt z v r B ?_
 refine kat_cons (L2.eqAt_V (y:=.int p.1) (x:=.int d.1) ⟨_,rfl⟩ ⟨_,rfl⟩ rfl rfl prog w _ _ ?_)
 show KatGo prog w A true _ C _ _ _ 0 (p.1 == d.1) s
 by_cases e:p.1=d.1
 .rw [beq_iff_eq.mpr e]
  have g:i=j:=yrr t (by rw [c.len];exact n) (by rw [c.len];exact l) (by rw [k1,k2,e])
  subst g
  rw [k] at h
  cases h
  refine kat_yes (kat_cons (SeqAt.EqAt.same _ prog w _ _ (kat_yes (kat_nil ?_))))
  grind
 .rw [beq_eq_false_iff_ne.mpr e]
  exact kat_no (oneLt_int f)
theorem yuE {a:Addr}{vs:List Value}{ps:List (Int×Tok×Value)}{n:Nat}{P:PySem.Fin->Shared->Prop}(ho:s.heap.get? a=some (seqObj "list" vs.toArray n)) (tp:Tps s.heap vs ps) (na:Value.ref a∉vs) (hn:(ps.map (·.1)).Nodup) (h64:vs.length<4)
  (h:∀ q:Array Nat,q.Perm (toArray (List.range vs.length))->Up (yfm ps) q vs.length->P (.done (.ret .none)) { s with heap:=sortedHeap s.heap a vs (toArray (q.toList.map fun i=>vs.getD i Value.none)) }) :
  wpAny (model prog w) A (Builtin.«list.sort» ⟨[.ref a],[]⟩) P E s:=by
 have ha:a<s.heap.objs.size:=Heap.lt_size ho
 have z64:vs.length<=sizeLine:=by rw [sizeLine_eq];omega
 rw [list_sort_plain]
 obtain ⟨e1,ho1⟩:∃ e1,(s.heap.update a (Obj.mapSeq fun _=>(#[]:Array Value))).get? a=some (seqObj "list" #[] e1):=⟨_,get?_update_seq ho _⟩
 refine wpAny_bind (listItems_at ho rfl (wpAny_bind (listUpdate_at ho rfl (wpAny_bind (seqEpoch_at ho1 rfl (wpAny_bind (wpAny_newTuple (wpAny_bind (wpAny_newList (wpAny_holding ?_) (zero_le _))) (by simpa using z64))))) (by simpa using z64) (zero_le _))))
 generalize hH:((s.heap.update a (Obj.mapSeq fun _=>(#[]:Array Value))).push (seqObj "tuple" vs.toArray 0)).push (seqObj "list" #[] 0)=H6
 have keep:∀ b o,b≠a->s.heap.get? b=some o->H6.get? b=some o:=fun b o hb e=>by
  rw [<- hH]
  exact Heap.get?_push_of_some _ (Heap.get?_push_of_some _ ((Heap.get?_update_other _ _ (Ne.symm hb)).trans e))
 have ho6:H6.get? a=some (seqObj "list" #[] e1):=by rw [<- hH];exact Heap.get?_push_of_some _ (Heap.get?_push_of_some _ ho1)
 have tp6:Tps H6 vs ps:=tp.mono fun b o hb e=>keep b o (fun z=>na (z ▸ hb)) e
 show wpAny (model prog w) A _ P E { s with heap:=H6 }
 dsimp only
 have fin:∀ q:Array Nat,q.Perm (toArray (List.range vs.length))->Up (yfm ps) q vs.length->P (.done (.ret .none)) { s with heap:=H6.update a (Obj.mapSeq fun _=>toArray (q.toList.map fun i=>vs.getD i Value.none)) }:=fun q h1 h2=>by
  have:=h q h1 h2
  unfold sortedHeap at this
  rw [show ((s.heap.update a (Obj.mapSeq fun _=>(#[]:Array Value))).push (seqObj "tuple" vs.toArray 0)).push (seqObj "list" #[] 0)=H6 from hH] at this
  exact this
 by_cases h2:vs.toArray.size<2
 .rw [if_pos h2,if_pos h2]
  refine wpAny_bind (wpAny_pure ?_)
  rw [StateT.run_pure]
  have hz:((arrOf (SortSt.mk' general' (vs.toArray.zip vs.toArray) #[] 7 none)).map (·.2))=toArray ((toArray (List.range vs.length)).toList.map fun i=>vs.getD i Value.none):=by
   show (vs.toArray.zip vs.toArray).map (·.2)=_
   apply Array.toList_inj.mp
   simp only [Array.toList_map,Array.toList_zip,List.map_snd_zip (Nat.le_refl _)]
   apply List.ext_getElem
   .simp
   .intro i h3 h4
    simp
    rw [List.getElem?_eq_getElem (by simpa using h3)];rfl
  refine wpAny_bind (wpAny_pure (wpAny_bind (seqEpoch_at ho6 rfl (wpAny_bind (listUpdate_at ho6 rfl ?_ (zero_le _) ?_)))))
  .dsimp only
   rw [hz]
   simp only [bne_self_eq_false,Bool.false_eq_true,if_false]
   exact wpAny_pure (fin _ (Array.Perm.refl _) fun i j hij hj=>by rw [show i=j by (simp at h2);omega];exact Int.le_refl _)
  .rw [hz];simp;omega
 .rw [if_neg h2,if_neg h2]
  have hv2:2<=vs.length:=by simp at h2;omega
  refine wpAny_bind (kat_kind (s:={ s with heap:=H6 }) (T:=.type "int") tp6.kat (by rw [length_map,tp.len];omega) (fun v hv=>?_) rfl ?_)
  .obtain ⟨p,_,rfl⟩:=List.mem_map.mp hv
   exact .now
  have h2:=yuD (key:=yfm ps) (show vs.length=2\/vs.length=3 by omega)
  have run1:=kat_run (prog:=prog) (w:=w) (A:=A) (E:=E) (s:={ s with heap:=H6 }) (κ:=tuples' true) (ks:=vs) (vs:=vs)
   (Q:=fun st' s'=>s'={ s with heap:=H6 }/\∃ q:Array Nat,q.Perm (toArray (List.range vs.length))/\Up (yfm ps) q vs.length/\(arrOf st').map (·.2)=toArray (q.toList.map fun i=>vs.getD i Value.none)/\failedOf st'=none)
   (G:=fun q s'=>s'={ s with heap:=H6 }/\q.Perm (toArray (List.range vs.length))/\Up (yfm ps) q vs.length) rfl hv2 (by omega)
   (fun q st' s' z1 z2 z3 z4=>⟨z4.1,q,z4.2.1,z4.2.2,kat_snds rfl z2,z3⟩)
   (yBo (P:=(· < vs.length)) (lt:=ltK (yfm ps)) (fun i j C hi hj hC=>yyk tp6 hn i j C hi hj hC) _ h2.1 ⟨rfl,h2.2⟩)
  refine wpAny_bind (wpAny_mono run1 ?_ fun _ _ x=>x)
  rintro ⟨⟨⟩,st'⟩ s' ⟨rfl,q,z1,z2,z3,z4⟩
  refine wpAny_bind (seqEpoch_at ho6 rfl (wpAny_bind (listUpdate_at ho6 rfl ?_ (zero_le _) ?_)))
  .dsimp only
   rw [z3,z4]
   simp only [bne_self_eq_false,Bool.false_eq_true,if_false]
   exact wpAny_pure (fin q z1 z2)
  .dsimp only
   rw [z3]
   have:=z1.size_eq
   simp at this ⊢
   omega
end
end KasS
namespace PXS
open PySem L2 PySem.Spec PyProof.Rows KasS PX
theorem yuF {P:Program}{w:World}{H:Hp}{h:Heap}{a:Addr}{o:HO}(x:ObjOk P w H h a o):∃ u,h.get? a=some u:=by
 cases o with
 | lst xs=>obtain ⟨_,_,_,_,e⟩:=x;exact ⟨_,e⟩
 | tup xs=>obtain ⟨_,_,_,ob,e,_⟩:=x;exact ⟨_,e⟩
 | dK kvs=>obtain ⟨_,_,_,_,o,_,_,e,_⟩:=x;exact ⟨_,e⟩
 | dT kvs=>obtain ⟨_,_,_,_,o,_,_,e,_⟩:=x;exact ⟨_,e⟩
 | set S n=>obtain ⟨o,_,_,_,e,_⟩:=x;exact ⟨_,e⟩
 | ins C dx fs=>obtain ⟨_,_,_,e,_⟩:=x;exact ⟨_,e⟩
 | own y=>obtain ⟨_,e⟩:=x;exact ⟨_,e⟩
 | xd fs=>obtain ⟨_,⟨_,_,_,e,_⟩,_⟩:=x;exact ⟨_,e⟩
 | rng lo hi=>obtain ⟨_,_,_,e⟩:=x;exact ⟨_,e⟩
 | frz ob u=>obtain ⟨e,_⟩:=x;exact ⟨_,e⟩
 | tbl ps=>exact ⟨_,x⟩
 | met f y=>exact ⟨_,x⟩
 | ext φ=>obtain ⟨_,⟨_,e⟩,_⟩:=x;exact ⟨_,e⟩
section
variable {X:Cx}
theorem yuG:MtM X "dict.items" ywg:=by
 intro c s σ H x vs v us Q I j l h
 obtain ⟨d,kvs,rfl,rfl,g,q⟩:=h
 cases j
 have b:=l.zero
 subst b
 obtain ⟨z,i,ws,m,f⟩:=I.hok d _ g
 refine call_meetsIn PySem.F.slot_dict_items f.typeIs PySem.F.entry_dict_items (PySem.F.args_dict_items_1 _) (meets_dict_items _ d i) ⟨⟨ws,f⟩,?_⟩
 refine ⟨.ref _,_,I.laid (o:=ypc s.heap.objs.size d) (fun _ _ q=>Heap.get?_push_of_some _ q) (Nat.le_refl _) ⟨Heap.get?_push_size _ rfl,⟨_,Heap.get?_push_size _ rfl⟩,fun h1 h2 e k=>k _ e⟩,rfl,q _ I.fresh⟩
theorem yyl {d:List _}{σ:L2.St}{H f:Hp}{s:Shared}{h':Heap}{t':Nat}(I:Inv X d σ H s) (k:∀ b u,s.heap.get? b=some u->h'.get? b=some u) (sub:∀ b o,H b=some o->f b=some o)
  (h:∀ b o,H b=none->f b=some o->s.heap.get? b=none/\ObjOk X.prog X.w f h' b o):Inv X d σ f { s with heap:=h',toks:=t' }:=by
 refine I.un ⟨fun b u q _ _ _=>k b u q,fun b u q _ _ _=>⟨u.slots,k b u q⟩,fun b u q n _=>?_,fun b u q _=>⟨u,k b u q⟩,fun b xs q=>sub _ _ q,fun b u xs q=>sub _ _ q,fun b ps q=>⟨#[],by rw [sub _ _ q];simp⟩⟩ fun b o e=>?_
 .cases e:f b with
  | none=>rfl
  | some o=>simp_all
 .cases g:H b with
  | none=>exact (h b o g e).2
  | some u =>
   have:=sub _ _ g
   rw [e] at this
   cases this
   exact (I.hok b o g).stay (fun c v _ q=>k c v q) (fun c q=>sub _ _ q) fun c xs q=>sub _ _ q
theorem ywp {h:Heap}:∀ (f:List Addr) (ws:List (Key×Value)) (ns:List Int),f.length=ws.length->ws.map (·.1)=ns.map Sum.inl ->
  (∀ (j:Nat) a,f[j]?=some a->∃ key k x,ws[j]?=some (k,x)/\ymu k key=true/\h.get? a=some { cls:=.type "tuple",data:=.seq #[key,x] }) ->
  ∃ ps,Tps h (f.map Value.ref) ps/\ps.map (·.1)=ns/\ps.map (·.2.2)=ws.map (·.2)
 | [],[],ns,_,e,_=>⟨[],trivial,by simp_all,rfl⟩
 | [],_::_,_,hl,_,_=>by simp at hl
 | _::_,[],_,hl,_,_=>by simp at hl
 | a::f,(k,x)::ws,ns,hl,e,hp=>by
  cases ns with
  | nil=>simp at e
  | cons n ns =>
   simp only [map_cons,List.cons.injEq] at e
   obtain ⟨ps,t,s,r⟩:=ywp f ws ns (by simpa using hl) e.2 fun j b p=>by
    obtain ⟨key,o,x',l,i,m⟩:=hp (j+1) b (by simpa using p)
    exact ⟨key,o,x',by simpa using l,i,m⟩
   obtain ⟨key,o,x',l,i,m⟩:=hp 0 a rfl
   obtain ⟨rfl,rfl⟩:=l
   obtain ⟨j,d,g,rfl⟩:∃ j d,k=Sum.inl j/\key=Value.int j d:=by
    rcases ybj i with ⟨j,d,g,q⟩|⟨y,d,g,q⟩
    .simp_all
    simp_all
   rw [g] at e
   obtain rfl:j=n:=by injection e.1
   exact ⟨(j,d,x)::ps,⟨⟨a,_,_,rfl,m,rfl,rfl⟩,t⟩,by simp_all,by simp_all⟩
theorem yen {α:Type}:∀ {d:List Addr}{ts:List α}{b:Addr}{t:α},(d.zip ts).lookup b=some t->∃ j:Nat,d[j]?=some b/\ts[j]?=some t
 | [],_,_,_,h=>by simp at h
 | _::_,[],_,_,h=>by simp at h
 | a::d,u::ts,b,t,h=>by
  rw [zip_cons_cons,lookup_cons] at h
  split at h
  .rename_i e
   cases h
   exact ⟨0,by rw [eq_of_beq e];rfl,rfl⟩
  .obtain ⟨j,h1,h2⟩:=yen h
   exact ⟨j+1,by simpa using h1,by simpa using h2⟩
theorem yok:∀ {kvs:List (Key×V)}{ws:List _},KV kvs ws->ws.map (·.1)=kvs.map (·.1)/\∀ i,i<kvs.length->RelV ((kvs.map (·.2)).getD i .non) ((ws.map (·.2)).getD i .none):=by
 intro kvs ws h
 induction h with
 | nil=>exact ⟨rfl,fun i b=>rfl⟩
 | @cons p q _ _ h1 _ ih =>
  refine ⟨by rw [map_cons,map_cons,ih.1,h1.1],fun i b=>?_⟩
  cases i with
  | zero=>exact h1.2
  | succ i=>simpa using ih.2 i (by simpa using b)
theorem yol {α:Type}{f:α->V}{g:α->Value}:∀ {l:List α},(∀ i∈l,RelV (f i) (g i))->Vals (l.map f) (l.map g)
 | [],_=>.nil
 | i::l,h=>.cons (h i mem_cons_self) (yol fun j b=>h j (mem_cons_of_mem _ b))
theorem yha (hc:X.calm=true):yfg X (.builtin "sorted") rSI:=by
 intro pins s σ H xs us Q I rr hh
 obtain ⟨r,d,kvs,ns,rfl,hr,hd,hk,h64,q⟩:=hh
 obtain ⟨u,rfl,rx⟩:=vals1 rr
 cases rx
 obtain ⟨W,_,_⟩:=I.hok r _ hr
 obtain ⟨z,sy,ws,kv,hD⟩:=I.hok d _ hd
 obtain ⟨ep,hat⟩:=hD.dictAt
 obtain ⟨M,kv2⟩:=yok kv
 have lw:ws.length=kvs.length:=by have:=congrArg length M;simpa using this
 have ln:ns.length=kvs.length:=by have:=congrArg length hk;simpa using this.symm
 have nd:ns.Nodup:=by
  obtain ⟨_,_,_,_,_,_,_,_,n⟩:=hD
  rw [M,hk] at n
  exact (List.pairwise_map.mp n).imp fun h e=>h (by rw [e])
 refine Calls.call_function_entry kind_sorted plain_sorted entry_sorted (args_sorted1 _) ?_
 unfold Builtin.«sorted»
 refine wpAny_bind (m:=checkCount "sorted" 1 1 _) (wpAny_pure ?_)
 refine wpAny_bind (PySem.W.kdx_collect (A:=X.A.in1) (knd:=ycD X.prog X.w) (kvs:=ws) (ep:=ep) (I.ok.hd hc) ⟨_,W,rfl,rfl⟩ hat (by rw [lw];exact z) fun h' P g N hl hG=>wpAny_bind (wpAny_newList ?_ (by rw [length_map,hl,lw];exact z)))
 obtain ⟨ps,tp,e1,G⟩:=ywp (h:=h') g ws ns hl (by rw [M,hk]) fun j a v=>hG.pairs j a v
 have la:g.length=ns.length:=by omega
 have U:∀ a∈g,s.heap.objs.size<a:=hG.above
 have F:∀ a∈g,a<h'.objs.size:=fun a v=>hG.there v
 generalize hB:h'.objs.size=B at *
 have L:s.heap.get? B=none:=by
  cases e:s.heap.get? B with
  | none=>rfl
  | some o=>exact absurd (Heap.lt_size (N B o e)) (by rw [hB];exact lt_irrefl _)
 have T:∀ a∈g,s.heap.get? a=none:=fun a v=>Heap.get?_none_of_le (le_of_lt (U a v))
 have D:∀ b,s.heap.get? b=none->H b=none:=fun b e=>by
  cases G:H b with
  | none=>rfl
  | some o=>obtain ⟨u,hu⟩:=yuF (I.hok b o G);rw [e] at hu;cases hu
 have Y:(h'.push { cls:=.type "list",data:=.seq (g.map Value.ref).toArray }).get? B=some (seqObj "list" (g.map Value.ref).toArray 0):=by rw [<- hB];exact Heap.get?_push_size _ rfl
 refine wpAny_bind (wpAny_holding (wpAny_call_entry PySem.F.slot_list_sort ⟨_,Y,rfl⟩ PySem.F.entry_list_sort ?body (PySem.F.args_list_sort_1 _)))
 case body =>
  refine yuE (s:={ s with heap:=h'.push { cls:=.type "list",data:=.seq (g.map Value.ref).toArray },toks:=P }) (ps:=ps) Y (tp.mono fun b o _ e=>Heap.get?_push_of_some _ e) (fun z=>?_) (by rw [e1];exact nd) (by rw [length_map];omega) fun w z1 z2=>?_
  .obtain ⟨a,v,e⟩:=List.mem_map.mp z
   cases e
   exact absurd (F B v) (lt_irrefl _)
  refine ⟨_,rfl,wpAny_pure ⟨_,rfl,?_⟩⟩
  have lq:w.toList.length=ns.length:=by have:=z1.size_eq;simpa [la] using this
  have pq:w.toList.Perm (List.range ns.length):=by have:=Array.perm_iff_toList_perm.mp z1;simpa [la] using this
  have E:∀ i∈w.toList,i<ns.length:=fun i C=>by have:=pq.mem_iff.mp C;simpa using this
  have nda:g.Nodup:=hG.rise.imp fun h=>ne_of_lt h
  have ndq:w.toList.Nodup:=pq.nodup_iff.mpr List.nodup_range
  generalize hS:sortedHeap (h'.push { cls:=.type "list",data:=.seq (g.map Value.ref).toArray }) B (g.map Value.ref) (toArray (w.toList.map fun i=>(g.map Value.ref).getD i Value.none))=S
  have hFa:∀ b o,b≠B->h'.get? b=some o->S.get? b=some o:=fun b o hb e=>by
   rw [<- hS]
   unfold sortedHeap
   exact (Heap.get?_update_other _ _ (Ne.symm hb)).trans (Heap.get?_push_of_some _ (Heap.get?_push_of_some _ ((Heap.get?_update_other _ _ (Ne.symm hb)).trans (Heap.get?_push_of_some _ e))))
  have hFB:∃ c,S.get? B=some (seqObj "list" (toArray (w.toList.map fun i=>(g.map Value.ref).getD i Value.none)) c):=by
   rw [<- hS]
   unfold sortedHeap
   exact ⟨_,get?_update_seq (Heap.get?_push_of_some _ (Heap.get?_push_of_some _ (get?_update_seq Y _))) _⟩
  have hF:∀ b o,s.heap.get? b=some o->S.get? b=some o:=fun b o e=>hFa b o (fun z=>by rw [z,L] at e;cases e) (N b o e)
  have p:∀ i,i<ns.length->∃ a,g[i]?=some a/\g.getD i 0=a/\a∈g:=fun i C=>by
   have h1:i<g.length:=by omega
   exact ⟨g[i],List.getElem?_eq_getElem h1,by simp [getD,List.getElem?_eq_getElem h1],getElem_mem h1⟩
  have O:∀ a∈(w.toList.map fun i=>g.getD i 0),a∈g:=fun a v=>by
   obtain ⟨i,C,rfl⟩:=List.mem_map.mp v
   obtain ⟨a,_,e,m⟩:=p i (E i C)
   rw [e];exact m
  have neB:∀ a∈g,a≠B:=fun a v=>ne_of_lt (F a v)
  have Z:∀ i,yfm ps i=ns.getD i 0:=fun i=>by
   unfold yfm
   rw [<- e1]
   simp [getD]
  refine ⟨.ref B,yCL H B (w.toList.map fun i=>g.getD i 0) (w.toList.map fun i=>[V.int (ns.getD i 0),(kvs.map (·.2)).getD i .non]),?_,rfl,q B _ w.toList pq ?_ nd (by simp) ?_ ?_⟩
  .show L2.Inv X pins σ _ { s with heap:=S,toks:=P }
   refine yyl I hF (fun b o e=>?_) fun b o e G=>?_
   .unfold yCL upd yod
    rw [if_neg fun z=>by rw [z,D _ L] at e;cases e]
    cases e3:List.lookup b ((w.toList.map fun i=>g.getD i 0).zip (w.toList.map fun i=>[V.int (ns.getD i 0),(kvs.map (·.2)).getD i .non])) with
    | none=>exact e
    | some t =>
     obtain ⟨j,l,_⟩:=yen e3
     rw [D _ (T b (O b (mem_of_getElem? l)))] at e
     cases e
   .unfold yCL upd yod at G
    split at G
    .rename_i hb
     subst hb
     cases G
     obtain ⟨c,hc⟩:=hFB
     refine ⟨L,by simp [lq];rw [ln];exact z,_,c,?_,hc⟩
     rw [map_map]
     refine yol fun i C=>?_
     obtain ⟨a,f1,f2,_⟩:=p i (E i C)
     show RelV (V.ref (g.getD i 0)) _
     rw [f2]
     simp [getD,f1]
     rfl
    .split at G
     .rename_i t e3
      cases G
      obtain ⟨j,l,J⟩:=yen e3
      rw [getElem?_map] at l J
      cases e4:w.toList[j]? with
      | none=>rw [e4] at l;cases l
      | some i =>
       rw [e4] at l J
       have C:=E i (mem_of_getElem? e4)
       obtain ⟨a,f1,f2,f3⟩:=p i C
       simp only [map_some,Option.some.injEq] at l J
       rw [f2] at l
       subst l
       subst J
       obtain ⟨key,k,x,w1,w2,w3⟩:=hG.pairs i a f1
       have wk:k=Sum.inl (ns.getD i 0):=by
        have h1:(ws.map (·.1))[i]?=some k:=by rw [getElem?_map,w1];rfl
        rw [M,hk,getElem?_map] at h1
        rw [List.getElem?_eq_getElem C] at h1
        simp [getD,List.getElem?_eq_getElem C] at h1 ⊢
        exact h1.symm
       obtain ⟨tk2,rfl⟩:∃ P,key=Value.int (ns.getD i 0) P:=by
        rcases ybj w2 with ⟨j,P,l,J⟩|⟨y,P,l,J⟩
        .rw [wk] at l;cases l;exact ⟨P,J⟩
        .rw [wk] at l;cases l
       have wx:(ws.map (·.2)).getD i .none=x:=by simp [getD,w1]
       refine ⟨T a f3,by simp [sizeLine_eq],[_,x],.cons ⟨_,rfl⟩ (.cons ?_ .nil),_,hFa a _ (neB a f3) w3,rfl,_,rfl⟩
       rw [<- wx]
       exact kv2 i (by omega)
     .rw [e] at G;cases G
  .refine List.pairwise_iff_getElem.mpr fun i j C hj R=>?_
   have:=z2 i j (le_of_lt R) (by simpa [la,lq] using hj)
   unfold Kp at this
   rw [Z,Z] at this
   have hi':i<w.size:=by simpa using C
   have hj':j<w.size:=by simpa using hj
   rw [Array.getElem?_eq_getElem hi',Array.getElem?_eq_getElem hj'] at this
   simpa using this
  .intro a v
   rcases mem_cons.mp v with rfl|v
   .exact D _ L
   .exact D _ (T a (O a v))
  .refine List.nodup_cons.mpr ⟨fun h=>neB _ (O _ h) rfl,?_⟩
   refine List.pairwise_map.mpr (ndq.imp_of_mem fun {i j} C hj R e=>R ?_)
   obtain ⟨a,f1,f2,_⟩:=p i (E i C)
   obtain ⟨b,l,J,_⟩:=p j (E j hj)
   rw [f2,J] at e
   subst e
   exact (List.getElem?_inj (by have:=E i C;omega) nda).mp (f1.trans l.symm)
variable {A:Nat->Addr}{o:Expr}{xa:XE}{pos p apos cpos:Pos}{x:Str}
theorem z_sortI (h:ZE X A o xa) (j:X.mg x=none) (i:X.calm=true:=by rfl) (m:Nm x:=by exact ⟨by rfl',by rfl',by rfl'⟩) (f:Gl X x:=by rfl) (g:bootBuiltins x=some (.builtin "sorted"):=by rfl') (b:attributeBase o "items" X.env (eval o X.env)=eval o X.env:=by rfl) (c:(apos.endLine == cpos.line)=true:=by rfl) (e:starEach [.Call (.Attribute o "items" apos) [] [] cpos] X.env=(false,eval (.Call (.Attribute o "items" apos) [] [] cpos) X.env)::starEach [] X.env:=by rfl) (d:(backTo pos (starEach [] X.env)).any (·.1)=false:=by rfl) :
  ZO X A (.Call (.Name x p) [.Call (.Attribute o "items" apos) [] [] cpos] [] pos) (yjc xa) :=
 wO (yjx (yha i) f j g (yfx (yvP PySem.F.plainAttrs_dict PySem.F.slot_dict_items PySem.F.type_dict_items yuG h.of b c) yiP e) m.n m.d e d) (yqY sE)
end
end PXS
namespace PX
open PySem L2 PySem.Spec PyProof.Rows
section
theorem yuH {P:Program}{w:World}{K:PySem.W.Frag}{O:Expr}(a l:Addr) (m:Nat):Turn P w K O (ItR K a m) [l] l (fun i h=>i<=m/\h.IsRevIter l a ((m:Int)-1-(i:Nat))) where
 mem:=by simp
 obj:=fun i h st b n=>by
  have e:b=l:=by simpa using n
  subst e
  obtain ⟨_,o,e,c,d⟩:=st
  simp_all
 keep:=fun i h h' st k=>⟨st.1,st.2.at fun o e=>k l (by simp) o e⟩
 item:=by
  intro X J G F C i q s σ H E I r st t
  subst J G F
  obtain ⟨Z,xs,x,D,B⟩:=t
  obtain ⟨its,Y,p,hz⟩:=I.list D
  obtain ⟨u,S,Q⟩:=Y.get B
  obtain ⟨f0,z,T,A,v,y⟩:=r l (by simp)
  have U:(m:Int)-1-(i:Nat)=((m-1-i:Nat):Int):=by omega
  have g:=st.2
  rw [U] at g
  refine wpAny_pyNext_rev_item g p.isList (x:=u) (by simpa using S) fun h' j W=>?_
  have L:=I.turned (t':=s.toks) (fun b o n e=>(W.2 b n).trans e) f0 z A v y
  obtain ⟨o,e,c,d⟩:=id j
  have R:((m-1-i:Nat):Int)-1=(m:Int)-1-((i+1:Nat):Int):=by omega
  rw [R] at j
  exact ⟨u,rfl,ypI e c d (by decide) ⟨x,H,L,Q,⟨rfl,fun ys N=>by rw [I.list_inj N D];exact B⟩,⟨Z,j⟩,fun b n=>(r b n).1⟩⟩
 done:=by
  intro X J G F C i q s σ H E I r st t
  obtain rfl:i=m:=t
  obtain ⟨f0,z,T,A,v,y⟩:=r l (by simp)
  have g:=st.2
  rw [show (i:Int)-1-(i:Nat)=-1 by omega] at g
  exact wpAny_pyNext_rev_end (I.ok.hd C) g fun h' M=>⟨rfl,I.turned (fun b o n e=>M b o n e) f0 z A v y⟩
 self:=fun _ _ _ _ _ st h=>wpAny_pyIter_revIter st.2 h
variable {X:Cx}{A:Nat->Addr}{tg a:Expr}{p pos:Pos}{xa:XE}
theorem yBq {j:TE}(m:Gl X "reversed") (v:X.mg "reversed" = none) (t:PE X a j) (n:starEach [a] X.env=(false,eval a X.env)::starEach [] X.env) (hs:starEach [a] X.env=[(false,eval a X.env)]):PI X tg (.Call (.Name "reversed" p) [a] [] pos) (yFm X.K j):=by
 intro d s σ H R I h
 refine Call_ (ykK I m v yni (PyProof.Rows.callWith_type1 (thn (yfx t yiP n pos d s σ H (fun vs f=>match vs with|[x]=>∃ b xs,x=.ref b/\SqL X.K f b xs/\R (ItR X.K b xs.length) f|_=>False) I h) fun us s1 ⟨vs,f,g,l,i⟩=>?_) hs rfl))
 cases l with
 | nil=>exact i.elim
 | cons r rr =>
  cases rr with
  | cons=>exact i.elim
  | nil =>
  obtain ⟨b,xs,e,u,q⟩:=i
  subst e
  cases r
  obtain ⟨its,y,k,hz⟩:=g.list u
  have hl:=y.length
  refine call_reversed_list k.isList (wpAny_pyIter_revIter ⟨_,Heap.get?_push_size _ rfl,rfl,rfl⟩ ?_)
  refine ⟨s1.heap.objs.size,_,_,_,f,rfl,g.kept fun b o e=>Heap.get?_push_of_some _ e,yuH b _ xs.length,⟨zero_le _,_,Heap.get?_push_size _ rfl,rfl,?_⟩,fun b w=>?_,q⟩
  .show Data.fields _=Data.fields _
   rw [hl]
   simp
  .have e:=by simpa using w
   subst e
   exact g.fpOk (Nat.le_refl _) (g.hok.fresh (Nat.le_refl _))
theorem yym {rest:List Stmt}{s:XS}{y:XG}(f:ZE X A a xa) (c:ZG X A tg y) (d:ZSs X A rest s) (hp:PassesOwn (model X.prog X.w) X.A X.env X.xe:=by exact PassesOwn.never) (e:X.calm=true:=by rfl) (hs:∀ x,foldedSetIterable a X.env x=pure x:=by exact fun _=>rfl):ZS X A (.For tg a rest [] pos) (yjZ false xa y s) :=
 wS (ynG hp e (yjt f.of) c.of d.of hs) (yuu sE sG sS)
theorem yyn {rest:List Stmt}{s:XS}{y:XG}{c:Pos}(k:X.mg "reversed" = none) (g:ZE X A a xa) (i:ZG X A tg y) (h:ZSs X A rest s) (hp:PassesOwn (model X.prog X.w) X.A X.env X.xe:=by exact PassesOwn.never) (f:X.calm=true:=by rfl) (d:Gl X "reversed":=by rfl) (j:starEach [a] X.env=(false,eval a X.env)::starEach [] X.env:=by rfl) (e:starEach [a] X.env=[(false,eval a X.env)]:=by rfl) (hs:∀ x,foldedSetIterable (.Call (.Name "reversed" p) [a] [] c) X.env x=pure x:=by exact fun _=>rfl):ZS X A (.For tg (.Call (.Name "reversed" p) [a] [] c) rest [] pos) (yjZ true xa y s) :=
 wS (ynG hp f (yBq d k g.of j e) i.of h.of hs) (yuv sE sG sS)
end
end PX
namespace PX
open PySem L2 PySem.Spec PyProof.Rows
section
variable {X:Cx}{A:Nat->Addr}{a o:Expr}{xa xb:XE}{pos apos cpos:Pos}
theorem yBr:MtM X "dict.update" yFn:=by
 intro p s σ H x vs v us Q I r B h
 obtain ⟨d,b,kvs,g,rfl,rfl,m,n,w,hz,q⟩:=h
 cases r
 obtain ⟨u,rfl,t⟩:=B.one
 cases t
 obtain ⟨z,D,vs,f,dd⟩:=yxS I.hok n
 obtain ⟨E,k,j,e,l⟩:=yxS I.hok w
 refine call_meetsIn PySem.F.slot_dict_update dd.typeIs PySem.F.entry_dict_update (PySem.F.args_dict_update_2 _ _) (meets_dict_update _ d b m k) ⟨vs,j,dd,l,by rw [<- f.length,<- e.length];exact hz,fun h' i _ hs=>?_⟩
 have C:∃ q,h'.get? d=some q:=let ⟨q,_,_,y,_⟩:=i;⟨q,y⟩
 refine ⟨.non,_,yna I (by rw [n];exact True.intro) hs C (ywb ?_ D (e.merge f) i),rfl,q⟩
 exact Nat.le_trans (yfY g kvs) hz
end
end PX
namespace PX
open PySem L2 PySem.Spec PyProof.Rows
variable {X:Cx}{A:Nat->Addr}{x y:Str}{py spos:Pos}{iy:Nat}
theorem yom {elt iter:Expr}{l:Pos}{scope:Scope}{g:Pos}{s:XA}{xe:XE}{ix:List Nat} j (B:ZI X A (.Name x l) iter s) (w:∀ k C c d fp b,ZE (cxC X scope k C (x::j) c d fp b) A elt xe) (u:X.calm=true:=by rfl) (o:FrOk X scope ix j:=by repeat' first|exact True.intro|exact rfl|refine And.intro ?_ ?_) (n:(x::j).Nodup:=by rfl') (i:scope.kind=.function:=by rfl) (h:∀ y∈scope.names,y.2≠.cell:=by rfl') (e:∀ y∈scope.names,y.2=.local->scope.names.lookup y.1=some .local:=by rfl') (f:∀ y∈scope.names,y.2=.free->y.1∈j:=by rfl') (t:scope.names.lookup x=some .local:=by rfl) (hs:∀ v,foldedSetIterable iter X.env v=pure v:=by exact fun _=>rfl) (z:X.N.Nodup:=by exact nd) (q:X.N[iy]?=some y:=by rfl) (m:Loc X.env.scope y:=by first|exact Or.inl rfl|exact Or.inr rfl) (r:X.fn y=true\/X.env.scope.names.lookup y=some .local:=by exact Or.inl rfl) (p:swapsWith (.ListComp elt [⟨.Name x l,iter,[],0⟩] scope g) (some (.Name y py)) spos.line X.env=pure true:=by rfl):ZS X A (.Assign [.Name y py] (.ListComp elt [⟨.Name x l,iter,[],0⟩] scope g) spos) (ybs (xFz (yel s ix xe)) (yp iy)) :=
 wS (yyg (ykc ix j u B.of o (fun k C c d fp b=>(w k C c d fp b).of) (fun _ _ _ _ _ _=>.nil) n i h e f t hs z q m r p)) (yhD (yvT (yjM ix sI sE)) (yeH iy))
theorem yuI {elt iter:Expr}{l:Pos}{scope:Scope}{g:Pos}{s:XA}{xe:XE}{ix:List Nat} j (B:ZI X A (.Name x l) iter s) (w:∀ k C c d fp b,ZE (cxC X scope k C (x::j) c d fp b) A elt xe) (u:X.calm=true:=by rfl) (o:FrOk X scope ix j:=by repeat' first|exact True.intro|exact rfl|refine And.intro ?_ ?_) (n:(x::j).Nodup:=by rfl') (i:scope.kind=.function:=by rfl) (h:∀ y∈scope.names,y.2≠.cell:=by rfl') (e:∀ y∈scope.names,y.2=.local->scope.names.lookup y.1=some .local:=by rfl') (f:∀ y∈scope.names,y.2=.free->y.1∈j:=by rfl') (t:scope.names.lookup x=some .local:=by rfl) (hs:∀ v,foldedSetIterable iter X.env v=pure v:=by exact fun _=>rfl) (z:X.N.Nodup:=by exact nd) (q:X.N[iy]?=some y:=by rfl) (m:Loc X.env.scope y:=by first|exact Or.inl rfl|exact Or.inr rfl) (r:X.fn y=true\/X.env.scope.names.lookup y=some .local:=by exact Or.inl rfl) (p:swapsWith (.ListComp elt [⟨.Name x l,iter,[],0⟩] scope g) (some (.Name y py)) spos.line X.env=pure true:=by rfl):ZS X A (.Assign [.Name y py] (.ListComp elt [⟨.Name x l,iter,[],0⟩] scope g) spos) (ybs (ygI (yel s ix xe)) (yp iy)) :=
 wS (yyg (ykc ix j u B.of o (fun k C c d fp b=>(w k C c d fp b).of) (fun _ _ _ _ _ _=>.nil) n i h e f t hs z q m r p)) (yhD (ymU (yjM ix sI sE)) (yeH iy))
theorem yyo {k b:Nat}{f:Addr}{a:FuncData}{ps:List Str}{p pos:Pos}{c} (M:Mk X.K (A k) f) (F:FnOk X.prog X.w X.K X.mg X.base CX0 b f a ps (spI (ckX X A) 0 k c)) (g:X.mg x=some (.ref (A k))) (e:Binds X.K a ps []) (hr:Room (b+1) X.A:=by exact hr.mono (by omega)) (m:Nm x:=by exact ⟨by rfl',by rfl',by rfl'⟩) (d:Gl X x:=by rfl):ZO X A (.Call (.Name x p) [] [] pos) (yfB c yh) :=
 wO (ytj M F hr d g e .nil ykW m.d) (ynT yjI ymV)
end PX
namespace PX
open PySem L2 PySem.Spec PyProof.Rows KasS PXS
section
variable {X:Cx}{A:Nat->Addr}
theorem yhC {vs:List Value}{ns:List Int}(h:IntsAre vs ns):Vals (ns.map V.int) vs:=by
 induction h with
 | nil=>exact .nil
 | cons n t _ ih=>exact .cons ⟨t,rfl⟩ ih
variable {a:Expr}{xa:XE}{aa:XA}{pos p:Pos}{x:Str}{n:Nat}
end
end PX
namespace PX
open PySem L2 PySem.Spec PyProof.Rows KasS PXS
section
noncomputable def NF (X:Cx) (a:Addr):Prop:=∀ o u,X.H₀ a≠some (.frz o u)
theorem yEq {X:Cx}{f:List _}{σ:L2.St}{H:Hp}{s:Shared}{d:Addr}{g u1:HO}(I:L2.Inv X f σ H s) (v:H d=some g) (B:∀ xs,g≠.tup xs) (A:∀ y,g≠.own y) (nb:∀ ps,g≠.tbl ps) (m:NF X d)
  (w:ObjOk X.prog X.w H s.heap d g->ObjOk X.prog X.w H s.heap d u1):L2.Inv X f σ (upd H d u1) s:=by
 have i:∀ {b:Addr},H b=none->upd H d u1 b=none:=fun {b} e=>(yI fun z=>by simp_all).trans e
 refine ⟨I.ok,I.os,I.bare,⟨I.base.keep,I.base.slot,fun b o e n t=>i (I.base.free b o e n t),I.base.there,fun b xs e=>?_,fun b o u e=>?_,fun b ps e=>?_⟩,I.loc,I.cell,i I.free,fun x c e=>i (I.freeC x c e),fun p hp=>?_,fun b u e=>?_,I.len⟩
 .have:=I.base.tups b xs e
  exact (yI fun z=>by simp_all).trans this
 .have:=I.base.frzs b o u e
  exact (yI fun z=>by subst z;exact m o u e).trans this
 .obtain ⟨h,this⟩:=I.base.tbls b ps e
  exact ⟨h,(yI fun z=>by simp_all).trans this⟩
 .obtain ⟨h1,h2,r⟩:=I.pin p hp
  exact ⟨h1,i h2,r⟩
 .have l:∀ c y,H c=some _->upd H d u1 c=some (.own y):=fun c y q=>(yI fun z=>by simp_all).trans q
  have k:∀ c xs,H c=some _->upd H d u1 c=some (.tup xs):=fun c xs q=>(yI fun z=>by simp_all).trans q
  by_cases j:b=d
  .subst j
   rw [yB] at e
   cases e
   exact (w (I.hok b g v)).stay (fun _ _ _ q=>q) (fun c q=>l c b q) k
  .rw [yI j] at e
   exact (I.hok b u e).stay (fun _ _ _ q=>q) (fun c q=>l c b q) k
theorem yrs {P:Program}{w:World}{K:PySem.W.Frag}{tg:Expr}(d t:Addr) (ob:Obj) (kvs:List (Key×V)) {es:Array DictEntry}{ep:Nat}(n:ob.data=.dict es ep):Turn P w K tg (ItD d ob kvs) [t] t (fun i h=>h.IsKeyIter t d i kvs.length ep) where
 mem:=by simp
 obj:=fun i h st b p=>by
  have e:b=t:=by simpa using p
  subst e
  obtain ⟨o,e,c,q⟩:=st
  exact ⟨o,e,fun v z=>by rw [q] at z;cases z⟩
 keep:=fun i h h' st k=>st.at fun o e=>k t (by simp) o e
 item:=by
  intro X hP L hK hc i m s σ H E I C st Z
  subst hP L hK
  obtain ⟨r,S⟩:=Z
  obtain ⟨u,z,sy,ws,T,hD⟩:=I.hok d _ S
  obtain ⟨M,f⟩:=hD.dictAt
  obtain ⟨o',J,g,D,j,G⟩:=id f
  rw [u] at g;cases g
  rw [n] at j;cases j
  obtain ⟨l,F⟩:=yok T
  have lw:ws.length=kvs.length:=by have:=congrArg length l;simpa using this
  have A:i<ws.length:=by omega
  obtain ⟨f0,R,f2,f3,Y,O⟩:=C t (by simp)
  rw [<- lw] at st
  refine wpAny_pyNext_dict_item st f (k:=ws[i].1) (v:=ws[i].2) (List.getElem?_eq_getElem A) fun key h' B x sb=>?_
  have I1:L2.Inv X m σ H { s with heap:=h' }:=I.turned (t':=s.toks) (fun b o p e=>(sb.2 b p).trans e) f0 R f3 Y O
  obtain ⟨o,e,c,q⟩:=id x
  rw [lw] at x
  have hk:(kvs[i]'r).1=ws[i].1:=by
   have h1:(ws.map (·.1))[i]?=(kvs.map (·.1))[i]?:=by rw [l]
   rw [getElem?_map,getElem?_map,List.getElem?_eq_getElem A,List.getElem?_eq_getElem r] at h1
   exact (Option.some.inj h1).symm
  have Q:RelV (kV (kvs[i]'r).1) key:=by
   rw [hk]
   rcases ybj B with ⟨i,N,W,U⟩|⟨y,N,W,U⟩
   .rw [W,U];exact ⟨N,rfl⟩
   .rw [W,U];exact ⟨N,rfl⟩
  exact ⟨key,rfl,ypI (s:={ s with heap:=h' }) e c q (by decide) ⟨kV (kvs[i]'r).1,H,I1,Q,⟨rfl,_,List.getElem?_eq_getElem r,rfl⟩,x,fun b p=>(C b p).1⟩⟩
 done:=by
  intro X hP L hK hc i m s σ H E I C st Z
  subst hP L hK
  obtain ⟨r,S⟩:=Z
  subst r
  obtain ⟨u,z,sy,ws,T,hD⟩:=I.hok d _ S
  obtain ⟨M,f⟩:=hD.dictAt
  obtain ⟨o',J,g,D,j,G⟩:=id f
  rw [u] at g;cases g
  rw [n] at j;cases j
  obtain ⟨l,F⟩:=yok T
  have lw:ws.length=kvs.length:=by have:=congrArg length l;simpa using this
  obtain ⟨f0,R,f2,f3,Y,O⟩:=C t (by simp)
  rw [<- lw] at st
  exact wpAny_pyNext_dict_end (I.ok.hd hc) st f (by simp) fun h' eb=>⟨rfl,I.turned (t':=s.toks) (fun b o p e=>eb b o p e) f0 R f3 Y O⟩
 self:=fun _ _ _ _ _ st h=>wpAny_pyIter_keyiter st h
variable {X:Cx}{A:Nat->Addr}{tg a:Expr}{p pos:Pos}{xa:XE}
theorem yrt {n:TE}(y:PE X a n):PI X tg a (yxZ (NF X) n):=by
 intro f s σ H R I h
 refine thn (y f s σ H _ I h) fun v s1 ⟨x,M,i,L,B⟩=>?_
 obtain ⟨d,kvs,e,r,q⟩:=B
 subst e
 cases L
 have m:NF X d:=fun o u z=>by have:=i.base.frzs d o u z;simp_all
 obtain ⟨z,D,ws,J,G⟩:=id (i.hok d _ r)
 obtain ⟨ep,g⟩:=G.dictAt
 obtain ⟨ob,es,E,t,k,w⟩:=id g
 obtain ⟨l,F⟩:=yok J
 have lw:=by have:=congrArg length l;simpa using this
 have j:=yEq (u1:=.frz ob _) i r (fun _ z=>by cases z) (fun _ z=>by cases z) (fun _ z=>by cases z) m fun x=>⟨E,x⟩
 refine wpAny_pyIter_dict D g ?_
 refine ⟨s1.heap.objs.size,_,_,_,_,rfl,j.kept fun b o e=>Heap.get?_push_of_some _ e,yrs d _ ob kvs k,⟨_,Heap.get?_push_size _ rfl,rfl,by rw [lw];rfl⟩,fun b C=>?_,q ob m⟩
 have e:=by simpa using C
 subst e
 exact j.fpOk (Nat.le_refl _) (j.hok.fresh (Nat.le_refl _))
theorem yyp {rest:List Stmt}{i:TE}{g:TG}{tb:TS}(hp:PassesOwn (model X.prog X.w) X.A X.env X.xe) (n:X.calm=true) (k:PE X a i) (m:PG X tg g) (r:PSs X rest tb) (hs:∀ x,foldedSetIterable a X.env x=pure x):PS X (.For tg a rest [] pos) (yBe (NF X) i g tb):=by
 intro c s σ H D I h
 refine thn (ynG hp n (yrt k) m r hs c s σ H _ I h) fun f s' q=>?_
 cases f with
 | next =>
  obtain ⟨e,t,o,d,ob,kvs,l,j,q⟩:=q
  exact ⟨e,_,yEq o j (fun _ z=>by cases z) (fun _ z=>by cases z) (fun _ z=>by cases z) l fun x=>x.2,q⟩
 | brk=>exact q
 | cont=>exact q
 | ret u=>exact q
end
end PX
namespace PX
open PySem L2 PySem.Spec PyProof.Rows
section
variable {X:Cx}{A:Nat->Addr}
theorem yyq:MtR X "str.find" yqe:=by
 intro b s σ H x xs v us Q I f g h
 obtain ⟨z,c,rfl,rfl,hz,d,q⟩:=h
 obtain ⟨t,rfl⟩:=f
 obtain ⟨u,rfl,i,rfl⟩:=vals1 g
 rcases yqf z c with ⟨_,h2⟩|⟨r,h1,_⟩
 .exact absurd d h2
 .refine SC.find ?_
  have e:Txt.find z ⟨#[c]⟩=(z.cps.toList.idxOf c:Int):=by
   unfold Txt.find
   rw [h1]
  rw [e]
  exact ⟨.int _,H,I.tok _,⟨_,rfl⟩,q⟩
variable {pos p apos:Pos}{x m:Str}{e:Expr}{es:List Expr}{aa:XA}{n:Nat}
theorem yBs {a:Addr}{ss:List Str}(f:X.mg x=some (.ref a)) (c:KTp X.K a (ss.map V.str)) (nm:Nm x:=by exact ⟨by rfl',by rfl',by rfl'⟩) (d:Gl X x:=by rfl):ZE X A (.Name x pos) (xC (.tup (ss.map PV.str))):=wE (ymJ d f nm.d) (yuy c)
structure yuJ (K:PySem.W.Frag) (C:Addr) (m:Str) (f:Addr):Prop where
 rd:PySem.W.readsIn K C (.type "type")=true
 fc:PySem.W.findCls K (.ref C) (.type "type") m=some (.val (.ref f))
 sp:PySem.W.specialIn K (.ref C) "__getattribute__" = some (some (.builtin "type.__getattribute__"))
 kp:keepIn K (.ref f)=true
theorem yyr {C f:Addr}{k:Nat}{l:FuncData}{ps:List Str}{sp:Sp}{E:XK}{t:TA}{pl:Sem Bool}{CX:CXT}(c:yuJ X.K C m f) (J:Gl X x) (N:X.mg x=some (.ref C)) (F:FnOk X.prog X.w X.K X.mg X.base CX k f l ps sp) (y:Room k X.A) (O:Binds X.K l ps []) (G:yfT CX X E) (L:PA X (e::es) t)
  (P:(x == "__debug__")=false)
  (i:starEach (e::es) X.env=(false,eval e X.env)::starEach es X.env) (g:(backTo pos (starEach es X.env)).any (·.1)=false)
  (B:eval (.Call (.Attribute (.Name x p) m apos) (e::es) [] pos) X.env=do
   let q <- eval (.Name x p) X.env
   standAt apos.atName
   let (f,first) <- holding [q] (getMethod q m pl)
   callWith pos f first (backTo pos (starEach (e::es) X.env)) (backToKw pos (keywordEach [] X.env))) :
  PE X (.Call (.Attribute (.Name x p) m apos) (e::es) [] pos) (ytg sp [] E t):=by
 intro b s σ H Q I h
 refine PySem.W.methodCall_KW (thn (ymJ J N P b s σ H (fun v j=>v=.ref C/\j=H) I ⟨rfl,rfl⟩) fun u s1 ⟨v,j,d,z,w,D⟩=>?_) B
 subst w D
 obtain rfl:u=Value.ref C:=z
 refine PySem.W.method_cls d.kIn c.sp (PySem.W.cls_value d.kIn c.rd c.fc rfl ?_)
 have d:=d.tok (s1.toks+1)
 refine PySem.W.callWith_K I.ok.mod.kin c.kp (thn (L pos b _ σ j _ d h) fun us s2 ⟨vs,R,o,r,M⟩=>⟨o.kIn,?_⟩) i g
 exact ykO F y O .nil G o r M
theorem yys {C f:Addr}{d k:Nat}{g:FuncData}{ps:List Str}{j} {pl:Sem Bool}{o:Expr}{sp:Pos}(c:yuJ X.K C m f) (l:X.mg x=some (.ref C)) (F:FnOk X.prog X.w X.K X.mg X.base CX0 d f g ps (spJ (ckX X A) n k j)) (q:Binds X.K g ps []) (h:ZA X A es n aa) (nm:Nm x:=by exact ⟨by rfl',by rfl',by rfl'⟩) (u:Gl X x:=by rfl) (hr:Room d X.A:=by exact hr.mono (by omega)) (s:PE X o (ypw 0):=by exact yiM rfl (by first|exact Or.inl rfl|exact Or.inr (Or.inl rfl)) (by rfl') (by rfl')) (a:starEach (o::es) X.env=(false,eval o X.env)::starEach es X.env:=by rfl) (b:(backTo pos (starEach es X.env)).any (·.1)=false:=by rfl) (r:eval (.Call (.Attribute (.Name x p) m apos) (o::es) [] pos) X.env=(do
   let i <- eval (.Name x p) X.env
   standAt apos.atName
   let (f,first) <- holding [i] (getMethod i m pl)
   callWith pos f first (backTo pos (starEach (o::es) X.env)) (backToKw pos (keywordEach [] X.env))):=by rfl) (t:swapsWith (.Call (.Attribute (.Name x p) m apos) (o::es) [] pos) none sp.line X.env=pure false:=by rfl):ZF X A (.Expr (.Call (.Attribute (.Name x p) m apos) (o::es) [] pos) sp) (xBI k j aa) :=
 wF (yjs (yyr c u l F hr q ykW (yfx s h.of a) nm.d a b r) t) (yyc sA h.len)
end
section
variable {P:Program}{w:World}{K:PySem.W.Frag}{mg:Str->Option Value}{base:Heap}{A:Nat->Addr}
theorem yFO {x b:Str}{st:Stmt}{f:Addr}{i:FuncData}{N ps:List Str}{k g n:Nat}{s:XS}(F:Fun K x b st f i) (S:yek N ps (ybA st)) (m:ps.length=n+1) (l:n+1<=N.length)
  (h:∀ c e outer d H E,Room k (e.deeper (envOfC b (ybA st) d.heap.objs.size f c))->ZFs (ytk CX0 P w K mg base N b (ybA st) f c e outer d H E).nox A (yfy st) s) :
  FnOk P w K mg base CX0 (k+1) f i ps (spJ ⟨K,A⟩ n g (ymr N.length g s)) :=
 F.ok S (fun _ _ _ _ h=>(yyb h).trans m.symm) fun c e outer d H vs Q E o j=>⟨_,(h c e outer d H E o).of,yrd l sF j⟩
end
end PX
namespace PX
open PySem L2 PySem.Spec PyProof.Rows
open Builtin Builtin.Str in
section
variable {prog:Program}{w:World}{A:Around}{E:Value->Shared->Prop}{s:Shared}
theorem ype {x y:Str}{t u:Tok}{Q:Value->Shared->Prop}(e:(y.length == 0)=false) (hz:x.length+2<=sizeLine)
  (h:∀ l k,l.map (·.1)=Txt.split x y->Q (.ref s.heap.objs.size) { s with heap:=s.heap.push { cls:=.type "list",data:=.seq (strValues l).toArray },toks:=k }) :
  wpAny (model prog w) A (call (.builtin "str.split") [.str x t,.str y u]) Q E s:=by
 have h2:(partsBetween x (occurrences x y 0 x.length (x.length+1)) y.length).length<=sizeLine:=by
  have:=StrLaws.occ_length_le x y 0 x.length (x.length+1)
  rw [length_partsBetween]
  omega
 by_cases b:(decide (x.length<y.length) || decide (strKind x<strKind y))=true
 .exact call_meets F.slot_str_split (typeIs_str _ _ _) F.entry_str_split (F.args_str_split_2 _ _) (meets_str_split_cannot_occur x y t u b) (h [(x,t)] s.toks (if_pos b).symm)
 .have c:(decide (x.length<y.length) || decide (strKind x<strKind y))=false:=by simpa using b
  by_cases d:(occurrences x y 0 x.length (x.length+1)).isEmpty=true
  .exact call_meets F.slot_str_split (typeIs_str _ _ _) F.entry_str_split (F.args_str_split_2 _ _) (meets_str_split_not_found x y t u c e d) (h [(x,t)] s.toks ((if_neg b).trans (if_pos d)).symm)
  .refine call_meets F.slot_str_split (typeIs_str _ _ _) F.entry_str_split (F.args_str_split_2 _ _) (meets_str_split_sep x y t u c e (by simpa using d) (by omega) h2) ?_
   rw [strsFrom_eq]
   exact h _ _ ((numbered_texts _ _).trans ((if_neg b).trans (if_neg d)).symm)
end
theorem yon z:Txt.split z " " = ywj z:=by
 have e:(" ":Str)=⟨#[32]⟩:=rfl
 have h:=yhN (Txt.split z " ") (fun q=>by have:=split_pos z " ";rw [q] at this;simp at this) (by exact StrLaws.split_free z 32)
 rw [StrLaws.join_split] at h
 exact h.symm
theorem ylL:∀ l,Vals ((l.map (·.1)).map V.str) (strValues l)
 | []=>.nil
 | (_,t)::l=>.cons ⟨t,rfl⟩ (ylL l)
section
variable {X:Cx}{A:Nat->Addr}
theorem yuK:MtR X "str.split" ywk:=by
 intro c s σ H x xs v us Q I i j h
 obtain ⟨z,rfl,rfl,hz,q⟩:=h
 obtain ⟨t,rfl⟩:=i
 obtain ⟨u,rfl,f⟩:=vals1 j
 obtain ⟨t',rfl⟩:=f
 have hs:z.length+2<=sizeLine:=by simp only [PySem.sizeLine_eq];omega
 refine ype (rfl) hs fun l k e=>?_
 have g:=e.trans (yon z)
 have d:=split_le z " "
 rw [yon] at d
 refine ⟨.ref s.heap.objs.size,_,I.laid (fun b o e=>Heap.get?_push_of_some _ e) (Nat.le_refl _) ?_,rfl,q _ (I.hok.fresh (Nat.le_refl _))⟩
 exact ⟨by rw [length_map];exact Nat.le_trans d hs,_,0,g ▸ ylL l,Heap.get?_push_size _ rfl⟩
end
end PX
namespace PX
open PySem L2 PySem.Spec PyProof.Rows
section
variable {X:Cx}{A:Nat->Addr}{tg a:Expr}{p pos:Pos}{xa:XE}{x:Str}{es:List Expr}{aa:XA}{n:Nat}
theorem yru {f:Addr}{g:FuncData}{ps:List Str}{c k:Nat}{e:Fn}(M:Mk X.K (A k) f) (F:FnOk X.prog X.w X.K X.mg X.base CX0 c f g ps (spE (ckX X A) (n+1+1) e)) (h:X.mg x=some (.ref (A k))) (j:Binds X.K g ps []) (d:ZA X A (a::es) (n+1) aa) (hr:Room (c+1) X.A:=by exact hr.mono (by omega)) (m:Nm x:=by exact ⟨by rfl',by rfl',by rfl'⟩) (l:Gl X x:=by rfl) (i:starEach (a::es) X.env=(false,eval a X.env)::starEach es X.env:=by rfl) (b:(backTo pos (starEach es X.env)).any (·.1)=false:=by rfl):ZE X A (.Call (.Name x p) (a::es) [] pos) (yje k e aa) :=
 wE (ypV M F hr l h j .nil ykW d.of m.d i b) (yrh sA d.len)
theorem ykf (hc:X.calm=true):yfg X (.builtin "any") yFo:=by
 intro pins s σ H xs us Q I r h
 obtain ⟨p,bs,rfl,hp,q⟩:=h
 obtain ⟨u,rfl,rx⟩:=vals1 r
 cases rx
 obtain ⟨its,n,rv,e,hz⟩:=I.lst hp
 have eb:=yjA rv
 subst eb
 have hl:s.heap.IsList p (bs.map Value.bool).toArray:=⟨_,e,rfl,n,rfl⟩
 have hlt:p<s.heap.objs.size:=Heap.lt_size e
 refine call_any_walk (wpAny_pyIter_list hl ?_)
 refine ⟨s.heap.objs.size,[s.heap.objs.size,p],[s.heap.objs.size],(bs.map Value.bool).toArray.size,_,_,fun i=>(bs[i]?).getD false,rfl,Walks.list (A:=X.A.in1) (I.ok.hd hc) _ p (ne_of_lt hlt) _,
  ⟨⟨_,Heap.get?_push_size _ rfl,rfl,rfl⟩,hl.push _⟩,fun i v s' Q' E' hP hQ=>?_,fun h' tk hk=>?_⟩
 .have hP:(bs.map Value.bool)[i]?=some v:=by simpa using hP
  rw [getElem?_map] at hP
  cases eb:bs[i]? with
  | none=>rw [eb] at hP;cases hP
  | some b =>
   rw [eb] at hP
   cases hP
   simp only [eb,Option.getD_some] at hQ
   exact wpAny_truthy_bool hQ
 .have ea:((List.range (bs.map Value.bool).toArray.size).any fun i=>(bs[i]?).getD false)=bs.any id:=by
   rw [size_toArray,length_map]
   exact LSm.range_any bs
  rw [ea]
  exact ⟨.bl _,H,I.kept (t':=tk) fun b o eo=>hk b o (fun hm=>by rw [List.mem_singleton.mp hm] at eo;exact absurd (Heap.lt_size eo) (lt_irrefl _)) (Heap.get?_push_of_some _ eo),rfl,q⟩
theorem yrv {elt iter:Expr}{t:Pos}{scope:Scope}{k:Pos}{xe:XE}{ix:List Nat} j (u:ZE X A iter xa) (q:∀ l C d e fp c,ZE (cxC X scope l C (x::j) d e fp c) A elt xe) (r:X.calm=true:=by rfl) (o:FrOk X scope ix j:=by repeat' first|exact True.intro|exact rfl|refine And.intro ?_ ?_) (m:(x::j).Nodup:=by rfl') (h:scope.kind=.function:=by rfl) (i:∀ y∈scope.names,y.2≠.cell:=by rfl') (f:∀ y∈scope.names,y.2=.local->scope.names.lookup y.1=some .local:=by rfl') (g:∀ y∈scope.names,y.2=.free->y.1∈j:=by rfl') (s:scope.names.lookup x=some .local:=by rfl) (hs:∀ v,foldedSetIterable iter X.env v=pure v:=by exact fun _=>rfl):ZO X A (.ListComp elt [⟨.Name x t,iter,[],0⟩] scope k) (yew xa ix xe) :=
 wO (yyf (ykb ix j r (yjt u.of) o (fun l C d e fp c=>(q l C d e fp c).of) (fun _ _ _ _ _ _=>.nil) m h i f g s hs)) (ylF ix sE sE)
end
end PX
namespace PX
open PySem L2 PySem.Spec PyProof.Rows KasS PXS
section
variable {X:Cx}{A:Nat->Addr}{xa:XE}{x:Str}
theorem yyt {elt iter:Expr}{p:Pos}{scope:Scope}{i:Pos}{xe:XE}{ix:List Nat} l (E:ZE X A iter xa) (t:∀ m C c e fp b,ZE (cxC X scope m C (x::l) c e fp b) A elt xe) (D:X.calm=true:=by rfl) (n:FrOk X scope ix l:=by repeat' first|exact True.intro|exact rfl|refine And.intro ?_ ?_) (o:(x::l).Nodup:=by rfl') (k:scope.kind=.function:=by rfl) (j:∀ y∈scope.names,y.2≠.cell:=by rfl') (f:∀ y∈scope.names,y.2=.local->scope.names.lookup y.1=some .local:=by rfl') (g:∀ y∈scope.names,y.2=.free->y.1∈l:=by rfl') (G:scope.names.lookup x=some .local:=by rfl) (hs:∀ v,foldedSetIterable iter X.env v=pure v:=by exact fun _=>rfl):ZO X A (.ListComp elt [⟨.Name x p,iter,[],0⟩] scope i) (ylG xa ix xe):=by
 have u:PE X (.ListComp elt [⟨.Name x p,iter,[],0⟩] scope i) (ywl (NF X) (cE (ckX X A) xa) ix (cE (ckX X A) xe)):=by
  intro b s σ H Q I h
  refine thn (yyf (ykb ix l D (yrt E.of) n (fun m C c e fp b=>(t m C c e fp b).of) (fun _ _ _ _ _ _=>.nil) o k j f g G hs) b s σ H _ I h) fun v s1 ⟨y,J,B,w,d,ob,kvs,r,F,q⟩=>?_
  exact ⟨y,_,yEq B F (fun _ z=>by cases z) (fun _ z=>by cases z) (fun _ z=>by cases z) r fun x=>x.2,w,q⟩
 exact wO u (yrj ix sE sE)
end
end PX
namespace PX
open PySem L2 PySem.Spec PyProof.Rows
variable {X:Cx}{A:Nat->Addr}{x y:Str}{py spos:Pos}{iy:Nat}
theorem yrw {elt iter:Expr}{r:Pos}{scope:Scope}{g:Pos}{xa:XE}{xe:XE}{ix:List Nat} j (z:ZE X A iter xa) (u:∀ k C c d fp b,ZE (cxC X scope k C (x::j) c d fp b) A elt xe) (t:X.calm=true:=by rfl) (o:FrOk X scope ix j:=by repeat' first|exact True.intro|exact rfl|refine And.intro ?_ ?_) (l:(x::j).Nodup:=by rfl') (i:scope.kind=.function:=by rfl) (h:∀ y∈scope.names,y.2≠.cell:=by rfl') (e:∀ y∈scope.names,y.2=.local->scope.names.lookup y.1=some .local:=by rfl') (f:∀ y∈scope.names,y.2=.free->y.1∈j:=by rfl') (s:scope.names.lookup x=some .local:=by rfl) (hs:∀ v,foldedSetIterable iter X.env v=pure v:=by exact fun _=>rfl) (w:X.N.Nodup:=by exact nd) (n:X.N[iy]?=some y:=by rfl) (m:Loc X.env.scope y:=by first|exact Or.inl rfl|exact Or.inr rfl) (q:X.fn y=true\/X.env.scope.names.lookup y=some .local:=by exact Or.inl rfl) (p:swapsWith (.ListComp elt [⟨.Name x r,iter,[],0⟩] scope g) (some (.Name y py)) spos.line X.env=pure true:=by rfl):ZS X A (.Assign [.Name y py] (.ListComp elt [⟨.Name x r,iter,[],0⟩] scope g) spos) (ybs (ygI (yew xa ix xe)) (yp iy)) :=
 wS (yyg (ykc ix j t (yjt z.of) o (fun k C c d fp b=>(u k C c d fp b).of) (fun _ _ _ _ _ _=>.nil) l i h e f s hs w n m q p)) (yhD (ymU (ylF ix sE sE)) (yeH iy))
end PX
namespace L2
open PySem PySem.Spec PyProof.Rows
def yFp (K:PySem.W.Frag) (n:Nat) (t:TGs):TG:=fun v σ H Q=>∃ a xs,v=.ref a/\SqL K H a xs/\xs.length=n/\t xs σ H Q
theorem yBt {X:Cx}{es:List Expr}{k:Nat}{pos:Pos}{t:TGs}{n:Nat}(w:X.calm=true) (h:PGs X es t)
  (x:(assignEach es X.env).length=n:=by rfl) (g:(assignEach es X.env).findIdx? (·.1)=none:=by rfl):PG X (.Tuple es k pos) (yFp X.K n t):=by
 intro d s σ H v u Q I r f
 obtain ⟨a,xs,i,p,hl,f⟩:=f
 subst i
 cases r
 obtain ⟨its,j,⟨o,m,e,i,z,y⟩,hz⟩:=I.list p
 refine wpAny_bind (wpAny_standAt ?_)
 unfold unpack
 rw [show (assignEach es X.env).length=its.toArray.size by simp [x,<- hl,j.length],g]
 refine wpAny_bind (wpAny_holding (PySem.W.kun_itemsOf (I.ok.hd w) ⟨o,e,i,m,y⟩ fun h' q=>?_))
 have l:=I.kept (t':=s.toks) fun b o e=>q b o (ne_of_lt (Heap.lt_size e)) e
 exact h d _ σ H xs _ Q l (by simpa using j) f
end L2
namespace PX
open PySem L2 PySem.Spec PyProof.Rows
def yyu (n:Nat) (g:XGs):XG:=fun x ρ=>match x with|.lst xs=>if xs.length=n then g xs ρ else none|_=>none
theorem yBu {ρ:PSt}{n:Nat}{g:XGs}{xs:List PV}:yyu n g (.lst xs) ρ=if xs.length=n then g xs ρ else none:=id rfl
theorem yuL {K:Ck}{n:Nat}{f:TGs}{ys:XGs}(b:yoT K f ys):ypx K (yFp K.K n f) (yyu n ys):=by
 intro h W ρ ρ' σ x v Q g r e q
 unfold yyu at e
 split at e
 .rename_i xs
  split at e
  .rename_i hl
   obtain ⟨a,vs,rfl,hs,d⟩:=r
   exact ⟨a,vs,rfl,SqL.of (g.ok.le _ _ hs),by rw [d.len];exact hl,b h W ρ ρ' σ xs vs Q g d e q⟩
  .cases e
 .cases e
theorem yBv {X:Cx}{A:Nat->Addr}{es:List Expr}{pos:Pos}{n:Nat}{ys:XGs}{q:Nat}(h:ZGs X A es ys) (d:X.calm=true:=by rfl) (c:(assignEach es X.env).length=n:=by rfl) (b:(assignEach es X.env).findIdx? (·.1)=none:=by rfl):ZG X A (.Tuple es q pos) (yyu n ys):=wG (yBt d h.of c b) (yuL sGs)
end PX
namespace PX
open PySem L2
variable {K:Ck}
section
variable {ta:TE}{ea:XE}{t:TS}{s:XS}
def yjg (e:XE) (g:XG) (s:XS):XS:=fun ρ h=>ob (e ρ h) fun x h1=>match x with
 | .loc n=>(match h1[n]? with
  | some (.dct ks xs)=>ob (ydZ g s (ks.map yhM) ρ (h1.set n (.fz ks xs))) fun o h2=>(match o with|.nx ρ'=>some (.nx ρ',h2.set n (.dct ks xs))|.rt x=>some (.rt x,h2)|_=>none)
  | _=>none)
 | _=>none
theorem yrx {NF:Addr->Prop}{g:TG}{y:XG}(a:ybM K ta ea) (b:ypx K g y) (c:yeG K t s):yeG K (yBe NF ta g t) (yjg ea y s):=by
 intro Z W ρ σ D o h' H e q
 obtain ⟨x,h1,R,u⟩:=yg e
 refine a Z W ρ σ _ x h1 H R fun v F S j X=>?_
 subst S
 split at u
 .rename_i n
  split at u
  .rename_i ks xs E
   obtain ⟨o1,h2,P,B⟩:=yg u
   obtain ⟨p,ev,G,O,us,hp,hl,M⟩:=j.ok.loc E X
   have hz:(ks.zip us).length=ks.length:=by simp_all
   refine ⟨p,_,ev,hp,fun ob U=>?_⟩
   have lf:Le K F (yjS F n p _ (.fz ks xs)):=yeJ j.ok E G O ⟨O,ob,us,yB,hl,M⟩
   have I:=(List.getElem?_eq_some_iff.mp E).1
   have f:∀ h,Lf K (yjS F n p _ _) h->h.h[n]?=some _/\h.H p=some (.frz ob (.dK (ks.zip us))):=fun h l=>by
    obtain ⟨m,A⟩:=l.fz n ks xs (getElem?_set_self I)
    exact ⟨m,(A p G).trans yB⟩
   refine yux b c (H.step (j.trans lf)) ?_ ⟨fun i h l w r=>?_,fun i h v' H2 l w r Q=>?_,fun h l w=>?_⟩ P
   .split at B
    .cases B
     intro h L Y l' g'
     obtain ⟨m,A⟩:=f h l'
     have k:=ydS l'.pre G
     obtain ⟨C,_⟩:=g'.ok.at_ n _ p m k
     have at':NdAt K h.F (upd h.H p _) h.m (.dct ks xs) p:=⟨C,us,yB,hl,RepL.mono l'.fs l'.pre _ _ M⟩
     refine ⟨p,ob,_,U,A,?_⟩
     have N:=ywi j E (fun _ _ z=>by cases z)
     refine q (yjS h n p _ _) L (by rw [<- Y];rfl) ⟨j.fs.trans (lf.fs.trans l'.fs),j.pre.trans (lf.pre.trans l'.pre),?_⟩ (g'.thaw m k C at' ?_)
     .exact yrb g'.ok (j.pre.trans (lf.pre.trans l'.pre)) (j.lf.trans (lf.lf.trans l')).fz k N
     .exact fun J xs' z=>N _ _ (H.le.fz n J xs' z).1
    .cases B
     exact q
    .cases B
   .rw [length_map] at r
    exact ⟨by rw [hz];exact r,(f h l).2⟩
   .rw [length_map] at r
    obtain ⟨m,kv,A,C⟩:=Q
    refine ⟨m,_,?_,C ▸ ylD _⟩
    obtain ⟨z4,T⟩:=List.getElem?_eq_some_iff.mp A
    rw [getElem?_map,List.getElem?_eq_getElem r,<- T,List.getElem_zip]
    rfl
   .exact ⟨by rw [length_map,hz],(f h l).2⟩
  .cases u
 .cases u
end
end PX
namespace PX
open PySem L2 PySem.Spec PyProof.Rows
theorem yuM {X:Cx}{A:Nat->Addr}{a c:Expr}{xa:XE}{pos:Pos}{rest:List Stmt}{s:XS}{y:XG}(g:ZE X A a xa) (d:ZG X A c y) (e:ZSs X A rest s) (hp:PassesOwn (model X.prog X.w) X.A X.env X.xe:=by exact PassesOwn.never) (f:X.calm=true:=by rfl) (hs:∀ x,foldedSetIterable a X.env x=pure x:=by exact fun _=>rfl):ZS X A (.For c a rest [] pos) (yjg xa y s) :=
 wS (yyp hp f g.of d.of e.of hs) (yrx sE sG sS)
end PX
namespace My
open PySem L2 PX
theorem yFq:("":Str).length=0:=by rfl'
theorem yBw:(" ( let c ":Str).length=9:=by rfl'
theorem yBx:(" )":Str).length=2:=by rfl'
theorem yBy:(" ; ":Str).length=3:=by rfl'
theorem yBz:(" ; put a c":Str).length=10:=by rfl'
theorem yBA:(" ; put a h ; take b a ; throw x c ) on x e ( ":Str).length=45:=by rfl'
theorem yBB:(" ; take b a":Str).length=11:=by rfl'
theorem yBC:(" ; take b a ; if b ( ) else ( wait )":Str).length=36:=by rfl'
theorem yBD:(" ; take b a ; if b ( minus b b h ; put a b ; put d h ) else ( wait )":Str).length=68:=by rfl'
theorem yyv:(" ; take b a ; if b ( throw y b ) else ( )":Str).length=41:=by rfl'
theorem yyw:(" ; take b a ; plus b b h ; put a b":Str).length=34:=by rfl'
theorem yyx:(" ; take b a ; put a h ; if b ( wait ) else ( ) ) or":Str).length=51:=by rfl'
theorem yyy:(" ; take b a ; take e d ; less f b e ; if f ( put a e ; put d b ) else ( )":Str).length=73:=by rfl'
theorem yyz:(" ; take f d )":Str).length=13:=by rfl'
theorem yyA:("abcdefgh":Str).length=8:=by rfl'
theorem yyB:("either ( ":Str).length=9:=by rfl'
theorem yEr:("let a ":Str).length=6:=by rfl'
theorem yyC:("let c ":Str).length=6:=by rfl'
theorem yEs:("let d ":Str).length=6:=by rfl'
theorem yyD:("try ( ":Str).length=6:=by rfl'
section
def sl_ (s:String):Array (Lean.TSyntax `Lean.Parser.Tactic.simpLemma):=(s.splitOn " ").toArray.map fun s=>⟨Lean.mkNode `Lean.Parser.Tactic.simpLemma #[Lean.mkNullNode,Lean.mkNullNode,Lean.mkIdent s.toName]⟩
local macro_rules | `(tactic| simp_all? only [$ls,*])=>`(tactic| simp only [$(sl_ "ybL yDz yAF yAG yAH x_c yDB yDC yFH yFh yxM yvZ yAI yDD yFI yDE yFJ ytW yAJ yDF yDG yCJ yDH yDI x_call yFK yDJ yCK yxN yAK yAL yhG yoY yDK yqH yqI yAM ytX yAN yAO yAP yxO yDL yDM yDN yDO ytY yDP yDQ x_i yzw yjP ylv yDR yDS yDT yDU yDV yDW yAR yqJ yeA yDX ydE yDY yDZ yAS yxP yEa yEb yAT ytZ yds yAU yAV yAW yxQ yqK yxR ywa yDA bind_some Option.bind_none List.set_cons_zero List.set_cons_succ length_cons length_nil decide_eq_true_eq Bool.not_eq_true' decide_eq_false_iff_not if_true if_false ite_true ite_false and_self Int.reducePow Int.reduceToNat Int.reduceLT Int.reduceLE Int.reduceNeg Int.reduceAdd Int.reduceSub Nat.reduceLT Nat.reduceLeDiff Nat.reduceAdd true_and and_true reduceIte Nat.reduceEqDiff eq_self yFj yFN yEe yEf yEg yEh Int.reduceEq Bool.not_true Bool.not_false yBw yBx yBy yBz yBA yBB yBC yBD yyv yyw yyx yyy yyz yyA yyB yyC yyD"),*,$ls,*])
local macro_rules | `(tactic| symm)=>`(tactic| simp_all? only [ybL])
noncomputable def tbO (cs:List Nat):List (Nat×Nat×Bool):=cs.flatMap fun i=>cs.map fun j=>(i,j,i == j)
def yeo:List (Nat×Nat×Bool):=tbO [1,2,3,4,5,6,7,8,9]
def yfs:List PV->AH->Option (Nd×AH):=ymr 1 11 (yl (ycr [11] 0 "stack" (ygI (ydY (yc (ygI (ync)) (yh))))) (ycr [11] 0 "last_seen" (ygI (ync))))
def yep:Fn:=ybk 4 (yl (ybs (xOp (ybC) (ybb [11] "stack" (yd 0)) (xUn ytL (xC (.int 1)))) (yp 3)) (yiz (yd 3) (yd 1) (yd 2)))
def yec:Fn:=ybk 3 (yl (yjZ true (ybb [11] "stack" (yd 0)) (yp 2) (ybD (yr (yuh false (yd 1) (yd 2))) (yQ (yfk (yd 2) (yd 1))) (yM))) (yQ (xC .non)))
def yeq:Fn:=ybk 1 (yZ (xBM yfj (yfZ) (ybb [11] "stack" (yd 0)) (yc (ygI (ync)) (yh))))
def ydI:Fn:=ybk 3 (yl (ybs (xBM yfj (ygY) (ybb [11] "stack" (yd 0)) (yh)) (yp 1)) (yl (ybs (xOp (ybC) (ybb [11] "stack" (yd 0)) (xUn ytL (xC (.int 1)))) (yp 2)) (yZ (xBM yqZ (yBc) (yd 2) (yc (yd 1) (yh))))))
def yfa:Fn:=ybk 1 (yZ (xBM yfj (ygY) (ybb [11] "stack" (yd 0)) (yh)))
def ygb:Fn:=ybk 3 (yiz (ybb [11] "last_seen" (yd 0)) (yd 1) (yd 2))
def ygc:Fn:=ybk 1 (yQ (xFz (yjc (ybb [11] "last_seen" (yd 0)))))
def yer:Fn:=ybk 2 (yl (ybs (xOp (ybC) (ybb [11] "stack" (yd 0)) (xC (.int 0))) (yp 1)) (yQ (xFz (yjc (yd 1)))))
def yhp:Fn:=ybk 3 (yl (ybD (yr (xOp (oEq) (yd 0) (xC (.str "plus")))) (yQ (xOp oMod (xOp yfi (yd 1) (yd 2)) (xC (.int 18446744073709551616)))) (yM)) (yl (ybD (yr (xOp (oEq) (yd 0) (xC (.str "minus")))) (yQ (xOp oMod (xOp yvX (yd 1) (yd 2)) (xC (.int 18446744073709551616)))) (yM)) (yl (ybD (yr (xOp (oEq) (yd 0) (xC (.str "times")))) (yQ (xOp oMod (xOp yxG (yd 1) (yd 2)) (xC (.int 18446744073709551616)))) (yM)) (yl (ybD (yr (xOp (oEq) (yd 0) (xC (.str "less")))) (yQ (xIf (yr (xOp (oLt) (yd 1) (yd 2))) (xC (.int 1)) (xC (.int 0)))) (yM)) (yQ (xIf (yr (xOp (oEq) (yd 1) (yd 2))) (xC (.int 1)) (xC (.int 0))))))))
def yed:Fn:=ybk 1 (yQ (yfh (xCB (yiZ yeo) (yc (yd 0) (yc (xC (.ty "int")) (yh)))) (ytu (xCB (yiZ yeo) (yc (yd 0) (yc (xC (.ty "bool")) (yh)))))))
def ycS:Fn:=ybk 1 (yQ (yfh (yW yed (yc (yd 0) (yh))) (yfn (oLe) (oLt) (xC (.int 0)) (yd 0) (xC (.int 18446744073709551616)))))
def yde:Fn:=ybk 2 (yQ (xCB (yxJ) (yc (xFz (yel (xIS (yd 0)) [1] (xOp (yCH) (yd 0) (yd 1)))) (yh))))
def yes:Fn:=ybk 2 (yl (ybD (xOr (yjG (yr (yfn (oLe) (oLe) (xC (.int 1)) (xCB (ymY) (yc (yd 0) (yh))) (xC (.int 20))))) (yjG (yr (yW yde (yc (yd 0) (yc (xC (.str "0123456789")) (yh))))))) (yQ (xC .non)) (yM)) (yl (ybD (yqj (yr (xOp (oEq) (xOp (yAx) (yd 0) (xC (.int 0))) (xC (.str "0")))) (yr (xOp (oNe) (yd 0) (xC (.str "0"))))) (yQ (xC .non)) (yM)) (yl (ybs (xCB (yqE) (yc (yd 0) (yh))) (yp 1)) (yQ (xIf (yr (xOp (oLt) (yd 1) (xC (.int 18446744073709551616)))) (yd 1) (xC .non))))))
def yhT:Fn:=ybk 1 (yQ (xOp (ysQ false) (yd 0) (xC (.tup [.str "plus",.str "minus",.str "times",.str "less",.str "same"]))))
def yhU:Fn:=ybk 1 (yQ (yfh (xOp (oEq) (xCB (ymY) (yc (yd 0) (yh))) (xC (.int 1))) (xOp (yCH) (yd 0) (xC (.str "abcdefgh")))))
def ydJ:Fn:=ybk 1 (yQ (xBM isStr (ymZ) (xC (.str "abcdefgh")) (yc (yd 0) (yh))))
def yhV:Fn:=ybk 1 (yQ (yfh (yfn (oLe) (oLe) (xC (.int 1)) (xCB (ymY) (yc (yd 0) (yh))) (xC (.int 8))) (yW yde (yc (yd 0) (yc (xC (.str "abcdefghijklmnopqrstuvwxyz")) (yh))))))
def yeN:List PV->AH->Option (Nd×AH):=ymr 3 12 (yl (ycr [12] 0 "held" (ygI (yhm (yX) (yc (yd 1) (yh))))) (yl (ycr [12,14] 0 "width" (yd 2)) (ycr [12] 0 "log" (ygI (yfB yfs (yh))))))
def yY:Fn:=ybk 2 (yQ (xOp (ybC) (ybb [12] "held" (yd 0)) (yW ydJ (yc (yd 1) (yh)))))
def ybT:Fn:=ybk 3 (yea (ybb [12] "held" (yd 0)) (yW ydJ (yc (yd 1) (yh))) (yd 2))
def ybH:Fn:=ybk 2 (yQ (xOp oMod (yj 12 "held_in" yY (yd 0) (yc (yd 1) (yh))) (ybb [12,14] "width" (yd 0))))
def ybX:Fn:=ybk 5 (yZ (yj 12 "hold" ybT (yd 0) (yc (yd 2) (yc (yW yhp (yc (yd 1) (yc (yj 12 "held_in" yY (yd 0) (yc (yd 3) (yh))) (yc (yj 12 "held_in" yY (yd 0) (yc (yd 4) (yh))) (yh))))) (yh)))))
def ycG:Fn:=ybk 3 (yZ (yj 11 "write" yep (ybb [12] "log" (yd 0)) (yc (yj 12 "box_at" ybH (yd 0) (yc (yd 1) (yh))) (yc (yj 12 "held_in" yY (yd 0) (yc (yd 2) (yh))) (yh)))))
def yda:Fn:=ybk 2 (yQ (xOp (yxI) (yj 11 "own" yec (ybb [12] "log" (yd 0)) (yc (yj 12 "box_at" ybH (yd 0) (yc (yd 1) (yh))) (yh))) (xC .non)))
def ycj:Fn:=ybk 3 (yZ (yj 12 "hold" ybT (yd 0) (yc (yd 1) (yc (yj 11 "own" yec (ybb [12] "log" (yd 0)) (yc (yj 12 "box_at" ybH (yd 0) (yc (yd 2) (yh))) (yh))) (yh)))))
def ycx:Fn:=ybk 5 (yl (ybs (yj 12 "box_at" ybH (yd 0) (yc (yd 2) (yh))) (yp 4)) (yl (yZ (yj 11 "see" ygb (ybb [12] "log" (yd 0)) (yc (yd 4) (yc (xOp (ybC) (yd 3) (yd 4)) (yh))))) (yZ (yj 12 "hold" ybT (yd 0) (yc (yd 1) (yc (xOp (ybC) (yd 3) (yd 4)) (yh)))))))
def yhW:Fn:=ybk 2 (yl (ybD (yr (xOp (oEq) (xOp (ybc) (yd 1) (xC (.int 0))) (xC (.str "wait")))) (yQ (xOp (oEq) (xOp (ybc) (yd 0) (xC (.int 0))) (xC (.str "either")))) (yM)) (yQ (yfh (xOp (oEq) (xOp (ybc) (yd 0) (xC (.int 0))) (xC (.str "guard"))) (xOp (oEq) (xOp (ybc) (yd 0) (xC (.int 1))) (xOp (ybc) (yd 1) (xC (.int 1)))))))
def ydV:List PV->AH->Option (Nd×AH):=ymr 4 12 (yl (xBI 12 yeN (yc (yd 2) (yc (yd 3) (yh)))) (yl (ycr [12] 0 "rows" (yd 1)) (yl (ycr [10,12] 0 "at" (xC (.int 0))) (yl (ycr [12] 0 "seen_stamps" (ygI (ync))) (ycr [12] 0 "sides" (ygI (ydY (yh))))))))
def ydv:Fn:=ybk 1 (yQ (xOp (ybC) (ybb [12] "rows" (yd 0)) (ybb [10,12] "at" (yd 0))))
def ycu:Fn:=ybk 2 (yQ (xCB (yri) (yc (xFz (ylG (ybb [12] "seen_stamps" (yd 0)) [1,0] (xOp (oNe) (xOp (ybC) (yd 1) (yd 0)) (yfk (ybb [12] "seen_stamps" (yd 2)) (yd 0))))) (yh))))
def ybt:Fn:=ybk 3 (yl (ybs (xCB (yba) (yc (ybb [12] "sides" (yd 0)) (yh))) (yp 2)) (yl (yfo 1000 (yqj (yr (xOp (oGt) (yd 2) (xC (.int 0)))) (yjG (yr (yW yhW (yc (xOp (ybc) (xOp (ybC) (ybb [12] "sides" (yd 0)) (xOp yvX (yd 2) (xC (.int 1)))) (xC (.int 0))) (yc (yd 1) (yh))))))) (ybs (xOp yvX (yd 2) (xC (.int 1))) (yp 2))) (yQ (yd 2))))
def loB:XS:=(yl (ybD (yr (xOp (oEq) (xOp (ybc) (yd 1) (xC (.int 0))) (xC (.str "take")))) (yQ (yj 12 "sees_at" yda (yd 0) (yc (xOp (ybc) (yd 1) (xC (.int 2))) (yh)))) (yM)) (yl (ybD (xOr (yr (xOp (oEq) (xOp (ybc) (yd 1) (xC (.int 0))) (xC (.str "wait")))) (yr (xOp (oEq) (xOp (ybc) (yd 1) (xC (.int 0))) (xC (.str "throw"))))) (yQ (xOp (oEq) (yj 12 "taker_layer" ybt (yd 0) (yc (yd 1) (yh))) (xC (.int 0)))) (yM)) (yQ (xOp (oEq) (xOp (ybc) (yd 1) (xC (.int 0))) (xC (.str "lay"))))))
def ybm:Fn:=ybk 2 (yl (ybs (yj 12 "row" ydv (yd 0) (yh)) (yp 1)) loB)
def ydb:Fn:=ybk 5 (yl (ybs (yj 12 "row" ydv (yd 0) (yh)) (yp 3)) (yl (ybs (yj 12 "box_at" ybH (yd 0) (yc (xOp (ybc) (yd 3) (xC (.int 2))) (yh))) (yp 4)) (yl (yiz (ybb [12] "seen_stamps" (yd 0)) (yd 4) (xOp (ybC) (yd 2) (yd 4))) (yl (yZ (yj 12 "take_seen" ycx (yd 0) (yc (xOp (ybc) (yd 3) (xC (.int 1))) (yc (xOp (ybc) (yd 3) (xC (.int 2))) (yc (yd 1) (yh)))))) (yl (ycR [10,12] "at" (yd 0) (xOp yfi (ybb [10,12] "at" (yd 0)) (xC (.int 1)))) (yQ (yd 4)))))))
def yC:Fn:=ybk 2 (ybD (yr (xOp (oEq) (xOp (ybc) (yd 1) (xC (.int 0))) (xC (.str "let")))) (yZ (yj 12 "hold" ybT (yd 0) (yc (xOp (ybc) (yd 1) (xC (.int 1))) (yc (xOp (ybc) (yd 1) (xC (.int 2))) (yh))))) (ybD (yr (xOp (oEq) (xOp (ybc) (yd 1) (xC (.int 0))) (xC (.str "take")))) (yZ (yj 12 "take_own" ycj (yd 0) (yc (xOp (ybc) (yd 1) (xC (.int 1))) (yc (xOp (ybc) (yd 1) (xC (.int 2))) (yh))))) (ybD (yr (xOp (oEq) (xOp (ybc) (yd 1) (xC (.int 0))) (xC (.str "put")))) (yZ (yj 12 "do_put" ycG (yd 0) (yc (xOp (ybc) (yd 1) (xC (.int 1))) (yc (xOp (ybc) (yd 1) (xC (.int 2))) (yh))))) (yZ (yj 12 "do_reckon" ybX (yd 0) (yc (xOp (ybc) (yd 1) (xC (.int 0))) (yc (xOp (ybc) (yd 1) (xC (.int 1))) (yc (xOp (ybc) (yd 1) (xC (.int 2))) (yc (xOp (ybc) (yd 1) (xC (.int 3))) (yh))))))))))
def ybN:Fn:=ybk 2 (ybD (yr (xOp (oEq) (xOp (ybc) (yd 1) (xC (.int 0))) (xC (.str "jump")))) (ycR [10,12] "at" (yd 0) (xOp (ybc) (yd 1) (xC (.int 1)))) (ybD (yr (xOp (oEq) (yj 12 "held_in" yY (yd 0) (yc (xOp (ybc) (yd 1) (xC (.int 1))) (yh))) (xC (.int 0)))) (ycR [10,12] "at" (yd 0) (xOp (ybc) (yd 1) (xC (.int 2)))) (yM)))
abbrev lvC:XT:=(yr (xOp (oGe) (xCB (yba) (yc (ybb [12] "sides" (yd 0)) (yh))) (yd 2)))
abbrev lvB:XS:=(yl (yZ (xBM yfj (ygY) (ybb [12] "sides" (yd 0)) (yh))) (yZ (yj 11 "drop" yfa (ybb [12] "log" (yd 0)) (yh))))
def yck:Fn:=ybk 5 (yl (ybs (yj 12 "taker_layer" ybt (yd 0) (yc (yd 1) (yh))) (yp 2)) (yl (ybs (xOp (ybC) (ybb [12] "sides" (yd 0)) (xOp yvX (yd 2) (xC (.int 1)))) (yp 3)) (yl (yfo 1000 lvC lvB) (yl (ybs (xOp (ybc) (yd 3) (xC (.int 0))) (yp 4)) (yl (ycR [12] "held" (yd 0) (ygI (yhm (yX) (yc (xOp (ybc) (yd 3) (xC (.int 1))) (yh))))) (yl (ycR [10,12] "at" (yd 0) (xOp (ybc) (yd 4) (xUn ytL (xC (.int 1))))) (yQ (yd 4))))))))
def ycA:Fn:=ybk 4 (yl (ybs (yj 12 "held_in" yY (yd 0) (yc (xOp (ybc) (yd 1) (xC (.int 2))) (yh))) (yp 2)) (yl (ybs (yj 12 "leave" yck (yd 0) (yc (yd 1) (yh))) (yp 3)) (yZ (yj 12 "hold" ybT (yd 0) (yc (xOp (ybc) (yd 3) (xC (.int 2))) (yc (yd 2) (yh)))))))
def goS:XS:=(yl (yZ (xBM yfj (ygY) (ybb [12] "sides" (yd 0)) (yh))) (yZ (yj 11 "settle" ydI (ybb [12] "log" (yd 0)) (yh))))
def goE:XS:=(yl (yZ (xBM yfj (yfZ) (ybb [12] "sides" (yd 0)) (yc (yfz (yc (yd 1) (yc (xFz (yhm (yX) (yc (ybb [12] "held" (yd 0)) (yh)))) (yh)))) (yh)))) (yZ (yj 11 "begin" yeq (ybb [12] "log" (yd 0)) (yh))))
def goB:XS:=(ybD (yr (xOp (oEq) (xOp (ybc) (yd 1) (xC (.int 0))) (xC (.str "wait")))) (yZ (yj 12 "leave" yck (yd 0) (yc (yd 1) (yh)))) (ybD (yr (xOp (oEq) (xOp (ybc) (yd 1) (xC (.int 0))) (xC (.str "throw")))) (yZ (yj 12 "throw" ycA (yd 0) (yc (yd 1) (yh)))) (ybD (xOr (yr (xOp (oEq) (xOp (ybc) (yd 1) (xC (.int 0))) (xC (.str "jump")))) (yr (xOp (oEq) (xOp (ybc) (yd 1) (xC (.int 0))) (xC (.str "unless"))))) (yZ (yj 12 "lead" ybN (yd 0) (yc (yd 1) (yh)))) (ybD (xOr (yr (xOp (oEq) (xOp (ybc) (yd 1) (xC (.int 0))) (xC (.str "either")))) (yr (xOp (oEq) (xOp (ybc) (yd 1) (xC (.int 0))) (xC (.str "guard"))))) goE (ybD (yr (xOp (oEq) (xOp (ybc) (yd 1) (xC (.int 0))) (xC (.str "settle")))) goS (yZ (yj 12 "go_plain" yC (yd 0) (yc (yd 1) (yh)))))))))
def ycf:Fn:=ybk 2 (yl (ybs (yj 12 "row" ydv (yd 0) (yh)) (yp 1)) (yl (ycR [10,12] "at" (yd 0) (xOp yfi (ybb [10,12] "at" (yd 0)) (xC (.int 1)))) goB))
def ycl:Fn:=ybk 1 (yl (ybD (yr (xOp (oEq) (ybb [14] "nth" (yd 0)) (xCB (yba) (yc (ybb [14] "deeds" (yd 0)) (yh))))) (yQ (xC (.str "ended"))) (yM)) (yQ (xIf (yr (ybb [14] "sleeps" (yd 0))) (xC (.str "asleep")) (xC (.str "awake")))))
def ybY:Fn:=ybk 2 (yl (ybs (xIf (yr (xOp (oLt) (ybb [14] "nth" (yd 0)) (xCB (yba) (yc (ybb [14] "deeds" (yd 0)) (yh))))) (xOp (ybC) (ybb [14] "deeds" (yd 0)) (ybb [14] "nth" (yd 0))) (xFz (ydY (yh)))) (yp 1)) (yQ (ygI (yfB ydV (yc (yd 1) (yc (ybb [14] "before" (yd 0)) (yc (ybb [12,14] "width" (yd 0)) (yh))))))))
def ybO:Fn:=ybk 1 (yl (ycR [14] "sleeps" (yd 0) (xC (.bl false))) (ycR [14] "run" (yd 0) (yj 14 "new_run" ybY (yd 0) (yh))))
def ycg:Fn:=ybk 1 (ycR [14] "sleeps" (yd 0) (xC (.bl true)))
def ydK:Fn:=ybk 2 (yl (ycR [14] "nth" (yd 0) (xOp yfi (ybb [14] "nth" (yd 0)) (xC (.int 1)))) (yl (ycR [14] "before" (yd 0) (xFz (yhm (yX) (yc (yd 1) (yh))))) (ycR [14] "run" (yd 0) (yj 14 "new_run" ybY (yd 0) (yh)))))
def ybP:Fn:=ybk 3 (yl (ycR [14] "deeds" (yd 0) (xFz (yhm (yX) (yc (yd 1) (yh))))) (yl (ycR [12,14] "width" (yd 0) (yd 2)) (yl (ycR [14] "nth" (yd 0) (xC (.int 0))) (yl (ycR [14] "sleeps" (yd 0) (xC (.bl false))) (yl (ycR [14] "before" (yd 0) (xFz (yqi yAz (xFz (ydY (yc (xC (.int 0)) (yh)))) (xCB (ymY) (yc (xC (.str "abcdefgh")) (yh)))))) (ycR [14] "run" (yd 0) (yj 14 "new_run" ybY (yd 0) (yh))))))))
def yft:List PV->AH->Option (Nd×AH):=ymr 3 1 (yl (ycr [1,2,3,4,5,7,8] 0 "slot" (yd 1)) (ycr [1] 0 "number" (yd 2)))
def yee:List PV->AH->Option (Nd×AH):=ymr 5 2 (yl (ycr [2] 0 "word" (yd 1)) (yl (ycr [1,2,3,4,5,7,8] 0 "slot" (yd 2)) (yl (ycr [2] 0 "one" (yd 3)) (ycr [2] 0 "other" (yd 4)))))
def yeO:List PV->AH->Option (Nd×AH):=ymr 3 3 (yl (ycr [1,2,3,4,5,7,8] 0 "slot" (yd 1)) (ycr [3,4] 0 "place" (yd 2)))
def yfu:List PV->AH->Option (Nd×AH):=ymr 3 4 (yl (ycr [3,4] 0 "place" (yd 1)) (ycr [1,2,3,4,5,7,8] 0 "slot" (yd 2)))
def ygd:List PV->AH->Option (Nd×AH):=ymr 4 5 (yl (ycr [1,2,3,4,5,7,8] 0 "slot" (yd 1)) (yl (ycr [5,6,7] 0 "parts" (xFz (yhm (yX) (yc (yd 2) (yh))))) (ycr [5,6,7] 0 "others" (xFz (yhm (yX) (yc (yd 3) (yh)))))))
def yef:List PV->AH->Option (Nd×AH):=ymr 3 6 (yl (ycr [5,6,7] 0 "parts" (xFz (yhm (yX) (yc (yd 1) (yh))))) (ycr [5,6,7] 0 "others" (xFz (yhm (yX) (yc (yd 2) (yh))))))
def yfv:List PV->AH->Option (Nd×AH):=ymr 5 7 (yl (ycr [5,6,7] 0 "parts" (xFz (yhm (yX) (yc (yd 1) (yh))))) (yl (ycr [7,8] 0 "name" (yd 2)) (yl (ycr [1,2,3,4,5,7,8] 0 "slot" (yd 3)) (ycr [5,6,7] 0 "others" (xFz (yhm (yX) (yc (yd 4) (yh))))))))
def yey:List PV->AH->Option (Nd×AH):=ymr 3 8 (yl (ycr [7,8] 0 "name" (yd 1)) (ycr [1,2,3,4,5,7,8] 0 "slot" (yd 2)))
def yjh:Fn:=ybk 1 (yQ (xC (.int 1)))
def yge:Fn:=ybk 1 (yQ (xC (.int 1)))
def yhX:Fn:=ybk 1 (yQ (xC (.int 1)))
def yji:Fn:=ybk 1 (yQ (xC (.int 1)))
def ygL:Fn:=ybk 1 (yQ (xC (.int 1)))
def yhY:Fn:=ybk 1 (yQ (xC (.int 1)))
mutual
noncomputable def ylM:Nat->Nat->Fn
 | 0,_=>fun _ _=>none
 | n+1,k=>match k with|1=>yjh|2=>yge|3=>yhX|4=>yji|5=>ylN n|6=>ygf n|7=>yjj n|8=>ygL|9=>yhY|_=>fun _ _=>none
noncomputable def ybw:Nat->Fn
 | 0=>fun _ _=>none
 | n+1=>ybk 1 (yQ (xCB (yCI) (yc (xFz (yel (xIL (yd 0)) [] (yoX "long" (ylM n) (yd 0)))) (yh))))
noncomputable def ylN:Nat->Fn
 | 0=>fun _ _=>none
 | n+1=>ybk 1 (yQ (xOp yfi (xOp yfi (xC (.int 2)) (yW (ybw n) (yc (ybb [5,6,7] "parts" (yd 0)) (yh)))) (yW (ybw n) (yc (ybb [5,6,7] "others" (yd 0)) (yh)))))
noncomputable def ygf:Nat->Fn
 | 0=>fun _ _=>none
 | n+1=>ybk 1 (yQ (xOp yfi (xOp yfi (xC (.int 3)) (yW (ybw n) (yc (ybb [5,6,7] "parts" (yd 0)) (yh)))) (yW (ybw n) (yc (ybb [5,6,7] "others" (yd 0)) (yh)))))
noncomputable def yjj:Nat->Fn
 | 0=>fun _ _=>none
 | n+1=>ybk 1 (yQ (xOp yfi (xOp yfi (xC (.int 3)) (yW (ybw n) (yc (ybb [5,6,7] "parts" (yd 0)) (yh)))) (yW (ybw n) (yc (ybb [5,6,7] "others" (yd 0)) (yh)))))
end
def ygM:Fn:=ybk 1 (yl (ybD (yr (xCB (yiZ yeo) (yc (yd 0) (yc (xC (.cls 1)) (yh))))) (yQ (xFz (ydY (yc (yfz (yc (xC (.str "let")) (yc (ybb [1,2,3,4,5,7,8] "slot" (yd 0)) (yc (ybb [1] "number" (yd 0)) (yh))))) (yh))))) (yM)) (yl (ybD (yr (xCB (yiZ yeo) (yc (yd 0) (yc (xC (.cls 2)) (yh))))) (yQ (xFz (ydY (yc (yfz (yc (ybb [2] "word" (yd 0)) (yc (ybb [1,2,3,4,5,7,8] "slot" (yd 0)) (yc (ybb [2] "one" (yd 0)) (yc (ybb [2] "other" (yd 0)) (yh)))))) (yh))))) (yM)) (yl (ybD (yr (xCB (yiZ yeo) (yc (yd 0) (yc (xC (.cls 3)) (yh))))) (yQ (xFz (ydY (yc (yfz (yc (xC (.str "take")) (yc (ybb [1,2,3,4,5,7,8] "slot" (yd 0)) (yc (ybb [3,4] "place" (yd 0)) (yh))))) (yh))))) (yM)) (yl (ybD (yr (xCB (yiZ yeo) (yc (yd 0) (yc (xC (.cls 4)) (yh))))) (yQ (xFz (ydY (yc (yfz (yc (xC (.str "put")) (yc (ybb [3,4] "place" (yd 0)) (yc (ybb [1,2,3,4,5,7,8] "slot" (yd 0)) (yh))))) (yh))))) (yM)) (yl (ybD (yr (xCB (yiZ yeo) (yc (yd 0) (yc (xC (.cls 8)) (yh))))) (yQ (xFz (ydY (yc (yfz (yc (xC (.str "throw")) (yc (ybb [7,8] "name" (yd 0)) (yc (ybb [1,2,3,4,5,7,8] "slot" (yd 0)) (yh))))) (yh))))) (yM)) (yl (ybD (yr (xCB (yiZ yeo) (yc (yd 0) (yc (xC (.cls 9)) (yh))))) (yQ (xFz (ydY (yc (yfz (yc (xC (.str "wait")) (yh))) (yh))))) (yM)) (yQ (xFz (ydY (yh))))))))))
def yhZ:Fn:=ybk 2 (yl (ybD (yr (xCB (yiZ yeo) (yc (yd 0) (yc (xC (.cls 5)) (yh))))) (yQ (yfz (yc (xC (.str "unless")) (yc (ybb [1,2,3,4,5,7,8] "slot" (yd 0)) (yc (yd 1) (yh)))))) (yM)) (yl (ybD (yr (xCB (yiZ yeo) (yc (yd 0) (yc (xC (.cls 6)) (yh))))) (yQ (yfz (yc (xC (.str "either")) (yc (yd 1) (yh))))) (yM)) (yQ (yfz (yc (xC (.str "guard")) (yc (ybb [7,8] "name" (yd 0)) (yc (ybb [1,2,3,4,5,7,8] "slot" (yd 0)) (yc (yd 1) (yh)))))))))
def yfw:Fn:=ybk 2 (yl (ybD (yr (xCB (yiZ yeo) (yc (yd 0) (yc (xC (.cls 5)) (yh))))) (yQ (xFz (ydY (yc (yfz (yc (xC (.str "jump")) (yc (yd 1) (yh)))) (yh))))) (yM)) (yQ (xFz (ydY (yc (yfz (yc (xC (.str "settle")) (yh))) (yc (yfz (yc (xC (.str "jump")) (yc (yd 1) (yh)))) (yh)))))))
mutual
noncomputable def ycT:Nat->Fn
 | 0=>fun _ _=>none
 | n+1=>ybk 4 (yl (yls (ydY (yh)) 2) (yl (yiS (xIL (yd 0)) (yp 3) (ynf 2 (yW (ydw n) (yc (yd 3) (yc (xOp yfi (yd 1) (ypa 2)) (yh)))))) (yvW 2 (yQ (yd 2)))))
noncomputable def ydw:Nat->Fn
 | 0=>fun _ _=>none
 | n+1=>ybk 2 (yl (ybD (xOr (yr (xCB (yiZ yeo) (yc (yd 0) (yc (xC (.cls 5)) (yh))))) (xOr (yr (xCB (yiZ yeo) (yc (yd 0) (yc (xC (.cls 6)) (yh))))) (yr (xCB (yiZ yeo) (yc (yd 0) (yc (xC (.cls 7)) (yh))))))) (yQ (yW (ygN n) (yc (yd 0) (yc (yd 1) (yh))))) (yM)) (yQ (yW ygM (yc (yd 0) (yh)))))
noncomputable def ygN:Nat->Fn
 | 0=>fun _ _=>none
 | n+1=>ybk 6 (yl (ybs (xOp yfi (yd 1) (yoX "long" (ylM 45) (yd 0))) (yp 2)) (yl (ybs (xOp yvX (yd 2) (yW (ybw 45) (yc (ybb [5,6,7] "others" (yd 0)) (yh)))) (yp 3)) (yl (ybs (yW (ycT n) (yc (ybb [5,6,7] "parts" (yd 0)) (yc (xOp yfi (yd 1) (xC (.int 1))) (yh)))) (yp 4)) (yl (ybs (yW (ycT n) (yc (ybb [5,6,7] "others" (yd 0)) (yc (yd 3) (yh)))) (yp 5)) (yQ (xFz (yqi ysO (xFz (yqi ysO (xFz (yqi ysO (xFz (ydY (yc (yW yhZ (yc (yd 0) (yc (yd 3) (yh)))) (yh)))) (yd 4))) (yW yfw (yc (yd 0) (yc (yd 2) (yh)))))) (yd 5))))))))
end
def yeg:Fn:=ybk 1 (yQ (xFz (yqi ysO (yW (ycT 45) (yc (yd 0) (yc (xC (.int 0)) (yh)))) (xFz (ydY (yc (yfz (yc (xC (.str "lay")) (yh))) (yh)))))))
def ycU:List PV->AH->Option (Nd×AH):=ymr 2 10 (yl (ycr [10] 0 "words" (xFz (yhm (yX) (yc (yd 1) (yh))))) (ycr [10,12] 0 "at" (xC (.int 0))))
def yfb:Fn:=ybk 1 (yl (ybD (yr (xOp (oEq) (yd 0) (xC (.str "")))) (yQ (xFz (ydY (yh)))) (yM)) (yQ (xBM isStr (yoh) (yd 0) (yc (xC (.str " ")) (yh)))))
def ybo:Fn:=ybk 1 (yl (ybD (yr (xOp (oLt) (ybb [10,12] "at" (yd 0)) (xCB (yba) (yc (ybb [10] "words" (yd 0)) (yh))))) (yQ (xOp (ybC) (ybb [10] "words" (yd 0)) (ybb [10,12] "at" (yd 0)))) (yM)) (yQ (xC .non)))
def ybp:Fn:=ybk 2 (yl (ybs (yj 10 "ahead" ybo (yd 0) (yh)) (yp 1)) (yl (ybD (yr (xOp (yxI) (yd 1) (xC .non))) (yfl) (yM)) (yl (ycR [10,12] "at" (yd 0) (xOp yfi (ybb [10,12] "at" (yd 0)) (xC (.int 1)))) (yQ (yd 1)))))
def yL:Fn:=ybk 3 (yl (ybs (yj 10 "taken" ybp (yd 0) (yh)) (yp 2)) (ybD (yr (xOp (oNe) (yd 2) (yd 1))) (yfl) (yM)))
def yu:Fn:=ybk 2 (yl (ybs (yj 10 "taken" ybp (yd 0) (yh)) (yp 1)) (yl (ybD (yjG (yr (yW yhU (yc (yd 1) (yh))))) (yfl) (yM)) (yQ (yd 1))))
def ybx:Fn:=ybk 2 (yl (ybs (yj 10 "taken" ybp (yd 0) (yh)) (yp 1)) (yl (ybD (yjG (yr (yW yhV (yc (yd 1) (yh))))) (yfl) (yM)) (yQ (yd 1))))
def ybI:Fn:=ybk 3 (yl (ybs (yj 10 "taken" ybp (yd 0) (yh)) (yp 1)) (yl (ybs (yW yes (yc (yd 1) (yh))) (yp 2)) (yl (ybD (yr (xOp (yxI) (yd 2) (xC .non))) (yfl) (yM)) (yQ (yd 2)))))
def ybJ:Fn:=ybk 5 (yl (ybs (yj 10 "slot_taken" yu (yd 0) (yh)) (yp 2)) (yl (ybs (yj 10 "slot_taken" yu (yd 0) (yh)) (yp 3)) (yl (ybs (yj 10 "slot_taken" yu (yd 0) (yh)) (yp 4)) (yQ (xFz (yfB yee (yc (yd 1) (yc (yd 2) (yc (yd 3) (yc (yd 4) (yh)))))))))))
def yv:Fn:=ybk 5 (yl (ybD (yr (xOp (oEq) (yd 1) (xC (.str "let")))) (yl (ybs (yj 10 "slot_taken" yu (yd 0) (yh)) (yp 2)) (yQ (xFz (yfB yft (yc (yd 2) (yc (yj 10 "number_taken" ybI (yd 0) (yh)) (yh))))))) (yM)) (yl (ybD (yr (xOp (oEq) (yd 1) (xC (.str "take")))) (yl (ybs (yj 10 "slot_taken" yu (yd 0) (yh)) (yp 2)) (yQ (xFz (yfB yeO (yc (yd 2) (yc (yj 10 "slot_taken" yu (yd 0) (yh)) (yh))))))) (yM)) (yl (ybD (yr (xOp (oEq) (yd 1) (xC (.str "put")))) (yl (ybs (yj 10 "slot_taken" yu (yd 0) (yh)) (yp 3)) (yQ (xFz (yfB yfu (yc (yd 3) (yc (yj 10 "slot_taken" yu (yd 0) (yh)) (yh))))))) (yM)) (yl (ybD (yr (xOp (oEq) (yd 1) (xC (.str "throw")))) (yl (ybs (yj 10 "name_taken" ybx (yd 0) (yh)) (yp 4)) (yQ (xFz (yfB yey (yc (yd 4) (yc (yj 10 "slot_taken" yu (yd 0) (yh)) (yh))))))) (yM)) (yl (ybD (yr (xOp (oEq) (yd 1) (xC (.str "wait")))) (yQ (xFz (yqF 9))) (yM)) (yl (ybD (yr (yW yhT (yc (yd 1) (yh)))) (yQ (yj 10 "reckon_taken" ybJ (yd 0) (yc (yd 1) (yh)))) (yM)) (yfl)))))))
def ykg:XT:=yr (xOp (oEq) (yj 10 "ahead" ybo (yd 0) (yh)) (xC (.str ";")))
mutual
noncomputable def yby:Nat->Fn
 | 0=>fun _ _=>none
 | n+1=>ybk 3 (yl (ybD (xOr (yr (xOp (yxI) (yj 10 "ahead" ybo (yd 0) (yh)) (xC .non))) (yr (xOp (oEq) (yj 10 "ahead" ybo (yd 0) (yh)) (xC (.str ")"))))) (yQ (xFz (ydY (yh)))) (yM)) (yl (yls (ydY (yc (yj 10 "part_taken" (yD n) (yd 0) (yc (yd 1) (yh))) (yh))) 2) (yl (yfo 100 (ykg) (yl (yZ (yj 10 "pass_over" yL (yd 0) (yc (xC (.str ";")) (yh)))) (yfW 2 (yj 10 "part_taken" (yD n) (yd 0) (yc (yd 1) (yh)))))) (yvW 2 (yQ (yd 2))))))
noncomputable def yq:Nat->Fn
 | 0=>fun _ _=>none
 | n+1=>ybk 3 (yl (yZ (yj 10 "pass_over" yL (yd 0) (yc (xC (.str "(")) (yh)))) (yl (ybs (yj 10 "list_taken" (yby n) (yd 0) (yc (yd 1) (yh))) (yp 2)) (yl (yZ (yj 10 "pass_over" yL (yd 0) (yc (xC (.str ")")) (yh)))) (yQ (yd 2)))))
noncomputable def yD:Nat->Fn
 | 0=>fun _ _=>none
 | n+1=>ybk 3 (yl (ybD (yr (xOp (oGt) (yd 1) (xC (.int 8)))) (yfl) (yM)) (yl (ybs (yj 10 "taken" ybp (yd 0) (yh)) (yp 2)) (yl (ybD (yr (xOp (oEq) (yd 2) (xC (.str "if")))) (yQ (yj 10 "if_taken" (ybQ n) (yd 0) (yc (xOp yfi (yd 1) (xC (.int 1))) (yh)))) (yM)) (yl (ybD (yr (xOp (oEq) (yd 2) (xC (.str "either")))) (yQ (yj 10 "either_taken" (ybi n) (yd 0) (yc (xOp yfi (yd 1) (xC (.int 1))) (yh)))) (yM)) (yl (ybD (yr (xOp (oEq) (yd 2) (xC (.str "try")))) (yQ (yj 10 "try_taken" (ybK n) (yd 0) (yc (xOp yfi (yd 1) (xC (.int 1))) (yh)))) (yM)) (yQ (yj 10 "plain_taken" yv (yd 0) (yc (yd 2) (yh)))))))))
noncomputable def ybQ:Nat->Fn
 | 0=>fun _ _=>none
 | n+1=>ybk 5 (yl (ybs (yj 10 "slot_taken" yu (yd 0) (yh)) (yp 2)) (yl (ybs (yj 10 "side_taken" (yq n) (yd 0) (yc (yd 1) (yh))) (yp 3)) (yl (yZ (yj 10 "pass_over" yL (yd 0) (yc (xC (.str "else")) (yh)))) (yl (ybs (yj 10 "side_taken" (yq n) (yd 0) (yc (yd 1) (yh))) (yp 4)) (yQ (xFz (yfB ygd (yc (yd 2) (yc (yd 3) (yc (yd 4) (yh)))))))))))
noncomputable def ybi:Nat->Fn
 | 0=>fun _ _=>none
 | n+1=>ybk 4 (yl (ybs (yj 10 "side_taken" (yq n) (yd 0) (yc (yd 1) (yh))) (yp 2)) (yl (yZ (yj 10 "pass_over" yL (yd 0) (yc (xC (.str "or")) (yh)))) (yl (ybs (yj 10 "side_taken" (yq n) (yd 0) (yc (yd 1) (yh))) (yp 3)) (yQ (xFz (yfB yef (yc (yd 2) (yc (yd 3) (yh)))))))))
noncomputable def ybK:Nat->Fn
 | 0=>fun _ _=>none
 | n+1=>ybk 6 (yl (ybs (yj 10 "side_taken" (yq n) (yd 0) (yc (yd 1) (yh))) (yp 2)) (yl (yZ (yj 10 "pass_over" yL (yd 0) (yc (xC (.str "on")) (yh)))) (yl (ybs (yj 10 "name_taken" ybx (yd 0) (yh)) (yp 3)) (yl (ybs (yj 10 "slot_taken" yu (yd 0) (yh)) (yp 4)) (yl (ybs (yj 10 "side_taken" (yq n) (yd 0) (yc (yd 1) (yh))) (yp 5)) (yQ (xFz (yfB yfv (yc (yd 2) (yc (yd 3) (yc (yd 4) (yc (yd 5) (yh)))))))))))))
end
def ylO:Fn:=ybk 3 (yl (ybs (ygI (yfB ycU (yc (yW yfb (yc (yd 0) (yh))) (yh)))) (yp 1)) (yl (ybs (yj 10 "list_taken" (yby 45) (yd 1) (yc (xC (.int 0)) (yh))) (yp 2)) (yl (ybD (yr (xOp (ytO) (yj 10 "ahead" ybo (yd 1) (yh)) (xC .non))) (yfl) (yM)) (yl (ybD (yr (xOp (oGt) (xOp yfi (yW (ybw 45) (yc (yd 2) (yh))) (xC (.int 1))) (xC (.int 80)))) (yfl) (yM)) (yQ (yd 2))))))
def ydo:Fn:=ybk 1 (yl (ybD (yjG (yr (yfn (oLe) (oLe) (xC (.int 1)) (xCB (yba) (yc (yd 0) (yh))) (xC (.int 16))))) (yfl) (yM)) (ybD (yjG (yr (xCB (yxJ) (yc (xFz (yel (xIL (yd 0)) [] (yW ycS (yc (yd 0) (yh))))) (yh))))) (yfl) (yM)))
def ycm:Fn:=ybk 1 (yQ (xFz (yel (xIL (yd 0)) [] (yW yeg (yc (yW ylO (yc (yd 0) (yh))) (yh))))))
def ycn:Fn:=ybk 1 (yl (ybD (yjG (yr (yfn (oLe) (oLe) (xC (.int 1)) (xCB (yba) (yc (yd 0) (yh))) (xC (.int 8))))) (yfl) (yM)) (yl (ybD (yr (xCB (yri) (yc (xFz (yel (xIL (yd 0)) [] (xOp (oGt) (xCB (yba) (yc (yd 0) (yh))) (xC (.int 6))))) (yh)))) (yfl) (yM)) (yQ (xFz (yel (xIL (yd 0)) [] (yW ycm (yc (yd 0) (yh))))))))
def ycH:Fn:=ybk 3 (yl (yZ (yW ydo (yc (yd 1) (yh)))) (yl (ycR [15] "numbers" (yd 0) (ygI (yhm (yX) (yc (yd 1) (yh))))) (yl (ycR [15] "marks" (yd 0) (ygI (yqi yAz (xFz (ydY (yc (xC (.int 0)) (yh)))) (xCB (yba) (yc (yd 1) (yh)))))) (yl (ycR [15] "crew" (yd 0) (ygI (yel (xIL (yW ycn (yc (yd 2) (yh)))) [1] (yje 14 ybP (yc (yd 0) (yc (xCB (yba) (yc (yd 1) (yh))) (yh))))))) (ycR [15] "entries" (yd 0) (ygI (ydY (yh))))))))
def ybZ:Fn:=ybk 2 (yl (ybD (xOr (yjG (yr (yW yed (yc (yd 1) (yh))))) (yjG (yr (yfn (oLe) (oLt) (xC (.int 0)) (yd 1) (xCB (yba) (yc (ybb [15] "crew" (yd 0)) (yh))))))) (yfl) (yM)) (yQ (xOp (ybC) (ybb [15] "crew" (yd 0)) (yd 1))))
def ybq:Fn:=ybk 2 (yQ (yj 14 "state" ycl (yj 15 "hand_at" ybZ (yd 0) (yc (yd 1) (yh))) (yh)))
def ydc:Fn:=ybk 1 (yQ (xFz (yew (ybb [15] "entries" (yd 0)) [] (yfz (yc (xOp (ybc) (yd 0) (xC (.int 0))) (yc (xOp (ybc) (yd 0) (xC (.int 1))) (yc (xOp (ybc) (yd 0) (xC (.int 2))) (yc (xFz (yhm (yX) (yc (xOp (ybc) (yd 0) (xC (.int 3))) (yh)))) (yc (xFz (yhm (yX) (yc (xOp (ybc) (yd 0) (xC (.int 4))) (yh)))) (yc (xFz (yhm (yX) (yc (xOp (ybc) (yd 0) (xC (.int 5))) (yh)))) (yh)))))))))))
def wkB:XS:=(ybD (yqj (yr (xOp (oEq) (yj 14 "state" ycl (yd 1) (yh)) (xC (.str "asleep")))) (yr (yj 12 "is_stale" ycu (ybb [14] "run" (yd 1)) (yc (ybb [15] "marks" (yd 0)) (yh))))) (yZ (yj 14 "begin_anew" ybO (yd 1) (yh))) (yM))
def ybu:Fn:=ybk 2 (yjZ false (ybb [15] "crew" (yd 0)) (yp 1) wkB)
def yco:Fn:=ybk 6 (yl (ybs (xOp (ybC) (ybb [15] "crew" (yd 0)) (yd 1)) (yp 5)) (yl (yZ (xBM yfj (yfZ) (ybb [15] "entries" (yd 0)) (yc (yfz (yc (yd 1) (yc (ybb [14] "nth" (yd 5)) (yc (yd 2) (yc (yj 11 "saw" ygc (ybb [12] "log" (ybb [14] "run" (yd 5))) (yh)) (yc (yd 3) (yc (xFz (yhm (yX) (yc (yd 4) (yh)))) (yh)))))))) (yh)))) (yZ (yj 14 "go_on" ydK (yd 5) (yc (yd 4) (yh))))))
def ldB:XS:=(yl (ybs (xOp (ybc) (yd 4) (xC (.int 0))) (yp 5)) (yl (yea (ybb [15] "numbers" (yd 0)) (yd 5) (xOp (ybc) (yd 4) (xC (.int 1)))) (yea (ybb [15] "marks" (yd 0)) (yd 5) (xOp yfi (xOp (ybC) (ybb [15] "marks" (yd 0)) (yd 5)) (xC (.int 1))))))
def ycI:Fn:=ybk 6 (yl (ybs (ybb [14] "run" (xOp (ybC) (ybb [15] "crew" (yd 0)) (yd 1))) (yp 2)) (yl (ybs (yj 11 "wrote" yer (ybb [12] "log" (yd 2)) (yh)) (yp 3)) (yl (yiS (xIL (yd 3)) (yp 4) ldB) (yl (yZ (yj 15 "end_deed" yco (yd 0) (yc (yd 1) (yc (yfz (yc (xC (.str "done")) (yh))) (yc (yd 3) (yc (ybb [12] "held" (yd 2)) (yh))))))) (yZ (yj 15 "wake_stale" ybu (yd 0) (yh)))))))
def yO:Fn:=ybk 6 (yl (ybs (xOp (ybC) (ybb [15] "crew" (yd 0)) (yd 1)) (yp 3)) (yl (ybs (yj 12 "row" ydv (ybb [14] "run" (yd 3)) (yh)) (yp 4)) (yl (ybD (yr (xOp (oEq) (xOp (ybc) (yd 4) (xC (.int 0))) (xC (.str "take")))) (yl (ybs (yj 12 "see_next" ydb (ybb [14] "run" (yd 3)) (yc (ybb [15] "numbers" (yd 0)) (yc (ybb [15] "marks" (yd 0)) (yh)))) (yp 5)) (yQ (yfz (yc (xC (.str "seen")) (yc (yd 2) (yc (yd 5) (yc (xOp (ybC) (ybb [15] "numbers" (yd 0)) (yd 5)) (yh)))))))) (yM)) (yl (ybD (yr (xOp (oEq) (xOp (ybc) (yd 4) (xC (.int 0))) (xC (.str "wait")))) (yl (yZ (yj 14 "fall_asleep" ycg (yd 3) (yh))) (yQ (yfz (yc (xC (.str "asleep")) (yc (yd 2) (yh)))))) (yM)) (yl (ybD (yr (xOp (oEq) (xOp (ybc) (yd 4) (xC (.int 0))) (xC (.str "throw")))) (yl (yZ (yj 15 "end_deed" yco (yd 0) (yc (yd 1) (yc (yfz (yc (xC (.str "fell")) (yc (xOp (ybc) (yd 4) (xC (.int 1))) (yc (yj 12 "held_in" yY (ybb [14] "run" (yd 3)) (yc (xOp (ybc) (yd 4) (xC (.int 2))) (yh))) (yh))))) (yc (xFz (ydY (yh))) (yc (ybb [14] "before" (yd 3)) (yh))))))) (yQ (yfz (yc (xC (.str "fell")) (yc (yd 2) (yh)))))) (yM)) (yl (yZ (yj 15 "lay_down" ycI (yd 0) (yc (yd 1) (yh)))) (yQ (yfz (yc (xC (.str "done")) (yc (yd 2) (yh)))))))))))
def yF:Fn:=ybk 4 (yl (ybs (yj 15 "hand_at" ybZ (yd 0) (yc (yd 1) (yh))) (yp 2)) (yl (ybD (yr (xOp (oNe) (yj 14 "state" ycl (yd 2) (yh)) (xC (.str "awake")))) (yQ (yfz (yc (xC (.str "idle")) (yh)))) (yM)) (yl (ybs (ybb [10,12] "at" (ybb [14] "run" (yd 2))) (yp 3)) (yl (ybD (yjG (yr (yj 12 "is_looked_over" ybm (ybb [14] "run" (yd 2)) (yh)))) (yl (yZ (yj 12 "go" ycf (ybb [14] "run" (yd 2)) (yh))) (yQ (yfz (yc (xC (.str "gone")) (yc (yd 3) (yh)))))) (yM)) (yl (ybD (yr (yj 12 "is_stale" ycu (ybb [14] "run" (yd 2)) (yc (ybb [15] "marks" (yd 0)) (yh)))) (yl (yZ (yj 14 "begin_anew" ybO (yd 2) (yh))) (yQ (yfz (yc (xC (.str "anew")) (yc (yd 3) (yh)))))) (yM)) (yQ (yj 15 "looked_over_told" yO (yd 0) (yc (yd 1) (yc (yd 3) (yh))))))))))
def ycv:Fn:=ybk 2 (yl (ybD (yr (xOp (oLt) (yd 1) (xCB (yba) (yc (yd 0) (yh))))) (yQ (xOp (ybC) (yd 0) (yd 1))) (yM)) (yQ (xC (.int 0))))
def yeP:Fn:=ybk 1 (yQ (yfh (xCB (yiZ yeo) (yc (yd 0) (yc (xC (.ty "int")) (yh)))) (ytu (xCB (yiZ yeo) (yc (yd 0) (yc (xC (.ty "bool")) (yh)))))))
def ydf:Fn:=ybk 7 (yl (ybs (xOp oMod (xOp yxG (yd 0) (xC (.int 48271))) (xC (.int 999999999989))) (yp 1)) (yl (ybs (xOp ycQ (xC (.str "let a ")) (xCB (yiy) (yc (xOp oMod (xOp oDiv (yd 1) (xC (.int 10))) (xC (.int 4))) (yh)))) (yp 2)) (yl (ybs (xOp ycQ (xC (.str "let d ")) (xCB (yiy) (yc (xOp oMod (xOp oDiv (yd 1) (xC (.int 40))) (xC (.int 4))) (yh)))) (yp 3)) (yl (ybs (xCB (yiy) (yc (xOp (ybC) (xFz (ydY (yc (xC (.int 0)) (yc (xC (.int 1)) (yc (xOp oMod (xOp oDiv (yd 1) (xC (.int 160))) (xC (.int 5))) (yc (xOp oMod (yd 0) (xOp yCF (xC (.int 2)) (xC (.int 64)))) (yh))))))) (xOp oMod (xOp oDiv (yd 1) (xC (.int 800))) (xC (.int 4)))) (yh))) (yp 4)) (yl (yls (ydY (yc (xOp ycQ (yd 2) (xC (.str " ; take b a ; plus b b h ; put a b"))) (yc (xOp ycQ (xC (.str "let c ")) (yd 4)) (yc (xOp ycQ (yd 2) (xC (.str " ; take b a"))) (yh))))) 5) (yvW 5 (yl (yls (yqi ysO (yd 5) (xFz (ydY (yc (xOp ycQ (yd 2) (xC (.str " ; put a c"))) (yc (xOp ycQ (yd 2) (xC (.str " ; take b a ; if b ( ) else ( wait )"))) (yh)))))) 5) (yl (ybs (xOp ycQ (xOp ycQ (xC (.str "either ( ")) (yd 2)) (xC (.str " ; take b a ; put a h ; if b ( wait ) else ( ) ) or"))) (yp 6)) (yl (yfW 5 (xOp ycQ (xOp ycQ (xOp ycQ (yd 6) (xC (.str " ( let c "))) (yd 4)) (xC (.str " )")))) (yl (ybs (xOp ycQ (xOp ycQ (xC (.str "try ( ")) (yd 2)) (xC (.str " ; put a h ; take b a ; throw x c ) on x e ( "))) (yp 6)) (yl (yfW 5 (xOp ycQ (xOp ycQ (yd 6) (yd 3)) (xC (.str " ; take f d )")))) (yl (yfW 5 (xOp ycQ (yd 2) (xC (.str " ; take b a ; if b ( throw y b ) else ( )")))) (yl (ybs (xOp ycQ (xOp ycQ (yd 2) (xC (.str " ; "))) (yd 3)) (yp 3)) (yl (yfW 5 (xOp ycQ (yd 3) (xC (.str " ; take b a ; take e d ; less f b e ; if f ( put a e ; put d b ) else ( )")))) (yl (yfW 5 (xOp ycQ (yd 3) (xC (.str " ; take b a ; if b ( minus b b h ; put a b ; put d h ) else ( wait )")))) (yvW 5 (yQ (xOp (ybC) (yd 5) (xOp oMod (yd 1) (xC (.int 10)))))))))))))))))))))
def yet:Fn:=ybk 2 (yl (ybs (xFz (ydY (yc (yd 0) (yc (xOp oMod (xOp yxG (yd 0) (xC (.int 69621))) (xC (.int 2147483629))) (yc (xOp oMod (xOp yxG (yd 0) (xC (.int 40692))) (xC (.int 2147483399))) (yh)))))) (yp 1)) (yQ (xBM isStr (yoW) (xC (.str " ; ")) (yc (xFz (yqi ysO (xFz (ydY (yc (xC (.str "let h 1")) (yh)))) (xFz (yel (xIL (xFz (yqk yoU (yd 1) (ydT) (ygU (xOp yfi (xC (.int 1)) (xOp oMod (yd 0) (xC (.int 3)))))))) [] (yW ydf (yc (yd 0) (yh))))))) (yh)))))
def ydL:Fn:=ybk 1 (yQ (xFz (yel (yiT (yc (xOp yfi (xC (.int 2)) (xOp oMod (yd 0) (xC (.int 2)))) (yh))) [0] (xOp oMod (xOp oDiv (xOp oDiv (yd 1) (xC (.int 12))) (xOp yfi (yd 0) (xC (.int 1)))) (xC (.int 3))))))
def haB:XS:=yZ (xBM yfj (yfZ) (xOp (ybC) (yd 2) (xOp oMod (yd 4) (xCB (yba) (yc (yd 2) (yh))))) (yc (yW yet (yc (xOp oMod (xOp (ybC) (yd 3) (yd 4)) (xOp yCF (xC (.int 10)) (xC (.int 40)))) (yh))) (yh)))
def ydM:Fn:=ybk 5 (yl (ybs (ygI (yel (yiT (yc (xOp yfi (xC (.int 2)) (xOp oMod (xOp oDiv (yd 1) (xC (.int 2))) (xC (.int 3)))) (yh))) [] (ygI (ydY (yh))))) (yp 2)) (yl (ybs (xFz (yqk yoU (yd 0) (ygU (xC (.int 1))) (ygU (xC (.int 13))))) (yp 3)) (yl (yiS (yiT (yc (xCB (yba) (yc (yd 3) (yh))) (yh))) (yp 4) (haB)) (yQ (yd 2)))))
def tuB:XS:=yl (yfW 2 (xOp oMod (yd 4) (yd 1))) (ybD (yjG (yr (yd 5))) (ybs (xOp oDiv (yd 4) (yd 1)) (yp 4)) (yM))
def ydg:Fn:=ybk 7 (yl (yls (ydY (yh)) 2) (yl (yiS (xIL (xFz (yqk yoU (yd 0) (ydT) (ygU (xC (.int 40)))))) (yp 3) (yl (ybs (xOp oMod (xOp yxG (yd 3) (xC (.int 16807))) (xC (.int 2147483587))) (yp 4)) (yl (ybs (xOp (oEq) (xOp oMod (yd 4) (xC (.int 5))) (xC (.int 0))) (yp 5)) (yl (ybs (xOp oDiv (yd 4) (xC (.int 5))) (yp 4)) (yiS (yiT (yc (xC (.int 6)) (yh))) (yp 6) (tuB)))))) (yvW 2 (yQ (yd 2)))))
def lsB:XS:=ybD (yqj (yr (xOp (oNe) (xOp (ybc) (yd 4) (xC (.int 0))) (yd 1))) (yr (xOp (ysQ false) (yd 3) (xFz (yel (xIL (xOp (ybc) (yd 4) (xC (.int 4)))) [] (xOp (yzx) (yd 0) (xC (.int 0)))))))) (yQ (xC (.bl true))) (yM)
def ybR:Fn:=ybk 5 (yl (yjg (yd 2) (yp 3) (yiS (xIL (xFz (yqk yoU (yd 0) (ygU (yfk (yd 2) (yd 3))) (ydT)))) (yp 4) (lsB))) (yQ (xC (.bl false))))
def nwE:XE:=xFz (ydY (yc (xUn ytL (xC (.int 1))) (yc (ygI (ync)) (yh))))
def edW:XS:=ybs (yfh (xOp (oEq) (xOp (ybC) (yd 3) (yd 6)) (xC (.str "asleep"))) (xCB (yri) (yc (xFz (yel (xIL (yd 5)) [1,6] (yuh false (yd 0) (xOp (ybC) (xOp (ybC) (yd 1) (yd 2)) (xC (.int 1)))))) (yh)))) (yp 7)
def edC:XS:=ybD (yqj (yr (xOp (oNe) (yd 6) (yd 2))) (yr (xOp (oNe) (yj 15 "state" ybq (yd 0) (yc (yd 6) (yh))) (xOp (ybC) (xFz (ydY (yc (xOp (ybC) (yd 3) (yd 6)) (yc (xC (.str "awake")) (yh))))) (xCB (yqC) (yc (yd 7) (yh))))))) (yQ (xC (.bl false))) (yM)
def ycB:Fn:=ybk 8 (yl (ybD (xOr (yr (xOp (oEq) (xCB (yba) (yc (yd 4) (yh))) (xC (.int 0)))) (xOr (yr (xOp (oNe) (xOp (ybc) (xOp (ybC) (yd 4) (xUn ytL (xC (.int 1)))) (xC (.int 0))) (yd 2))) (yr (xOp (ysQ true) (yj 15 "state" ybq (yd 0) (yc (yd 2) (yh))) (yfz (yc (xC (.str "awake")) (yc (xC (.str "ended")) (yh)))))))) (yQ (xC (.bl false))) (yM)) (yl (ybs (xFz (yel (xIL (xOp (ybc) (xOp (ybC) (yd 4) (xUn ytL (xC (.int 1)))) (xC (.int 4)))) [] (xOp (yzx) (yd 0) (xC (.int 0))))) (yp 5)) (yl (yea (yd 1) (yd 2) (nwE)) (yl (yiS (yiT (yc (xCB (yba) (yc (yd 3) (yh))) (yh))) (yp 6) (yl (edW) (yl (ybD (yr (yd 7)) (yea (yd 1) (yd 6) (nwE)) (yM)) (edC)))) (yQ (xC (.bl true)))))))
def osB:XS:=ybD (yr (xOp (oNe) (yj 15 "state" ybq (yd 0) (yc (yd 4) (yh))) (xOp (ybC) (xFz (ydY (yc (xOp (ybC) (yd 2) (yd 4)) (yc (yd 3) (yh))))) (xCB (yqC) (yc (xOp (oEq) (yd 4) (yd 1)) (yh)))))) (yQ (xC (.bl false))) (yM)
def yG:Fn:=ybk 5 (yl (yiS (yiT (yc (xCB (yba) (yc (yd 2) (yh))) (yh))) (yp 4) (osB)) (yQ (xC (.bl true))))
def wq9:XS:=yl (ybD (yr (xOp (oEq) (xOp (ybc) (yd 3) (xC (.int 0))) (xC (.str "seen")))) (yl (ybD (yr (xOp (oNe) (xCB (yba) (yc (yd 3) (yh))) (xC (.int 4)))) (yQ (xC (.bl false))) (yM)) (yiz (yd 8) (xOp (ybc) (yd 3) (xC (.int 2))) (xCB (yba) (yc (yd 6) (yh))))) (yM)) (yl (ybD (yr (xOp (oEq) (xOp (ybc) (yd 3) (xC (.int 0))) (xC (.str "asleep")))) (yQ (yW yG (yc (yd 0) (yc (yd 2) (yc (yd 4) (yc (xC (.str "asleep")) (yh))))))) (yM)) (yQ (yfh (xOp (ysQ false) (xOp (ybc) (yd 3) (xC (.int 0))) (yfz (yc (xC (.str "gone")) (yc (xC (.str "seen")) (yh))))) (yW yG (yc (yd 0) (yc (yd 2) (yc (yd 4) (yc (xC (.str "awake")) (yh)))))))))
def wq8:XS:=yl (ybD (yr (xOp (oEq) (xOp (ybc) (yd 3) (xC (.int 0))) (xC (.str "anew")))) (yl (yea (yd 1) (yd 2) (nwE)) (yQ (yfh (yW ybR (yc (yd 6) (yc (yd 2) (yc (yd 8) (yh))))) (yW yG (yc (yd 0) (yc (yd 2) (yc (yd 4) (yc (xC (.str "awake")) (yh))))))))) (yM)) (wq9)
def ycV:Fn:=ybk 9 (yl (ybD (yr (xOp (yzy) (yd 3) (yfz (yc (xC (.str "idle")) (yh))))) (yQ (yfh (xOp (oNe) (xOp (ybC) (yd 4) (yd 2)) (xC (.str "awake"))) (yfh (xOp (oEq) (xCB (yba) (yc (yd 6) (yh))) (yd 5)) (yW yG (yc (yd 0) (yc (yd 2) (yc (yd 4) (yc (xOp (ybC) (yd 4) (yd 2)) (yh))))))))) (yM)) (yl (ybD (xOr (yr (xOp (oNe) (xOp (ybC) (yd 4) (yd 2)) (xC (.str "awake")))) (xOr (yjG (yr (xCB (yiZ yeo) (yc (yd 3) (yc (xC (.ty "tuple")) (yh)))))) (xOr (yr (xOp (oLt) (xCB (yba) (yc (yd 3) (yh))) (xC (.int 2)))) (yjG (yr (yW yeP (yc (xOp (ybc) (yd 3) (xC (.int 1))) (yh)))))))) (yQ (xC (.bl false))) (yM)) (yl (ybs (xOp (ybC) (yd 1) (yd 2)) (yyu 2 (yjJ (yp 7) (yjJ (yp 8) (yzu))))) (yl (ybD (xOr (yr (xOp (oLe) (xOp (ybc) (yd 3) (xC (.int 1))) (yd 7))) (yqj (yr (xOp (oLt) (yd 7) (xC (.int 0)))) (yr (xOp (oNe) (xOp (ybc) (yd 3) (xC (.int 1))) (xC (.int 0)))))) (yQ (xC (.bl false))) (yM)) (yl (ybD (xOr (yr (xOp (oEq) (xOp (ybc) (yd 3) (xC (.int 0))) (xC (.str "done")))) (yr (xOp (oEq) (xOp (ybc) (yd 3) (xC (.int 0))) (xC (.str "fell"))))) (yQ (yfh (xOp (oEq) (xCB (yba) (yc (yd 6) (yh))) (xOp yfi (yd 5) (xC (.int 1)))) (yW ycB (yc (yd 0) (yc (yd 1) (yc (yd 2) (yc (yd 4) (yc (yd 6) (yh))))))))) (yM)) (yl (ybD (yr (xOp (oNe) (xCB (yba) (yc (yd 6) (yh))) (yd 5))) (yQ (xC (.bl false))) (yM)) (yl (yea (yd 1) (yd 2) (xFz (ydY (yc (xOp (ybc) (yd 3) (xC (.int 1))) (yc (yd 8) (yh)))))) (wq8))))))))
def lwB:XS:=yl (ybs (xFz (yel (yiT (yc (xCB (yba) (yc (yd 2) (yh))) (yh))) [3] (yj 15 "state" ybq (yd 1) (yc (yd 0) (yh))))) (yp 7)) (yl (ybs (xCB (yba) (yc (yd 5) (yh))) (yp 8)) (yl (ybs (yj 15 "turn" yF (yd 3) (yc (yd 6) (yh))) (yp 9)) (yl (ybs (yj 15 "journal" ydc (yd 3) (yh)) (yp 5)) (ybD (yjG (yr (yW ycV (yc (yd 3) (yc (yd 4) (yc (yd 6) (yc (yd 9) (yc (yd 7) (yc (yd 8) (yc (yd 5) (yh))))))))))) (yQ (xC (.bl false))) (yM)))))
def yuN:Fn:=ybk 10 (yl (ybs (xOp oMod (yW ycv (yc (yd 0) (yc (xC (.int 0)) (yh)))) (xOp yCF (xC (.int 10)) (xC (.int 30)))) (yp 1)) (yl (ybs (yW ydM (yc (yd 0) (yc (yd 1) (yh)))) (yp 2)) (yl (ybs (yje 15 ycH (yc (yW ydL (yc (yd 1) (yh))) (yc (xFz (yew (yd 2) [] (xFz (yhm (yX) (yc (yd 0) (yh)))))) (yh)))) (yp 3)) (yl (ybs (ygI (yew (yd 2) [] (nwE))) (yp 4)) (yl (ybs (xFz (ydY (yh))) (yp 5)) (yl (yiS (xIL (yW ydg (yc (yd 0) (yc (xCB (yba) (yc (yd 2) (yh))) (yh))))) (yp 6) (lwB)) (yQ (xC (.bl true)))))))))
noncomputable abbrev tI (n:Int):Str:=Str.ofString (toString n)
noncomputable abbrev B64:Int:=18446744073709551616
theorem ywq:("":Str).length=0:=by rfl'
theorem ydx (a b:Str):(a++b).length=a.length+b.length:=by
 show (a.cps++b.cps).size=_
 simp [Str.length]
theorem ylP (a b c:Str):a++b++c=a++(b++c):=by
 show (⟨a.cps++b.cps++c.cps⟩:Str)=⟨a.cps++(b.cps++c.cps)⟩
 rw [Array.append_assoc]
theorem yry a {b:Int}(h:0<b):0<=a%b/\a%b<b:=⟨Int.emod_nonneg a (by omega),Int.emod_lt_of_pos a h⟩
theorem yrz:B64<10 ^ 20:=by decide
theorem yuO sep x r (h:1<=x.length):1<=(Str.join sep (x::r)).length:=by
 cases r with
 | nil=>exact h
 | cons y r =>
  show 1<=(x++sep++Str.join sep _).length
  rw [ydx,ydx];omega
noncomputable def yrA (m:Nat):List Nat:=(Nat.toDigits 10 m).map Char.toNat
theorem yBE:∀ d,d<10->(Nat.digitChar d).toNat=48+d:=by
 intro d h
 have:d=0\/d=1\/d=2\/d=3\/d=4\/d=5\/d=6\/d=7\/d=8\/d=9:=by omega
 rcases this with rfl|rfl|rfl|rfl|rfl|rfl|rfl|rfl|rfl|rfl
 all_goals decide
theorem yuP cs (c:Nat):yxe (cs++[c])=yxe cs*10+(c-48):=by
 unfold yxe
 simp_all
theorem yrB:∀ m:Nat,yrA m≠[]/\(∀ c∈yrA m,48<=c/\c<=57)/\yxe (yrA m)=m/\(m≠0->(yrA m)[0]?≠some 48):=by
 intro m
 induction m using Nat.strongRecOn with
 | ind m ih =>
  unfold yrA at *
  by_cases h:m<10
  .rw [Nat.toDigits_of_lt_base h,List.map_singleton,yBE m h]
   refine ⟨by simp,fun c d=>?_,?_,fun i e=>?_⟩
   .rw [List.mem_singleton.mp d];omega
   .show (0:Int)*10+(((48+m:Nat):Int)-48)=m
    omega
   .have:48+m=48:=by simpa using e
    omega
  .rw [Nat.toDigits_of_base_le (by decide) (by omega),map_append,List.map_singleton,yBE (m%10) (by omega)]
   obtain ⟨h1,h2,f,g⟩:=ih (m/10) (by omega)
   refine ⟨by simp,fun c d=>?_,?_,fun _ e=>?_⟩
   .rcases List.mem_append.mp d with d|d
    .exact h2 c d
    .rw [List.mem_singleton.mp d];omega
   .rw [yuP,f];omega
   .refine g (by omega) ?_
    generalize (Nat.toDigits 10 (m/10)).map Char.toNat=l at *
    cases l with
    | nil=>exact absurd rfl h1
    | cons a l=>simpa using e
theorem yrC {n:Int}(h:0<=n):(Str.ofString (toString n)).cps.toList=yrA n.toNat:=by
 obtain ⟨m,rfl⟩:∃ m:Nat,n=m:=⟨n.toNat,by omega⟩
 rw [Str.ofString_eq_toList]
 show (toString m).toList.map Char.toNat=_
 rw [show toString m=m.repr from rfl,Nat.toList_repr];rfl
theorem yhq {sep:Str}:∀ {a b:List Str},a≠[]->b≠[]->Str.join sep (a++b)=Str.join sep a++sep++Str.join sep b
 | [],_,h,_=>absurd rfl h
 | [x],[],_,h=>absurd rfl h
 | [x],y::b,_,_=>rfl
 | x::y::a,b,_,d=>by
  have e:=yhq (sep:=sep) (a:=y::a) (fun z=>by cases z) d
  show x++sep++Str.join sep (y::a++b)=x++sep++Str.join sep _++sep++Str.join sep b
  rw [e];simp only [ylP]
theorem yrD {sep x:Str}{b:List Str}(h:b≠[]):Str.join sep (x::b)=x++sep++Str.join sep b:=yhq (a:=[x]) (fun z=>by cases z) h
theorem yBF:(" ; ":Str) = " "++";"++" ":=by rfl'
noncomputable def fr (w:Str):Prop:=32∉w.cps.toList/\w.length≠0/\w.length<=20
theorem ywr {n:Int}(h:0<=n) (h2:n<B64):fr (toString n):=by
 have e:=yrC h
 obtain ⟨b,c,_⟩:=yrB n.toNat
 refine ⟨fun z=>?_,fun z=>b ?_,str_len h (by decide) (Int.lt_trans h2 yrz)⟩
 .rw [e] at z
  have:=c _ z
  omega
 .rw [<- e]
  have:(Str.ofString _).cps.size=0:=z
  simp_all
theorem yhb s (h:decide (32∉s.cps.toList/\s.length≠0/\s.length<=20)=true):fr s:=show 32∉s.cps.toList/\s.length≠0/\s.length<=20 from of_decide_eq_true h
def frs (l:List Str):Prop:=∀ w∈l,fr w
theorem yeQ {a b:List Str}(h:frs a) (k:frs b):frs (a++b):=fun x d=>(List.mem_append.mp d).elim (h x) (k x)
theorem yyE {sep:Str}{l:List Str}(h:frs l) (hl:l≠[]):Str.join sep l≠"":=by
 cases l with
 | nil=>exact absurd rfl hl
 | cons x r =>
  intro e
  have h1:=(h x mem_cons_self).2.1
  have:=yuO sep x r
  rw [e,ywq] at this
  omega
theorem ykh sep (hs:sep.length<=3):∀ l,frs l->(Str.join sep l).length<=23*l.length
 | [],_=>by show ("":Str).length<=_;rw [ywq];omega
 | [x],f=>by have:=(f x mem_cons_self).2.2;show x.length<=23*1;omega
 | x::y::r,f=>by
  have h1:=(f x mem_cons_self).2.2
  have h2:=ykh sep hs _ fun w b=>f w (mem_cons_of_mem _ b)
  show (x++sep++Str.join sep _).length<=23*((y::r).length+1)
  rw [ydx,ydx]
  omega
theorem ylQ:(("throw":Str) = "take")=False:=eq_false (by rfl')
theorem ygO:(("throw":Str) = "wait")=False:=eq_false (by rfl')
theorem ynj:(("wait":Str) = "take")=False:=eq_false (by rfl')
section
variable {h:AH}
theorem yrE {i:Nat}{ρ:PSt}{xs:List PV}(e:yd i ρ h=some (.lst xs,h)):xIL (yd i) ρ h=some (xs,h):=yFL e
theorem yEt {z:Str}{i:Nat}{ρ:PSt}(e:yd i ρ h=some (.str z,h)) (hl:z.length<=100000):xIS (yd i) ρ h=some (z.cps.toList.map sgn,h):=by
 unfold xIS
 rw [e]
 exact if_pos hl
theorem ypf {x y:Str}(hl:x.length<=1000):yde [.str x,.str y] h=some (.bl (x.cps.toList.all fun c=>decide (c∈y.cps.toList)),h):=by
 unfold yde
 rw [yo]
 have hz:x.cps.toList.length=x.length:=rfl
 symm
 rw [yEt rfl (by omega),ybL]
 rw [if_pos (by grind)]
 rw [ydU (f:=sgn) (g:=fun c=>.bl _) fun c _=>rfl]
 symm
 unfold yxJ ybE
 rw [show (x.cps.toList.map _)=(x.cps.toList.map _).map PV.bl by rw [map_map];rfl]
 simp only [ylu,List.all_map]
 rfl
theorem yuQ {c:Nat}(h1:48<=c) (h2:c<=57):c∈("0123456789":Str).cps.toList:=by
 rw [show ("0123456789":Str).cps.toList=(List.range 10).map (· + 48) by rfl']
 exact List.mem_map.mpr ⟨c-48,List.mem_range.mpr (by omega),by omega⟩
theorem ylR {n:Int}(g:0<=n) (h1:n<B64):yes [.str (toString n:String)] h=some (.int n,h):=by
 obtain ⟨d1,d2,d3,r⟩:=yrB n.toNat
 have hl:=str_len g (k:=20) (by decide) (Int.lt_trans h1 yrz)
 have t:(Str.ofString (toString n)).length≠0:=(ywr g h1).2.1
 have e:=yrC g
 have hz:n=0->Str.ofString (toString n) = "0":=fun z=>by subst z;rfl'
 have i:atI (Str.ofString (toString n)).cps.toList 0=some ((yrA n.toNat).headD 0):=by
  rw [e]
  cases q:yrA n.toNat with
  | nil=>exact absurd q d1
  | cons a l=>exact yFj
 have p:(yrA n.toNat).headD 0=48->n=0:=fun q=>Classical.byContradiction fun z=>r (by omega) (by
  cases f:yrA n.toNat with
  | nil=>exact absurd f d1
  | cons a l=>rw [f] at q;simpa using q)
 generalize hs:Str.ofString (toString n)=z at *
 unfold yes
 rw [yo]
 show ob (yl _ _ [.val (.str z),.no] h) fnK=_
 have o:=List.all_eq_true.mpr fun c j=>decide_eq_true (yuQ (d2 c (e ▸ j)).1 (d2 c (e ▸ j)).2)
 symm
 rw [if_pos (by omega:z.length<=100000)]
 simp only [show (1:Int)<=z.length by omega,show (z.length:Int)<=20 by omega]
 symm
 rw [ypf (by omega),o]
 symm
 rw [i]
 symm
 have m:∀ h:AH,yqE [.str z] h=some (.int n,h):=fun h=>by
  unfold yqE
  show (if _ then _ else _)=_
  rw [if_pos ⟨by rw [e];exact d1,by rw [e];exact d2,by omega⟩,e,d3,Int.toNat_of_nonneg g]
 rw [if_neg (not_not_intro trivial),if_pos (by omega)]
 simp only [sgn,m]
 symm
 rw [if_pos h1]
 split
 .rename_i q
  have q:(yrA n.toNat).headD 0=48:=by
   have f:=congrArg (fun s:Str=>s.cps.toList) q
   rw [show ("0":Str).cps.toList=[48] by rfl'] at f
   simpa using f
  rw [if_neg (not_not_intro (hz (p q)))]
 .rfl
theorem yBG {sep:Str}{xs:List PV}{ts:List Str}(e:strsOf xs=some ts) (hs:sep.length<=16) (hl:(ts.map (·.length)).sum+ts.length<=1048576):yoW (.str sep) [.lst xs] h=some (.str (Str.join sep ts),h):=by
 unfold yoW ybE
 simp only [e]
 exact if_pos ⟨hs,hl⟩
end
theorem yki:(("minus":Str) = "plus")=False:=eq_false (by rfl')
theorem ykj:(("plus":Str) = "minus")=False:=eq_false (by rfl')
theorem ykk:(("times":Str) = "plus")=False:=eq_false (by rfl')
theorem ykl:(("plus":Str) = "times")=False:=eq_false (by rfl')
theorem yiB:(("times":Str) = "minus")=False:=eq_false (by rfl')
theorem yiC:(("minus":Str) = "times")=False:=eq_false (by rfl')
theorem ylS:(("less":Str) = "plus")=False:=eq_false (by rfl')
theorem ylT:(("plus":Str) = "less")=False:=eq_false (by rfl')
theorem ykm:(("less":Str) = "minus")=False:=eq_false (by rfl')
theorem ykn:(("minus":Str) = "less")=False:=eq_false (by rfl')
theorem yko:(("less":Str) = "times")=False:=eq_false (by rfl')
theorem ykp:(("times":Str) = "less")=False:=eq_false (by rfl')
theorem ylU:(("same":Str) = "plus")=False:=eq_false (by rfl')
theorem ykq:(("same":Str) = "minus")=False:=eq_false (by rfl')
theorem ykr:(("same":Str) = "times")=False:=eq_false (by rfl')
theorem ylV:(("same":Str) = "less")=False:=eq_false (by rfl')
section
variable {h:AH}
noncomputable def Stk (h:AH):List Nat->List (List Key×List PV)->Prop
 | [],[]=>True
 | l::ls,d::ds=>h[l]?=some (.dct d.1 d.2)/\Stk h ls ds
 | _,_=>False
theorem Stk.get {h:AH}:∀ {ls:List Nat}{ds:List _} k,Stk h ls ds->k<ls.length->∃ l d,ls[k]?=some l/\ds[k]?=some d/\h[l]?=some (.dct d.1 d.2)
 | l::ls,d::ds,0,s,_=>⟨l,d,rfl,rfl,s.1⟩
 | l::ls,d::ds,k+1,s,b=>by
  obtain ⟨l',d',e,c,f⟩:=Stk.get k s.2 (by simpa using b)
  simp_all
 | [],[],_,_,b=>by simp at b
 | [],_::_,_,s,_=>s.elim
 | _::_,[],_,s,_=>s.elim
def yws (ds:List (List Key×List PV)) (j:Key):Nat->PV
 | 0=>.non
 | k+1=>match ds[k]? with|some d=>(match yhI d.1 d.2 j with|some x=>x|none=>yws ds j k)|none=>.non
structure LG (h:AH) (o s b:Nat) (ls:List Nat) (ds:List (List Key×List PV)) (ks:List Key) (xs:List PV):Prop where
 ob:h[o]?=some (.ins 11 ["stack","last_seen"] [.loc s,.loc b])
 st:h[s]?=some (.lst (ls.map .loc))
 sn:h[b]?=some (.dct ks xs)
 dl:Stk h ls ds
theorem yfH {o s b:Nat}(e:h[o]?=some (.ins 11 ["stack","last_seen"] [.loc s,.loc b])):yfQ [11] "stack" (.loc o) h=some (.loc s,h):=by
 unfold yfQ ygX
 simp only [e]
 rfl
theorem yrF {o s b:Nat}(e:h[o]?=some (.ins 11 ["stack","last_seen"] [.loc s,.loc b])):yfQ [11] "last_seen" (.loc o) h=some (.loc b,h):=by
 unfold yfQ ygX
 simp only [e]
 rfl
theorem yrG {n:Nat}{l:List Nat}{t:Nat}(e:h[n]?=some (.lst ((l++[t]).map PV.loc))):ybC (.loc n) (.int (-1)) h=some (.loc t,h):=by
 unfold ybC
 simp only [e]
 have:atI ((l++[t]).map PV.loc) (-1)=some (.loc t):=by
  unfold atI ixN
  simp
  rw [if_pos (by omega),show (-1+((l.length:Int)+1)).toNat=l.length by omega]
  simp
 rw [this]
theorem yrH {n:Nat}{ks:List Key}{xs:List PV}{i:Int}{ek ed:XE}{ρ:PSt}(c:ek ρ h=some (.int i,h)) (b:ed ρ h=some (.loc n,h)) (e:h[n]?=some (.dct ks xs)):yuh false ek ed ρ h=some (.bl (yhI ks xs (.inl i)).isSome,h):=by
 unfold yuh
 rw [c,ybL,b,ybL]
 unfold ywe
 simp only [e,keyOf]
 rfl
theorem yuR {n:Nat}{ks:List Key}{xs:List PV}{i:Int}{x:PV}{ek ed:XE}{ρ:PSt}(b:ed ρ h=some (.loc n,h)) (c:ek ρ h=some (.int i,h)) (e:h[n]?=some (.dct ks xs)) (d:yhI ks xs (.inl i)=some x):yfk ed ek ρ h=some (x,h):=by
 unfold yfk
 rw [b,ybL,c,ybL]
 unfold ywe
 simp only [e,keyOf,d]
theorem yhr {n:Nat}{ks:List Key}{xs:List PV}{i:Int}{x:PV}{ed ek ev:XE}{ρ:PSt}(b:ev ρ h=some (x,h)) (c:ed ρ h=some (.loc n,h)) (d:ek ρ h=some (.int i,h)) (e:h[n]?=some (.dct ks xs)) (hl:ks.length<1000) :
  yiz ed ek ev ρ h=some (.nx ρ,h.set n (.dct (ycK ks xs (.inl i) x).1 (ycK ks xs (.inl i) x).2)):=by
 unfold yiz
 rw [b,ybL,c,ybL,d,ybL]
 simp only [e,keyOf]
 rw [if_pos hl]
end
section
variable {h:AH}{o s b:Nat}{ls:List Nat}{ds:List (List Key×List PV)}{ks:List Key}{xs:List PV}
theorem yuS {i:Int}(g:LG h o s b ls ds ks xs):∀ k,k<=ls.length->∀ c,
  ob (yms s true (yp 2) (ybD (yr (yuh false (yd 1) (yd 2))) (yQ (yfk (yd 2) (yd 1))) yM) k (ls.length-k) [.val (.loc o),.val (.int i),c] h) (fun o h1=>ob (sqK (yQ (xC .non)) o h1) fnK)=some (yws ds (.inl i) k,h):=by
 intro k
 induction k with
 | zero =>
  intro _ c
  unfold yms
  simp only [g.st]
  rw [if_pos (by simp),ybL]
  rfl
 | succ k ih =>
  intro n c
  unfold yms
  simp only [g.st]
  obtain ⟨l,d,p,f,a⟩:=g.dl.get k (by omega)
  have j:(ls.map PV.loc)[k]?=some (.loc l):=by simp_all
  simp only [if_true,j]
  have e:yp 2 (.loc l) [.val (.loc o),.val (.int i),c]=some _:=rfl
  rw [e,bind_some,yAM,yvZ,yrH rfl rfl a,ybL,yFh,ybL]
  have ek:ls.length-(k+1)+1=ls.length-k:=by omega
  unfold yws
  simp only [f]
  cases m:yhI d.1 d.2 _ with
  | none =>
   rw [ek]
   exact ih (by omega) _
  | some x =>
   rw [if_pos (show (some x).isSome=true from rfl),yqI,yuR rfl rfl a m,ybL]
   rfl
theorem yBH {i:Int}(g:LG h o s b ls ds ks xs):yec [.loc o,.int i] h=some (yws ds (.inl i) ls.length,h):=by
 unfold yec
 rw [yo]
 show ob (yl _ _ [.val _,.val _,.no] h) fnK=_
 rw [yhG]
 have:=yuS (i:=i) g ls.length (Nat.le_refl _) .no
 rw [sub_self] at this
 rw [yAF,<- this]
 unfold yjZ
 rw [yjP,show yd 0 _ h=some _ from rfl,ybL,yfH g.ob,ybL]
 simp only [g.st,length_map]
theorem yuT {i:Int}{v:PV}{t:Nat}{d:List Key×List PV}(g:LG h o s b (ls++[t]) ds ks xs) (a:h[t]?=some (.dct d.1 d.2)) (hl:d.1.length<1000):yep [.loc o,.int i,v] h=some (.non,h.set t (.dct (ycK d.1 d.2 (.inl i) v).1 (ycK d.1 d.2 (.inl i) v).2)):=by
 unfold yep
 rw [yo,yhG,ytX,yDB,yjP,show yd 0 _ h=some _ from rfl,ybL,yfH g.ob]
 show ob (ob (ob (ybC (.loc s) (.int _) h) _) _) _=_
 rw [yrG g.st]
 show ob (yiz (yd 3) (yd 1) (yd 2) [.val _,.val (.int i),.val v,.val (.loc t)] h) fnK=_
 rw [yhr rfl rfl rfl a hl]
 rfl
theorem yuU (g:LG h o s b ls ds ks xs) (hl:ls.length<1000):yeq [.loc o] h=some (.non,(h++[Nd.dct [] []]).set s (.lst ((ls++[h.length]).map .loc))):=by
 have hs:(h++[Nd.dct [] []])[s]?=some (.lst (ls.map .loc)):=by rw [getElem?_append_left (List.getElem?_eq_some_iff.mp g.st).1];exact g.st
 unfold yeq
 rw [yo,yqH,yCK,yjP,show yd 0 _ h=some _ from rfl,ybL,yfH g.ob,ybL,if_pos (ydt g.st)]
 show ob (ob (yfZ (.loc s) [.loc h.length] (h++[Nd.dct [] []])) _) fnK=_
 rw [yne hs (by rw [length_map];omega),map_append]
 rfl
theorem yrI {n:Nat}{l:List Nat}{t:Nat}(e:h[n]?=some (.lst ((l++[t]).map PV.loc))):ygY (.loc n) [] h=some (.loc t,h.set n (.lst (l.map .loc))):=by
 unfold ygY
 simp only [e]
 have:((l++[t]).map PV.loc)[((l++[t]).map PV.loc).length-1]?=some (.loc t):=by simp
 rw [this]
 simp
theorem yyF {t:Nat}(g:LG h o s b (ls++[t]) ds ks xs):yfa [.loc o] h=some (.non,h.set s (.lst (ls.map .loc))):=by
 unfold yfa
 rw [yo,yqH,yCK,yjP,show yd 0 _ h=some _ from rfl,ybL,yfH g.ob,ybL,if_pos (ydt g.st),ytW,ybL,yrI g.st,ybL]
 rfl
end
section
variable {h:AH}{o s b:Nat}{ls:List Nat}{ds:List (List Key×List PV)}{ks:List Key}{xs:List PV}
theorem yrJ {t u:Nat}{c a:List Key×List PV}(g:LG h o s b (ls++[u]++[t]) ds ks xs) (n:o≠s) (e:u≠s) (f:t≠s) (d:u≠t) (p:h[u]?=some (.dct a.1 a.2)) (i:h[t]?=some (.dct c.1 c.2)) (hl:a.1.length+c.1.length<1000) :
  ydI [.loc o] h=some (.non,(h.set s (.lst ((ls++[u]).map .loc))).set u (.dct (yka c.1 c.2 a.1 a.2).1 (yka c.1 c.2 a.1 a.2).2)):=by
 have hs:=(List.getElem?_eq_some_iff.mp g.st).1
 have j:(h.set s _)[s]?=some (.lst ((ls++[u]).map PV.loc)):=getElem?_set_self hs
 have m:(h.set s (.lst ((ls++[u]).map PV.loc)))[o]?=some _:=(getElem?_set_ne (Ne.symm n)).trans g.ob
 have l:(h.set s (.lst ((ls++[u]).map PV.loc)))[u]?=some _:=(getElem?_set_ne (Ne.symm e)).trans p
 have k:(h.set s (.lst ((ls++[u]).map PV.loc)))[t]?=some _:=(getElem?_set_ne (Ne.symm f)).trans i
 unfold ydI
 rw [yo,yhG,ytX,yCK,yjP,show yd 0 _ h=some _ from rfl,ybL,yfH g.ob,ybL,if_pos (ydt g.st),ytW,ybL,yrI g.st,ybL]
 generalize q:h.set s _=h1 at *
 show ob (yl _ _ _ h1) fnK=_
 rw [yhG,ytX,yDB,yjP,show yd 0 _ h1=some _ from rfl,ybL,yfH m]
 show ob (ob (ob (ybC (.loc s) (.int _) h1) _) _) _=_
 rw [yrG j,ybL]
 show ob (yZ _ _ h1) fnK=_
 show ob (ob (if yqZ _ h1=true then yBc (.loc u) [.loc t] h1 else none) _) fnK=_
 rw [if_pos (by unfold yqZ yly;simp_all)]
 unfold yBc
 simp only [l,k]
 rw [if_pos ⟨d,hl⟩,ybL]
 rfl
end
noncomputable def At (h:AH) (m:List (Nat×Nd)):Prop:=(m.map (·.1)).Nodup/\∀ p∈m,h[p.1]?=some p.2
section
variable {h:AH}{m a b:List (Nat×Nd)}
theorem At.get (A:At h m) (i:Nat) {n:Nat}{d:Nd}(e:m[i]?=some (n,d)):h[n]?=some d:=A.2 _ (mem_of_getElem? e)
theorem At.lt (A:At h m) {p:Nat×Nd}(hp:p∈m):p.1<h.length:=(List.getElem?_eq_some_iff.mp (A.2 p hp)).1
theorem At.upd {n:Nat}{d:Nd} d' (A:At h (a++(n,d)::b)):At (h.set n d') (a++(n,d')::b):=by
 have e:=A.lt (p:=(n,d)) (by simp)
 refine ⟨by have:=A.1;simpa using this,fun p hp=>?_⟩
 by_cases q:p.1=n
 .have:p=(n,d'):=by
   have c:=A.1
   rw [map_append,List.nodup_append] at c
   rcases List.mem_append.mp hp with z|z
   .exact absurd q (c.2.2 _ (List.mem_map_of_mem z) _ mem_cons_self)
   .rcases mem_cons.mp z with z|z
    .exact z
    .exact absurd (show n∈b.map _ by rw [<- q];exact List.mem_map_of_mem z) (List.nodup_cons.mp c.2.1).1
  rw [this,getElem?_set_self e]
 .rw [getElem?_set_ne fun z=>q z.symm]
  refine A.2 p ?_
  rcases List.mem_append.mp hp with z|z
  .exact mem_append_left _ z
  .rcases mem_cons.mp z with z|z
   .exact absurd (by rw [z]) q
   .exact mem_append_right _ (mem_cons_of_mem _ z)
theorem At.new d (A:At h (a++b)):At (h++[d]) (a++(h.length,d)::b):=by
 have lt:∀ p∈a++b,p.1<h.length:=fun p hp=>A.lt hp
 refine ⟨?_,fun p hp=>?_⟩
 .have c:=A.1
  rw [map_append,List.nodup_append] at c
  rw [map_append,List.nodup_append]
  refine ⟨c.1,List.nodup_cons.mpr ⟨fun z=>?_,c.2.1⟩,fun x g y f=>?_⟩
  .obtain ⟨p,hp,e⟩:=List.mem_map.mp z
   grind
  .rcases mem_cons.mp f with rfl|f
   .obtain ⟨p,hp,e⟩:=List.mem_map.mp g
    grind
   .exact c.2.2 x g y f
 .rcases List.mem_append.mp hp with z|z
  .rw [getElem?_append_left (lt p (mem_append_left _ z))];exact A.2 p (mem_append_left _ z)
  .rcases mem_cons.mp z with z|z
   .rw [z];simp
   .rw [getElem?_append_left (lt p (mem_append_right _ z))];exact A.2 p (mem_append_right _ z)
theorem At.sub {m':List _}(A:At h m) (s:m'.Sublist m):At h m':=⟨(s.map _).nodup A.1,fun p hp=>A.2 p (s.subset hp)⟩
theorem At.perm {m':List _}(A:At h m) (s:m'.Perm m):At h m':=⟨(s.map _).nodup_iff.mpr A.1,fun p hp=>A.2 p (s.subset hp)⟩
theorem fl {n k:Nat}{ns:List Str}{xs:List PV} i {cs:List Nat}{f:Str}{y:PV}(e:h[n]?=some (.ins k ns xs)) (d:k∈cs) (c:(decide (f∈ns) && ns.idxOf f == i)=true) (g:xs[i]?=some y):yfQ cs f (.loc n) h=some (y,h):=by
 obtain ⟨h1,h2⟩:=Bool.and_eq_true_iff.mp c
 unfold yfQ ygX
 simp_all
noncomputable def yuV (nu ma cr en:Nat):Nd:=.ins 15 ["numbers","marks","crew","entries"] [.loc nu,.loc ma,.loc cr,.loc en]
def ydy (ds:List PV) (w nth:Int) (sl:Bool) (bf:List Int) (rn:Nat):Nd:=.ins 14 ["deeds","width","nth","sleeps","before","run"] [.lst ds,.int w,.int nth,.bl sl,.lst (bf.map .int),.loc rn]
noncomputable def yks (hl:Nat) (w:Int) (lg:Nat) (rows:List PV) (t:Int) (sn sd:Nat):Nd:=.ins 12 ["held","width","log","rows","at","seen_stamps","sides"] [.loc hl,.int w,.loc lg,.lst rows,.int t,.loc sn,.loc sd]
theorem ydz {n nu ma c en:Nat}(e:h[n]?=some (yuV nu ma c en)):yfQ [15] "numbers" (.loc n) h=some (.loc nu,h)/\yfQ [15] "marks" (.loc n) h=some (.loc ma,h)/\yfQ [15] "crew" (.loc n) h=some (.loc c,h)/\yfQ [15] "entries" (.loc n) h=some (.loc en,h) :=
 ⟨fl 0 e (by decide) (rfl) rfl,fl 1 e (by decide) (rfl) rfl,fl 2 e (by decide) (rfl) rfl,fl 3 e (by decide) (rfl) rfl⟩
theorem ydN {n:Nat}{ds:List PV}{w nth:Int}{sl:Bool}{bf:List Int}{c:Nat}(e:h[n]?=some (ydy ds w nth sl bf c)):yfQ [14] "deeds" (.loc n) h=some (.lst ds,h)/\yfQ [12,14] "width" (.loc n) h=some (.int w,h)/\yfQ [14] "nth" (.loc n) h=some (.int nth,h)/\yfQ [14] "sleeps" (.loc n) h=some (.bl sl,h)/\yfQ [14] "before" (.loc n) h=some (.lst (bf.map .int),h)/\yfQ [14] "run" (.loc n) h=some (.loc c,h) :=
 ⟨fl 0 e (by decide) (rfl) rfl,fl 1 e (by decide) (rfl) rfl,fl 2 e (by decide) (rfl) rfl,fl 3 e (by decide) (rfl) rfl,fl 4 e (by decide) (rfl) rfl,fl 5 e (by decide) (rfl) rfl⟩
theorem ycM {n hl:Nat}{w:Int}{c:Nat}{rows:List PV}{t:Int}{sn sd:Nat}(e:h[n]?=some (yks hl w c rows t sn sd)):yfQ [12] "held" (.loc n) h=some (.loc hl,h)/\yfQ [12,14] "width" (.loc n) h=some (.int w,h)/\yfQ [12] "log" (.loc n) h=some (.loc c,h)/\yfQ [12] "rows" (.loc n) h=some (.lst rows,h)/\yfQ [10,12] "at" (.loc n) h=some (.int t,h)/\yfQ [12] "seen_stamps" (.loc n) h=some (.loc sn,h)/\yfQ [12] "sides" (.loc n) h=some (.loc sd,h) :=
 ⟨fl 0 e (by decide) (rfl) rfl,fl 1 e (by decide) (rfl) rfl,fl 2 e (by decide) (rfl) rfl,fl 3 e (by decide) (rfl) rfl,fl 4 e (by decide) (rfl) rfl,fl 5 e (by decide) (rfl) rfl,fl 6 e (by decide) (rfl) rfl⟩
end
def mK (k:Nat) (m:Str) (f:Fn) (as:XA) (ρ:PSt) (x:PV) (h1:AH):Option (PV×AH):=match ygX x h1 with
 | some (k',ns,_)=>if k'=k/\m∉ns then ob (as ρ h1) fun ys h2=>f (x::ys) h2 else none
 | none=>none
def fL (cs:List Nat) (f:Str) (ρ:PSt) (y x:PV) (h2:AH):Option (Out×AH):=match x with
 | .loc n=>(match h2[n]? with|some (.ins k ns xs)=>if k∈cs/\ns.length<1000 then some (.nx ρ,h2.set n (.ins k (putN f y ns xs).1 (putN f y ns xs).2)) else none|_=>none)
 | _=>none
section
variable {h:AH}{ρ:PSt}
theorem ycs {k:Nat}{m:Str}{f:Fn}{e:XE}{b:XA}:yj k m f e b ρ h=ob (e ρ h) fun x h1=>mK k m f b ρ x h1:=id rfl
theorem ypy {cs:List Nat}{f:Str}{eo ev:XE}:ycR cs f eo ev ρ h=ob (ev ρ h) fun y h1=>ob (eo ρ h1) fun x h2=>fL cs f ρ y x h2:=id rfl
theorem yH {n k:Nat}{ns:List Str}{xs:List PV}{m:Str}{f:Fn}{b:XA}(e:h[n]?=some (.ins k ns xs)) (c:decide (m∈ns)=false):mK k m f b ρ (.loc n) h=ob (b ρ h) fun ys h2=>f (.loc n::ys) h2:=by
 unfold mK ygX
 simp_all
theorem yeR {n k:Nat}{ns ns':List Str}{xs xs':List PV}{cs:List Nat}{f:Str}{y:PV}(e:h[n]?=some (.ins k ns xs)) (b:(decide (k∈cs) && decide (ns.length<1000))=true) (hp:putN f y ns xs=(ns',xs')):fL cs f ρ y (.loc n) h=some (.nx ρ,h.set n (.ins k ns' xs')):=by
 obtain ⟨h1,h2⟩:=Bool.and_eq_true_iff.mp b
 unfold fL
 simp only [e]
 rw [if_pos ⟨of_decide_eq_true h1,of_decide_eq_true h2⟩,hp]
end
noncomputable def W5:List Str:=["plus","minus","times","less","same"]
theorem ywt {w:Str}(h:w∈W5):w = "plus"\/w = "minus"\/w = "times"\/w = "less"\/w = "same":=by simpa [W5] using h
inductive Rw where
 | let_ (r:Str) (n:Int)|take (r p:Str)|put (p s:Str)|throw (nm r:Str)|wait|either (k:Int)|guard (nm r:Str) (k:Int)|settle|reckon (w r s t:Str)|jump (k:Int)|unl (s:Str) (k:Int)|lay
noncomputable def yV:Rw->PV
 | .let_ r n=>.tup [.str "let",.str r,.int n]
 | .take r p=>.tup [.str "take",.str r,.str p]
 | .put p s=>.tup [.str "put",.str p,.str s]
 | .throw nm r=>.tup [.str "throw",.str nm,.str r]
 | .wait=>.tup [.str "wait"]
 | .either k=>.tup [.str "either",.int k]
 | .guard nm r k=>.tup [.str "guard",.str nm,.str r,.int k]
 | .settle=>.tup [.str "settle"]
 | .jump k=>.tup [.str "jump",.int k]
 | .unl s k=>.tup [.str "unless",.str s,.int k]
 | .reckon w r s t=>.tup [.str w,.str r,.str s,.str t]
 | .lay=>.tup [.str "lay"]
noncomputable def rdr (ws:List Str) (k:Nat):Nd:=.ins 10 ["words","at"] [.lst (ws.map .str),.int k]
def hR (h:AH) (o:Nat) (ws:List Str) (k:Nat):AH:=h.set o (rdr ws k)
noncomputable def hdV:List Str->PV
 | []=>.non
 | w::_=>.str w
def Tk (m:Str) (f:Fn) (xs:List PV) (v:PV) (w:List Str):Prop:=∀ ⦃h:AH⦄ ⦃o:Nat⦄ ⦃ws:List Str⦄ ⦃k:Nat⦄ ⦃r:List Str⦄ ⦃as:XA⦄ ⦃ρ:PSt⦄,o<h.length/\ws.length<=100000->ws.drop k=w++r->as ρ (hR h o ws k)=some (xs,hR h o ws k)->mK 10 m f as ρ (.loc o) (hR h o ws k)=some (v,hR h o ws (k+w.length))
section
variable {h:AH}{o:Nat}{ws:List Str}{k:Nat}{w m:Str}{r:List Str}{f:Fn}{xs:List PV}{v:PV}{ρ:PSt}
theorem ypg (b:o<h.length):(hR h o ws k)[o]?=some (rdr ws k):=getElem?_set_self b
theorem Tk.mk {w:List Str}(c:decide (m∈(["words","at"]:List Str))=false) (H:∀ {h:AH}{o:Nat}{ws:List Str}{k:Nat}{r:List Str},o<h.length/\ws.length<=100000->ws.drop k=w++r->f (.loc o::xs) (hR h o ws k)=some (v,hR h o ws (k+w.length))):Tk m f xs v w:=fun _ _ _ _ _ _ _ G e b=>by
 rw [yH (ypg G.1) c,b,ybL,H G e]
theorem yoo (b:o<h.length):yfQ [10] "words" (.loc o) (hR h o ws k)=some (.lst (ws.map .str),hR h o ws k):=fl 0 (ypg b) (by decide) (rfl) rfl
theorem yyG (b:o<h.length):yfQ [10,12] "at" (.loc o) (hR h o ws k)=some (.int k,hR h o ws k):=fl 1 (ypg b) (by decide) (rfl) rfl
theorem pR {j:Nat}(b:o<h.length):fL [10,12] "at" ρ (.int j) (.loc o) (hR h o ws k)=some (.nx ρ,hR h o ws j):=(yeR (ns':=["words","at"]) (xs':=[.lst (ws.map _),.int j]) (ypg b) (rfl) (rfl)).trans (by unfold hR rdr;rw [List.set_set])
theorem yFr (e:ws.drop k=w::r):ws[k]?=some w/\k<ws.length/\ws.drop (k+1)=r:=by
 have b:k<ws.length:=Classical.byContradiction fun z=>by rw [List.drop_of_length_le (by omega)] at e;cases e
 rw [List.drop_eq_getElem_cons b] at e
 cases e
 exact ⟨List.getElem?_eq_getElem b,b,rfl⟩
theorem d_1 (e:ws.drop k=w::r):ws.drop (k+1)=r:=(yFr e).2.2
theorem yph {a b:List Str}(e:ws.drop k=a++b):ws.drop (k+a.length)=b:=by
 rw [<- List.drop_drop,e,List.drop_left]
variable (G:o<h.length/\ws.length<=100000)
include G
theorem yeu (e:ws.drop k=r):mK 10 "ahead" ybo yh ρ (.loc o) (hR h o ws k)=some (hdV r,hR h o ws k):=by
 rw [yH (ypg G.1) (by rfl'),ytW,ybL]
 unfold ybo
 rw [yo]
 show ob (yl _ _ [.val _] _) fnK=_
 cases r with
 | nil=>simp_all? only [yoo G.1,yyG G.1,length_map,Int.ofNat_lt,show ¬ k<ws.length from by simp_all,G.2,hdV,↓reduceIte]
 | cons w r =>
  obtain ⟨c,d,_⟩:=yFr e
  have g:atI (ws.map PV.str) k=some _:=ydi (by rw [getElem?_map,c];rfl)
  simp_all? only [yoo G.1,yyG G.1,length_map,Int.ofNat_lt,d,g,G.2,hdV,↓reduceIte]
end
section
variable {w nm a b c:Str}{n:Int}
theorem ynk {w:Str}:(isN (.str w)=true)=False:=eq_false (by intro z;cases z)
theorem yyH {w:Int}:(isN (.int w)=true)=False:=eq_false (by intro z;cases z)
theorem yfI:Tk "taken" ybp [] (.str w) [w]:=.mk (rfl) fun {h o ws k r} G e=>by
 unfold ybp
 rw [yo]
 show ob (yl _ _ [.val _,.no] _) fnK=_
 simp_all? only [ycs,yeu G e,hdV,List.cons_append,ynk,yyG G.1,ypy,↓reduceIte]
 rw [show (k:Int)+1=(k+1:Nat) from rfl,pR G.1]
 symm
theorem yjk:Tk "pass_over" yL [.str w] .non [w]:=.mk (rfl) fun {h o ws k r} G e=>by
 unfold yL
 rw [yo]
 show ob (yl _ _ [.val _,.val _,.no] _) fnK=_
 simp_all? only [ycs,yfI G e]
def ydO (r:Str):Prop:=∀ h,yhU [.str r] h=some (.bl true,h)
theorem ygg (g:ydO w):Tk "slot_taken" yu [] (.str w) [w]:=.mk (rfl) fun {h o ws k r} G e=>by
 unfold yu
 rw [yo]
 show ob (yl _ _ [.val _,.no] _) fnK=_
 simp_all? only [ycs,yfI G e,g _]
def yia (r:Str):Prop:=∀ h,yhV [.str r] h=some (.bl true,h)
theorem ywu (g:yia w):Tk "name_taken" ybx [] (.str w) [w]:=.mk (rfl) fun {h o ws k r} G e=>by
 unfold ybx
 rw [yo]
 show ob (yl _ _ [.val _,.no] _) fnK=_
 simp_all? only [ycs,yfI G e,g _]
theorem yuW (g:0<=n/\n<B64):Tk "number_taken" ybI [] (.int n) [toString n]:=.mk (rfl) fun {h o ws k r} G e=>by
 unfold ybI
 rw [yo]
 show ob (yl _ _ [.val _,.no,.no] _) fnK=_
 simp_all? only [ycs,yfI G e,ylR g.1 g.2,yyH,↓reduceIte]
theorem yEu {i:Nat}{l:Str}{A B:XS}{ρ:PSt}{h:AH}(e:ρ[i]?=some (.val (.str w))) (n:decide (w=l)=false):yl (ybD (yr (xOp oEq (yd i) (xC (.str l)))) A yM) B ρ h=B ρ h:=by
 have f:yd i ρ h=some (.str w,h):=by unfold yd;rw [e]
 simp_all? only [f,of_decide_eq_false n,↓reduceIte]
theorem yuX (g:ydO a) (f:ydO b) (i:ydO c):Tk "reckon_taken" ybJ [.str w] (.ins 2 ["word","slot","one","other"] [.str w,.str a,.str b,.str c]) [a,b,c]:=.mk (rfl) fun {h o ws k r} G e=>by
 unfold ybJ
 rw [yo]
 show ob (yl _ _ [.val _,.val _,.no,.no,.no] _) fnK=_
 simp_all? only [ycs,ygg g G e,ygg f G (d_1 e),ygg i G (d_1 (d_1 e))]
 rfl
end
section
variable {w nm a b:Str}{n:Int}
theorem yEv (d:ydO a) (g:0<=n/\n<B64):Tk "plain_taken" yv [.str "let"] (.ins 1 ["slot","number"] [.str a,.int n]) [a,tI n]:=.mk (rfl) fun {h o ws k r} G e=>by
 unfold yv
 rw [yo]
 show ob (yl _ _ [.val _,.val _,.no,.no,.no] _) fnK=_
 simp_all? only [ycs,ygg d G e,yuW g G (d_1 e)]
 rfl
theorem ywv (g:ydO a) (f:ydO b):Tk "plain_taken" yv [.str "take"] (.ins 3 ["slot","place"] [.str a,.str b]) [a,b]/\Tk "plain_taken" yv [.str "put"] (.ins 4 ["place","slot"] [.str a,.str b]) [a,b]:=by
 constructor
 all_goals
  refine .mk (by rfl') fun {h o ws k r} G e=>?_
  unfold yv
  rw [yo]
  show ob (yl _ _ [.val _,.val _,.no,.no,.no] _) fnK=_
  repeat rw [yEu rfl (rfl)]
  simp_all? only [ycs,ygg g G e,ygg f G (d_1 e)]
  rfl
theorem yyI (g:yia a) (f:ydO b):Tk "plain_taken" yv [.str "throw"] (.ins 8 ["name","slot"] [.str a,.str b]) [a,b]:=.mk (by rfl') fun {h o ws k r} G e=>by
 unfold yv
 rw [yo]
 show ob (yl _ _ [.val _,.val _,.no,.no,.no] _) fnK=_
 repeat rw [yEu rfl (rfl)]
 simp_all? only [ycs,ywu g G e,ygg f G (d_1 e)]
 rfl
theorem yBI:Tk "plain_taken" yv [.str "wait"] (.ins 9 [] []) []:=.mk (by rfl') fun _ _=>by kernel_rfl!
theorem yuY {c:Str}(g:w∈W5) (p:ydO a) (i:ydO b) (q:ydO c):Tk "plain_taken" yv [.str w] (.ins 2 ["word","slot","one","other"] [.str w,.str a,.str b,.str c]) [a,b,c]:=.mk (by rfl') fun {h o ws k r} G e=>by
 have j:∀ h,yhT [.str w] h=some (.bl true,h):=fun h=>by rcases ywt g with rfl|rfl|rfl|rfl|rfl<;>kernel_rfl!
 unfold yv
 rw [yo]
 show ob (yl _ _ [.val _,.val _,.no,.no,.no] _) fnK=_
 have m:∀ l∈(["let","take","put","throw","wait"]:List Str),decide (w=l)=false:=by rcases ywt g with rfl|rfl|rfl|rfl|rfl<;>rfl'
 repeat rw [yEu rfl (m _ (by simp))]
 simp_all? only [ycs,j,yuX (w:=w) p i q G e]
end
section
variable {n:Nat}{ar:Int}{w:Str}{tl wa wb:List Str}{v:PV}{va vb:List PV}
theorem yjl (c:(decide (w = "if") || decide (w = "either") || decide (w = "try"))=false) (d:ar<=8) (P:Tk "plain_taken" yv [.str w] v tl):Tk "part_taken" (yD (n+1)) [.int ar] v (w::tl):=.mk (by rfl') fun {h o ws k r} G e=>by
 simp only [Bool.or_eq_false_iff,decide_eq_false_iff_not] at c
 unfold yD
 rw [yo]
 show ob (yl _ _ [.val _,.val _,.no] _) fnK=_
 simp_all? only [show (ar>8)=False from eq_false (by omega),ycs,yfI G e,c.1.1,c.1.2,c.2,P G (d_1 e),↓reduceIte]
 grind
theorem yuZ (A:Tk "side_taken" (yq n) [.int ar] (.lst va) wa) (B:Tk "side_taken" (yq n) [.int ar] (.lst vb) wb):Tk "either_taken" (ybi (n+1)) [.int ar] (.ins 6 ["parts","others"] [.lst va,.lst vb]) (wa++("or":Str)::wb):=.mk (rfl) fun {h o ws k r} G e=>by
 rw [append_assoc] at e
 have b:=yph e
 unfold ybi
 rw [yo]
 show ob (yl _ _ [.val _,.val _,.no,.no] _) fnK=_
 simp_all? only [ycs,A G e,yjk G b,B G (d_1 b)]
 rw [length_append,show k+wa.length+1+wb.length=k+(wa.length+wb.length+1) by omega]
 rfl
theorem yEw {nm s:Str}(c:yia nm) (d:ydO s) (A:Tk "side_taken" (yq n) [.int ar] (.lst va) wa) (B:Tk "side_taken" (yq n) [.int ar] (.lst vb) wb):Tk "try_taken" (ybK (n+1)) [.int ar] (.ins 7 ["parts","name","slot","others"] [.lst va,.str nm,.str s,.lst vb]) (wa++("on":Str)::nm::s::wb):=.mk (rfl) fun {h o ws k r} G e=>by
 rw [append_assoc] at e
 have b:=yph e
 unfold ybK
 rw [yo]
 show ob (yl _ _ [.val _,.val _,.no,.no,.no,.no] _) fnK=_
 simp_all? only [ycs,A G e,yjk G b,ywu c G (d_1 b),ygg d G (d_1 (d_1 b)),B G (d_1 (d_1 (d_1 b)))]
 rw [length_append,show k+wa.length+3+wb.length=k+(wa.length+wb.length+3) by omega]
 rfl
theorem yrK (c:ar<=8):(Tk "either_taken" (ybi n) [.int (ar+1)] v tl->Tk "part_taken" (yD (n+1)) [.int ar] v ("either"::tl))/\(Tk "try_taken" (ybK n) [.int (ar+1)] v tl->Tk "part_taken" (yD (n+1)) [.int ar] v ("try"::tl)):=by
 constructor
 all_goals
  refine fun P=>.mk (by rfl') fun {h o ws k r} G e=>?_
  unfold yD
  rw [yo]
  show ob (yl _ _ [.val _,.val _,.no] _) fnK=_
  simp_all? only [show (ar>8)=False from eq_false (by omega),ycs,yfI G e,show (("either":Str) = "if")=False from eq_false (by rfl'),show (("try":Str) = "if")=False from eq_false (by rfl'),show (("try":Str) = "either")=False from eq_false (by rfl'),P G (d_1 e),↓reduceIte]
  rw [show k+1+tl.length=k+(tl.length+1) by omega]
abbrev Q:=PV×List Str
noncomputable def wr:List Q->List Str
 | []=>[]
 | q::l=>";"::(q.2++wr l)
def wl:List Q->List Str
 | []=>[]
 | q::l=>q.2++wr l
def PQ (n:Nat) (ar:Int) (q:Q):Prop:=Tk "part_taken" (yD n) [.int ar] q.1 q.2/\∃ w tl,q.2=w::tl/\(w = ")")=False
def yrL (n:Nat):XS:=yl (yZ (yj 10 "pass_over" yL (yd 0) (yc (xC (.str ";")) (yh)))) (yfW 2 (yj 10 "part_taken" (yD n) (yd 0) (yc (yd 1) (yh))))
variable {h:AH}{o:Nat}{ws rest:List Str}{as:XA}{ρ:PSt}(G:o<h.length/\ws.length<=100000) (hr:rest=[]\/∃ r,rest=(")":Str)::r)
include G hr
theorem yrM:∀ l a (k d:Nat),(∀ q∈l,PQ n ar q)->l.length<d->a.length+l.length<=1000->ws.drop k=wr l++rest ->
  whl ykg (yrL n) d [.val (.loc o),.val (.int ar),.own (.lst a)] (hR h o ws k)=some (.nx [.val (.loc o),.val (.int ar),.own (.lst (a++l.map (·.1)))],hR h o ws (k+(wr l).length))
 | [],a,k,d+1,_,_,_,e=>by
  have c:ykg [.val (.loc o),.val (.int ar),.own (.lst a)] (hR h o ws k)=some (false,hR h o ws k):=by
   unfold ykg
   simp_all? only [ycs,yeu G (e)]
   rcases hr with rfl|⟨r,rfl⟩<;>kernel_rfl!
  rw [yob,c,ybL,map_nil,append_nil]
  rfl
 | q::l,a,k,d+1,H,g,i,e=>by
  have e:ws.drop k=(";":Str)::(q.2++(wr l++rest)):=by rw [e,<- append_assoc];rfl
  have f:=d_1 e
  rw [length_cons] at g i
  have c:ykg [.val (.loc o),.val (.int ar),.own (.lst a)] (hR h o ws k)=some (true,hR h o ws k):=by
   unfold ykg
   simp_all? only [ycs,yeu G e,hdV]
  have b:yrL n [.val (.loc o),.val (.int ar),.own (.lst a)] (hR h o ws k)=some (.nx [.val (.loc o),.val (.int ar),.own (.lst (a++[q.1]))],hR h o ws (k+1+q.2.length)):=by
   unfold yrL
   simp_all? only [ycs,yjk G e]
   rw [yqU rfl]
   simp_all? only [ycs,(H q mem_cons_self).1 G f,show a.length<100000 by omega,↓reduceIte]
  rw [yob,c,ybL,b,ybL]
  show whl ykg (yrL n) d _ _=_
  rw [yrM l _ _ d (fun q h=>H q (mem_cons_of_mem _ h)) (by omega) (by grind) (yph f),append_assoc,show k+1+q.2.length+(wr l).length=k+(wr (q::l)).length by show _=k+((q.2++wr l).length+1);grind]
  rfl
theorem list_eq {l:List Q}{k:Nat}(H:∀ q∈l,PQ n ar q) (a:l.length<=90) (e:ws.drop k=wl l++rest) (b:as ρ (hR h o ws k)=some ([.int ar],hR h o ws k)) :
  mK 10 "list_taken" (yby (n+1)) as ρ (.loc o) (hR h o ws k)=some (.lst (l.map (·.1)),hR h o ws (k+(wl l).length)):=by
 rw [yH (ypg G.1) (rfl),b,ybL]
 unfold yby
 rw [yo]
 show ob (yl _ (yl _ (yl (yfo 100 ykg (yrL n)) _)) [.val _,.val _,.no] _) fnK=_
 cases l with
 | nil =>
  have e:ws.drop k=rest:=e
  rcases hr with rfl|⟨r,rfl⟩
  .simp_all? only [ycs,yeu G e,hdV]
   rfl
  .simp_all? only [ycs,yeu G e,hdV,ynk,↓reduceIte]
   rfl
 | cons q l =>
  obtain ⟨P,w,tl,g,c⟩:=H q mem_cons_self
  have e:ws.drop k=q.2++(wr l++rest):=by rw [e,<- append_assoc];rfl
  have d:ws.drop k=w::(tl++(wr l++rest)):=by rw [e,g];rfl
  rw [length_cons] at a
  have f:=yrM G hr l [q.1] _ 100 (fun q h=>H q (mem_cons_of_mem _ h)) (by omega) (by grind) (yph e)
  simp_all? only [ycs,yeu G d,hdV,ynk,c,P G e,↓reduceIte]
  rw [show yfo 100 ykg _ _ _=_ from f]
  rw [show k+q.2.length+(wr l).length=k+(wl (q::l)).length by show _=k+(q.2++wr l).length;grind]
  rfl
omit G hr
theorem yBJ {l:List Q}(H:∀ q∈l,PQ n ar q) (a:l.length<=90):Tk "side_taken" (yq (n+2)) [.int ar] (.lst (l.map (·.1))) ("("::(wl l++[(")":Str)])):=.mk (rfl) fun {h o ws k r} G e=>by
 have e:ws.drop k=("(":Str)::(wl l++(")":Str)::r):=by rw [e];simp
 unfold yq
 rw [yo]
 show ob (yl _ _ [.val _,.val _,.no] _) fnK=_
 simp_all? only [ycs,yjk G e,list_eq G (.inr ⟨_,rfl⟩) H a (d_1 e),yjk G (yph (d_1 e))]
 grind
end
section
variable {n:Nat}{ar:Int}{tl wa wb:List Str}{v:PV}{va vb:List PV}
theorem yFP {s:Str}(d:ydO s) (A:Tk "side_taken" (yq n) [.int ar] (.lst va) wa) (B:Tk "side_taken" (yq n) [.int ar] (.lst vb) wb):Tk "if_taken" (ybQ (n+1)) [.int ar] (.ins 5 ["slot","parts","others"] [.str s,.lst va,.lst vb]) (s::(wa++("else":Str)::wb)):=.mk (rfl) fun {h o ws k r} G e=>by
 rw [List.cons_append,append_assoc] at e
 have b:=d_1 e
 have c:=yph b
 unfold ybQ
 rw [yo]
 show ob (yl _ _ [.val _,.val _,.no,.no,.no] _) fnK=_
 simp_all? only [ycs,ygg d G e,A G b,yjk G c,B G (d_1 c)]
 rw [length_append,show k+1+wa.length+1+wb.length=k+(wa.length+wb.length+1+1) by omega]
 rfl
theorem yva (c:ar<=8) (P:Tk "if_taken" (ybQ n) [.int (ar+1)] v tl):Tk "part_taken" (yD (n+1)) [.int ar] v ("if"::tl):=.mk (by rfl') fun {h o ws k r} G e=>by
 unfold yD
 rw [yo]
 show ob (yl _ _ [.val _,.val _,.no] _) fnK=_
 simp_all? only [show (ar>8)=False from eq_false (by omega),ycs,yfI G e,P G (d_1 e),↓reduceIte]
 rw [show k+1+tl.length=k+(tl.length+1) by omega]
end
noncomputable def SL:List Str:=["a","b","c","d","e","f","g","h"]
def sx (r:Str):Nat:=SL.idxOf r
section
variable {h:AH}{n hl lg sn sd:Nat}{w t:Int}{rows:List PV}{hs:List Int}{r:Str}
theorem ygh (b:r∈SL):ydJ [.str r] h=some (.int (sx r),h):=by
 unfold SL at b
 simp only [mem_cons,List.not_mem_nil,or_false] at b
 rcases b with rfl|rfl|rfl|rfl|rfl|rfl|rfl|rfl<;>kernel_rfl!
theorem yBK (a:r∈SL):sx r<8:=List.idxOf_lt_length_of_mem a
theorem yfJ {n:Nat}{xs:List Int}{i:Nat}(e:h[n]?=some (.lst (xs.map .int))) (b:i<xs.length):ybC (.loc n) (.int i) h=some (.int (xs.getD i 0),h):=by
 unfold ybC
 simp only [e]
 have:(xs.map PV.int)[i]?=some (.int (xs.getD i 0)):=by
  rw [getElem?_map,getD_eq_getElem?_getD,List.getElem?_eq_getElem b];rfl
 rw [ydi this]
theorem yib {b:PV}(e:h[n]?=some (yks hl w lg rows t sn sd)) {i:Nat}(c:t=i) (g:rows[i]?=some b):ydv [.loc n] h=some (b,h):=by
 obtain ⟨l,j,k,f,d,m,o⟩:=ycM e
 subst c
 unfold ydv
 rw [yo]
 show ob (yQ _ [.val _] h) fnK=_
 simp_all? only [f,d]
 rw [ydi g]
 rfl
variable (e:h[n]?=some (yks hl w lg rows t sn sd)) (eh:h[hl]?=some (.lst (hs.map .int))) (h8:hs.length=8) (hr:r∈SL)
include e eh h8 hr
theorem ycW:yY [.loc n,.str r] h=some (.int (hs.getD (sx r) 0),h):=by
 obtain ⟨a,d,i,f,c,g,b⟩:=ycM e
 unfold yY
 rw [yo]
 show ob (yQ _ [.val _,.val _] h) fnK=_
 simp_all? only [a,ygh hr]
 rw [yfJ eh (by rw [h8];exact yBK hr),ybL]
theorem yic {v:Int}:ybT [.loc n,.str r,.int v] h=some (.non,h.set hl (.lst ((hs.set (sx r) v).map .int))):=by
 obtain ⟨b,f,j,g,k,i,d⟩:=ycM e
 unfold ybT
 rw [yo]
 show ob (yea _ _ _ [.val _,.val _,.val _] h) fnK=_
 show ob (ob (some _) _) _=_
 rw [ybL]
 simp_all? only [b,ygh hr]
 have c:sx r<hs.length:=by rw [h8];exact yBK hr
 have a:ixN (hs.map PV.int).length (sx r)=some (sx r):=by
  unfold ixN
  simp [c]
 simp only [eh,a]
 rw [map_set]
 rfl
theorem yeS (c:1<=w):ybH [.loc n,.str r] h=some (.int (hs.getD (sx r) 0%w),h):=by
 obtain ⟨g,a,j,f,d,i,b⟩:=ycM e
 unfold ybH
 rw [yo]
 show ob (yQ _ [.val _,.val _] h) fnK=_
 simp_all? only [ycs,yH (m:="held_in") e (rfl),ycW e eh h8 hr,a]
 grind
end
noncomputable def ygP:Rw->Rw->Bool
 | .either _,.wait=>true
 | .guard nm _ _,.throw nm' _=>decide (nm=nm')
 | _,_=>false
noncomputable def yhc:Rw->Bool|.either _=>true|.guard ..=>true|_=>false
noncomputable def yvb:Rw->Bool|.wait=>true|.throw ..=>true|_=>false
def sdV (s:Rw×List Int):PV:=.tup [yV s.1,.lst (s.2.map .int)]
def tkL (sd:List (Rw×List Int)) (r:Rw):Nat->Nat
 | 0=>0
 | k+1=>match sd[k]? with|some s=>if ygP s.1 r then k+1 else tkL sd r k|none=>0
section
variable {h:AH}{n hl lg sn sdl:Nat}{w t:Int}{rows:List PV}{hs:List Int}{r:Rw}{sd:List (Rw×List Int)}
theorem yvc {b:Rw}(a:yhc b=true) (c:yvb r=true):yhW [yV b,yV r] h=some (.bl (ygP b r),h):=by
 cases b<;>first|(cases a;done)|skip
 all_goals cases r<;>first|(cases c;done)|kernel_rfl!|skip
 unfold yhW
 rw [yo]
 show ob (yl _ _ [.val _,.val _] h) fnK=_
 unfold yV
 simp_all? only [ygO]
 rfl
theorem yvd {c:XT}{s:XS}{k:Nat}{ρ:PSt}:whl c s (k+1) ρ h=ob (c ρ h) fun a h1=>if a=true then ob (s ρ h1) fun o h2=>match o with|.nx ρ'=>whl c s k ρ' h2|.ct ρ'=>whl c s k ρ' h2|.bk ρ'=>some (.nx ρ',h2)|.rt y=>some (.rt y,h2) else some (.nx ρ,h1):=rfl
theorem yop (e:h[n]?=some (yks hl w lg rows t sn sdl)) (es:h[sdl]?=some (.lst (sd.map sdV))) (z:∀ s∈sd,yhc s.1=true) (o:yvb r=true) (j:sd.length<900):ybt [.loc n,yV r] h=some (.int (tkL sd r sd.length),h):=by
 obtain ⟨G,F,I,E,D,H,i⟩:=ycM e
 unfold ybt
 rw [yo]
 show ob (yl _ (yl (yfo 1000 _ _) _) [.val (.loc n),.val (yV r),.no] h) fnK=_
 have x:∀ (c:XT) (s:XS),c=(yqj (yr (xOp (oGt) (yd 2) (xC (.int 0)))) (yjG (yr (yW yhW (yc (xOp (ybc) (xOp (ybC) (ybb [12] "sides" (yd 0)) (xOp yvX (yd 2) (xC (.int 1)))) (xC (.int 0))) (yc (yd 1) (yh)))))))->s=(ybs (xOp yvX (yd 2) (xC (.int 1))) (yp 2)) ->
   ∀ (k f:Nat),k<=sd.length->k<f->whl c s f [.val (.loc n),.val (yV r),.val (.int k)] h=some (.nx [.val (.loc n),.val (yV r),.val (.int (tkL sd r k))],h):=by
  intro c s b hs k
  induction k with
  | zero =>
   intro f _ C
   obtain ⟨f,rfl⟩:∃ g,f=g+1:=⟨f-1,by omega⟩
   subst b hs
   rw [yvd]
   rfl
  | succ k ih =>
   intro f l C
   obtain ⟨f,rfl⟩:∃ g,f=g+1:=⟨f-1,by omega⟩
   have a:k<sd.length:=l
   have d:sd[k]?=some sd[k]:=List.getElem?_eq_getElem a
   have p:ybC (.loc sdl) (.int (((k+1:Nat):Int)-1)) h=some (sdV sd[k],h):=by
    unfold ybC
    simp only [es]
    rw [show ((k+1:Nat):Int)-1=(k:Nat) by omega,ydi (by rw [getElem?_map,d];rfl)]
   have q:ybc (sdV sd[k]) (.int 0) h=some (yV sd[k].1,h):=rfl
   have y:=yvc (h:=h) (z sd[k] (getElem_mem a)) o
   have B:oGt (.int ((k+1:Nat):Int)) (.int 0) h=some (.bl true,h):=by
    show some (PV.bl _,h)=_
    rw [decide_eq_true (by omega)]
   have m:c [.val (.loc n),.val (yV r),.val (.int ((k+1:Nat):Int))] h=some (!(ygP sd[k].1 r),h):=by
    subst b
    show ob _ _=_
    simp_all? only [i,p,q,y,B]
   rw [yvd,m,ybL]
   show (if (!(ygP sd[k].1 r))=true then _ else _)=some (Out.nx [_,_,.val (.int ((match sd[k]? with|some s=>if ygP s.1 r then k+1 else tkL sd r k|none=>0:Nat):Int))],h)
   rw [d]
   cases A:ygP sd[k].1 r with
   | true=>simp_all
   | false =>
    simp only [Bool.not_false,if_true,A,Bool.false_eq_true,if_false]
    have:=ih f (by omega) (by omega)
    rw [<- this]
    subst hs
    show ob (some (Out.nx [.val (.loc n),.val (yV r),.val (.int (((k+1:Nat):Int)-1))],h)) _=_
    rw [ybL,show ((k+1:Nat):Int)-1=(k:Nat) by omega]
 have u:yba [.loc sdl] h=some (.int sd.length,h):=by rw [yfD es,length_map]
 have v:=x _ _ rfl rfl sd.length 1000 (Nat.le_refl _) (by omega)
 simp_all? only [i,u]
 exact (congrArg (ob · _) v).trans rfl
end
section
variable {h:AH}{n hl lg sn sdl:Nat}{w:Int}{rows:List PV}{t:Nat}{r:Rw}
theorem ylW {j:Int}{t:Int}{ρ:PSt}(e:h[n]?=some (yks hl w lg rows t sn sdl)):fL [10,12] "at" ρ (.int j) (.loc n) h=some (.nx ρ,h.set n (yks hl w lg rows j sn sdl)):=yeR e (rfl) (rfl)
theorem yve {j:Nat}{t:Int}{ρ:PSt}(e:h[n]?=some (yks hl w lg rows t sn sdl)):fL [12] "held" ρ (.loc j) (.loc n) h=some (.nx ρ,h.set n (yks j w lg rows t sn sdl)):=yeR e (rfl) (rfl)
theorem yiD (e:h[n]?=some (yks hl w lg rows t sn sdl)) (c:rows[t]?=some (yV r)):ycf [.loc n] h=ob (goB [.val (.loc n),.val (yV r)] (h.set n (yks hl w lg rows (t+1:Nat) sn sdl))) fnK:=by
 obtain ⟨g,j,i,d,b,f,k⟩:=ycM e
 unfold ycf
 rw [yo]
 show ob (yl _ _ [.val _,.no] h) fnK=_
 simp_all? only [ycs,yH (m:="row") e (rfl),yib e rfl c,b,ypy,ylW e]
 rfl
theorem yyJ (e:h[n]?=some (yks hl w lg rows t sn sdl)) (c:rows[t]?=some (yV r)):ybm [.loc n] h=ob (loB [.val (.loc n),.val (yV r)] h) fnK:=by
 unfold ybm
 rw [yo]
 show ob (yl _ loB [.val _,.no] h) fnK=_
 simp_all? only [ycs,yH (m:="row") e (by rfl'),yib e rfl c]
abbrev M2 (m:Str) (f:Fn):XE:=yj 12 m f (yd 0) (yc (yd 1) (yh))
theorem yBL {x:PV}{s:Str}{k:Int}:goB [.val x,.val (yV (.let_ s k))] h=yZ (M2 "go_plain" yC) [.val x,.val (yV (.let_ s k))] h:=by kernel_rfl!
theorem yyK {x:PV}{s k:Str}:goB [.val x,.val (yV (.take s k))] h=yZ (M2 "go_plain" yC) [.val x,.val (yV (.take s k))] h:=by kernel_rfl!
theorem yBM {x:PV}{s k:Str}:goB [.val x,.val (yV (.put s k))] h=yZ (M2 "go_plain" yC) [.val x,.val (yV (.put s k))] h:=by kernel_rfl!
theorem yyL {x:PV}:goB [.val x,.val (yV .wait)] h=yZ (M2 "leave" yck) [.val x,.val (yV .wait)] h:=by kernel_rfl!
theorem yvf {x:PV}{s k:Str}:goB [.val x,.val (yV (.throw s k))] h=yZ (M2 "throw" ycA) [.val x,.val (yV (.throw s k))] h:=by kernel_rfl!
theorem yrN {x:PV}{k:Int}:goB [.val x,.val (yV (.either k))] h=goE [.val x,.val (yV (.either k))] h:=by kernel_rfl!
theorem yvg {x:PV}{s r:Str}{k:Int}:goB [.val x,.val (yV (.guard s r k))] h=goE [.val x,.val (yV (.guard s r k))] h:=by kernel_rfl!
theorem yrO {x:PV}:goB [.val x,.val (yV .settle)] h=goS [.val x,.val (yV .settle)] h:=by kernel_rfl!
theorem yyM {x:PV}{k:Int}:goB [.val x,.val (yV (.jump k))] h=yZ (M2 "lead" ybN) [.val x,.val (yV (.jump k))] h:=by kernel_rfl!
theorem yrP {x:PV}{s:Str}{k:Int}:goB [.val x,.val (yV (.unl s k))] h=yZ (M2 "lead" ybN) [.val x,.val (yV (.unl s k))] h:=by kernel_rfl!
theorem yrQ {x:PV}{w a b c:Str}(g:w∈W5):goB [.val x,.val (yV (.reckon w a b c))] h=yZ (M2 "go_plain" yC) [.val x,.val (yV (.reckon w a b c))] h:=by
 rcases ywt g with rfl|rfl|rfl|rfl|rfl
 all_goals kernel_rfl!
end
structure Lc where
 rn:Nat
 hl:Nat
 lg:Nat
 st:Nat
 ls:Nat
 sn:Nat
 sd:Nat
 ly:List Nat
structure RS where
 t:Nat
 hs:List Int
 sd:List (Rw×List Int)
 dd:List (List Key×List PV)
 sn:List (Nat×Int×Int)
noncomputable def sK (m:List (Nat×Int×Int)):List Key:=m.map fun p=>.inl (p.1:Int)
noncomputable def sA (m:List (Nat×Int×Int)):List PV:=m.map fun p=>.int p.2.1
noncomputable def sB (m:List (Nat×Int×Int)):List PV:=m.map fun p=>.int p.2.2
noncomputable def ydW (m:List (Nat×Int×Int)) (k:Nat) (a b:Int):List (Nat×Int×Int):=if k∈m.map (·.1) then m.map (fun p=>if p.1=k then (k,a,b) else p) else m++[(k,a,b)]
noncomputable def lay:List Nat->List (List Key×List PV)->List (Nat×Nd)
 | l::ls,d::ds=>(l,.dct d.1 d.2)::lay ls ds
 | _,_=>[]
def RM (w:Int) (rows:List PV) (c:Lc) (s:RS) (rest:List (Nat×Nd)):List (Nat×Nd) :=
 (c.rn,yks c.hl w c.lg rows s.t c.sn c.sd)::(c.hl,.lst (s.hs.map .int))::(c.lg,.ins 11 ["stack","last_seen"] [.loc c.st,.loc c.ls])::(c.st,.lst (c.ly.map .loc))::(c.ls,.dct (sK s.sn) (sA s.sn))::(c.sn,.dct (sK s.sn) (sB s.sn))::(c.sd,.lst (s.sd.map sdV))::(lay c.ly s.dd++rest)
structure RR (w:Int) (rows:List PV) (rest:List (Nat×Nd)) (h:AH) (c:Lc) (s:RS):Prop where
 at_:At h (RM w rows c s rest)
 len:c.ly.length=s.dd.length
theorem yeT:∀ l m d e,l.length=d.length->lay (l++m) (d++e)=lay l d++lay m e
 | [],_,[],_,_=>rfl
 | a::l,m,b::d,e,h=>by
  show (a,_)::lay (l++m) (d++e)=(a,_)::(lay l d++lay m e)
  rw [yeT l m d e (by simpa using h)]
def okR:Rw->Bool
 | .let_ r _=>decide (r∈SL)
 | .put p r=>decide (p∈SL) && decide (r∈SL)
 | .take p r=>decide (p∈SL) && decide (r∈SL)
 | .throw _ r=>decide (r∈SL)
 | .guard _ r k=>decide (r∈SL) && decide (0<=k)
 | .either k=>decide (0<=k)
 | .jump k=>decide (0<=k)
 | .unl r k=>decide (r∈SL) && decide (0<=k)
 | .reckon w a b c=>decide (w∈W5) && decide (a∈SL) && decide (b∈SL) && decide (c∈SL)
 | _=>true
def okS (s:RS):Bool:=(s.hs.length == 8) && (s.dd.length == s.sd.length+1) && decide (s.sd.length<90) && s.sd.all (fun x=>yhc x.1 && okR x.1 && (x.2.length == 8)) && s.dd.all (fun d=>decide (d.1.length<400))
noncomputable def toB:Rw->Int|.either k=>k|.guard _ _ k=>k|_=>0
noncomputable def slB:Rw->Str|.guard _ r _=>r|_=>""
def ygQ (dd:List (List Key×List PV)) (k v:Int):List (List Key×List PV):=match dd.getLast? with|some d=>dd.dropLast++[ycK d.1 d.2 (.inl k) (.int v)]|none=>dd
def yjm (dd:List (List Key×List PV)):List (List Key×List PV):=match dd.getLast?,dd.dropLast.getLast? with|some d,some e=>dd.dropLast.dropLast++[yka d.1 d.2 e.1 e.2]|_,_=>dd
def yjn (s:RS) (r:Rw) (g:Rw->List Int->List Int):Option RS:=match tkL s.sd r s.sd.length with
 | 0=>none
 | L+1=>match s.sd[L]? with|some x=>some ⟨(toB x.1).toNat,g x.1 x.2,s.sd.take L,s.dd.take (L+1),s.sn⟩|none=>none
def yrR (s:RS) (w:Int) (p:Str):PV:=yws s.dd (.inl (s.hs.getD (sx p) 0%w)) s.dd.length
def rk (w:Str) (x y:Int):Int:=if w = "plus" then (x+y)%B64 else if w = "minus" then (x-y)%B64 else if w = "times" then x*y%B64 else if w = "less" then (if x<y then 1 else 0) else (if x=y then 1 else 0)
def ypi (w:Int) (r:Rw) (s:RS):Option RS:=if (okR r && okS s)=true then (match r with
 | .let_ r n=>some ⟨s.t+1,s.hs.set (sx r) n,s.sd,s.dd,s.sn⟩
 | .take r p=>(match yrR s w p with|.int v=>some ⟨s.t+1,s.hs.set (sx r) v,s.sd,s.dd,s.sn⟩|_=>none)
 | .put p r=>some ⟨s.t+1,s.hs,s.sd,ygQ s.dd (s.hs.getD (sx p) 0%w) (s.hs.getD (sx r) 0),s.sn⟩
 | .either k=>some ⟨s.t+1,s.hs,s.sd++[(.either k,s.hs)],s.dd++[([],[])],s.sn⟩
 | .guard a b k=>some ⟨s.t+1,s.hs,s.sd++[(.guard a b k,s.hs)],s.dd++[([],[])],s.sn⟩
 | .settle=>if s.sd.length=0 then none else some ⟨s.t+1,s.hs,s.sd.dropLast,yjm s.dd,s.sn⟩
 | .jump k=>some ⟨k.toNat,s.hs,s.sd,s.dd,s.sn⟩
 | .unl r k=>some ⟨if s.hs.getD (sx r) 0=0 then k.toNat else s.t+1,s.hs,s.sd,s.dd,s.sn⟩
 | .wait=>yjn s .wait fun _ q=>q
 | .throw a b=>yjn s (.throw a b) fun x q=>q.set (sx (slB x)) (s.hs.getD (sx b) 0)
 | .reckon v a p q=>if 0<=s.hs.getD (sx p) 0/\s.hs.getD (sx p) 0<B64 then some ⟨s.t+1,s.hs.set (sx a) (rk v (s.hs.getD (sx p) 0) (s.hs.getD (sx q) 0)),s.sd,s.dd,s.sn⟩ else none
 | .lay=>none) else none
noncomputable def S0 (hs:List Int):RS:=⟨0,hs,[],[([],[])],[]⟩
section
variable {h:AH}{m:List (Nat×Nd)}
theorem At.ne (A:At h m) {i j:Nat}{p q:Nat×Nd}(a:i<j) (d:m[i]?=some p) (b:m[j]?=some q):p.1≠q.1:=by
 obtain ⟨e,f⟩:=List.getElem?_eq_some_iff.mp d
 obtain ⟨c,g⟩:=List.getElem?_eq_some_iff.mp b
 have:=List.pairwise_iff_getElem.mp A.1 i j (by simpa using e) (by simpa using c) a
 simp_all
theorem yid:∀ a dd,a.length=dd.length->(lay a dd).length=a.length
 | [],[],_=>rfl
 | _::ls,_::ds,e=>by show (lay ls ds).length+1=ls.length+1;rw [yid ls ds (by simpa using e)]
theorem yww:∀ a dd,a.length=dd.length->(∀ p∈lay a dd,h[p.1]?=some p.2)->Stk h a dd
 | [],[],_,_=>trivial
 | l::ls,d::ds,e,g=>⟨g _ mem_cons_self,yww ls ds (by simpa using e) fun p hp=>g p (mem_cons_of_mem _ hp)⟩
variable {w:Int}{rows:List PV}{rest:List (Nat×Nd)}{c:Lc}{s:RS}
theorem RR.lg (R:RR w rows rest h c s):LG h c.lg c.st c.ls c.ly s.dd (sK s.sn) (sA s.sn):=⟨R.at_.get 2 rfl,R.at_.get 3 rfl,R.at_.get 4 rfl,yww _ _ R.len fun p hp=>R.at_.2 p (by unfold RM;simp [hp])⟩
theorem RR.run (R:RR w rows rest h c s):h[c.rn]?=some (yks c.hl w c.lg rows s.t c.sn c.sd):=R.at_.get 0 rfl
theorem RR.held (R:RR w rows rest h c s):h[c.hl]?=some (.lst (s.hs.map .int)):=R.at_.get 1 rfl
theorem RR.sds (R:RR w rows rest h c s):h[c.sd]?=some (.lst (s.sd.map sdV)):=R.at_.get 6 rfl
theorem RR.to (R:RR w rows rest h c s) (k:Nat):RR w rows rest (h.set c.rn (yks c.hl w c.lg rows k c.sn c.sd)) c { s with t:=k }:=⟨R.at_.upd (a:=[]) _,R.len⟩
theorem RR.hold (R:RR w rows rest h c s) q:RR w rows rest (h.set c.hl (.lst (q.map .int))) c { s with hs:=q }:=⟨R.at_.upd (a:=[_]) _,R.len⟩
theorem ygR (e:okS s=true):s.hs.length=8/\s.dd.length=s.sd.length+1/\s.sd.length<90/\(∀ x∈s.sd,yhc x.1=true/\okR x.1=true/\x.2.length=8)/\∀ d∈s.dd,d.1.length<400:=by
 unfold okS at e
 simp only [and_eq_true,beq_iff_eq,decide_eq_true_eq,List.all_eq_true] at e
 obtain ⟨⟨⟨⟨i,f⟩,g⟩,b⟩,j⟩:=e
 exact ⟨i,f,g,fun x a=>⟨(b x a).1.1,(b x a).1.2,(b x a).2⟩,j⟩
def dk (m:Option (PV×AH)) (ρ:PSt):Option (PV×AH):=ob (ob m fun _ h1=>some (Out.nx ρ,h1)) fnK
theorem yBN {x:PV}{r:Str}{k:Int}:yC [x,yV (.let_ r k)] h=dk (mK 12 "hold" ybT (fun _ h1=>some ([.str r,.int k],h1)) [] x h) [.val x,.val (yV (.let_ r k))]:=by kernel_rfl!
theorem yBO {x:PV}{p r:Str}:yC [x,yV (.put p r)] h=dk (mK 12 "do_put" ycG (fun _ h1=>some ([.str p,.str r],h1)) [] x h) [.val x,.val (yV (.put p r))]:=by kernel_rfl!
theorem yBP {r:Str}{k:Int}(R:RR w rows rest h c s) (b:rows[s.t]?=some (yV (.let_ r k))) (e:r∈SL) (d:s.hs.length=8):∃ h',ycf [.loc c.rn] h=some (.non,h')/\RR w rows rest h' c ⟨s.t+1,s.hs.set (sx r) k,s.sd,s.dd,s.sn⟩:=by
 have a:=R.to (s.t+1)
 refine ⟨_,?_,a.hold _⟩
 rw [yiD R.run b,yBL]
 show dk (mK 12 _ yC _ _ _ _) _=_
 rw [yH a.run (rfl)]
 show dk (yC _ _) _=_
 rw [yBN,yH a.run (rfl),ybL,yic a.run a.held d e]
 rfl
end
section
variable {h:AH}{w:Int}{rows:List PV}{rest:List (Nat×Nd)}{c:Lc}{s:RS}
theorem yyN {k:Int}(R:RR w rows rest h c s) (b:rows[s.t]?=some (yV (.jump k))) (d:0<=k):∃ h',ycf [.loc c.rn] h=some (.non,h')/\RR w rows rest h' c ⟨k.toNat,s.hs,s.sd,s.dd,s.sn⟩:=by
 have a:=R.to (s.t+1)
 refine ⟨_,?_,a.to k.toNat⟩
 rw [yiD R.run b,yyM]
 show dk (mK 12 _ ybN _ _ _ _) _=_
 rw [yH a.run (rfl)]
 show dk (ybN _ _) _=_
 rw [show ∀ x h,ybN [x,yV _] h=ob (fL [10,12] "at" [.val x,.val (yV (.jump k))] (.int k) x h) fnK by intro x h;kernel_rfl!,ylW a.run,show (k.toNat:Nat)=k by omega]
 rfl
theorem yrS {r:Str}{k:Int}(R:RR w rows rest h c s) (e:rows[s.t]?=some (yV (.unl r k))) (p:r∈SL) (t:s.hs.length=8) (u:0<=k):∃ h',ycf [.loc c.rn] h=some (.non,h')/\RR w rows rest h' c ⟨if s.hs.getD (sx r) 0=0 then k.toNat else s.t+1,s.hs,s.sd,s.dd,s.sn⟩:=by
 have b:=R.to (s.t+1)
 have l:∀ h,ybc (yV (.unl r k)) (.int 0) h=some _:=fun _=>rfl
 have i:∀ h,ybc (yV (.unl r k)) (.int 1) h=some _:=fun _=>rfl
 have g:∀ h,ybc (yV (.unl r k)) (.int 2) h=some _:=fun _=>rfl
 have f:(("unless":Str) = "jump")=False:=eq_false (by rfl')
 have o:∃ h',ybN [.loc c.rn,yV (.unl r k)] (h.set c.rn (yks c.hl w c.lg rows (s.t+1:Nat) c.sn c.sd))=some (.non,h')/\RR w rows rest h' c ⟨if s.hs.getD (sx r) 0=0 then k.toNat else s.t+1,s.hs,s.sd,s.dd,s.sn⟩:=by
  unfold ybN
  rw [yo]
  have d:=ycW b.run b.held t p
  have st:=ylW (j:=k) (ρ:=[.val (.loc c.rn),.val (yV (.unl r k))]) b.run
  by_cases z:s.hs.getD (sx r) 0=0
  .rw [if_pos z]
   refine ⟨_,?_,b.to k.toNat⟩
   rw [z] at d
   show ob (ybD _ _ _ [.val _,.val _] _) fnK=_
   clear R e
   simp_all? only [l,i,g,f,ycs,yH (m:="held_in") b.run (by rfl'),d,ypy,st,-ydE]
   grind
  .rw [if_neg z]
   refine ⟨_,?_,b⟩
   show ob (ybD _ _ _ [.val _,.val _] _) fnK=_
   simp_all? only [l,i,g,f,ycs,yH (m:="held_in") b.run (by rfl'),d,z,-ydE]
 obtain ⟨h',q,n⟩:=o
 refine ⟨h',?_,n⟩
 rw [yiD R.run e,yrP]
 show dk (mK 12 _ ybN _ _ _ _) _=_
 rw [yH b.run (by rfl')]
 show dk (ybN _ _) _=_
 rw [q]
 rfl
theorem yyO (R:RR w rows rest h c s) {l:List Nat}{t:Nat}{ds:List _}{d d':List Key×List PV}(b:c.ly=l++[t]) (ed:s.dd=ds++[d]):RR w rows rest (h.set t (.dct d'.1 d'.2)) c { s with dd:=ds++[d'] }:=by
 have hl:l.length=ds.length:=by have:=R.len;simp_all
 have A:=R.at_
 refine ⟨?_,by simp_all⟩
 unfold RM at A ⊢
 rw [b,ed,yeT _ _ _ _ hl] at A
 rw [b,yeT _ _ _ _ hl,append_assoc]
 rw [append_assoc] at A
 exact A.upd (a:=_::_::_::_::_::_::_::lay l ds) _
theorem yca {α:Type}{xs:List α}(h:xs.length≠0):∃ a y,xs=a++[y]:=⟨xs.dropLast,xs.getLast (by intro z;rw [z] at h;exact h rfl),(List.dropLast_concat_getLast _).symm⟩
theorem yrT {p r:Str}(R:RR w rows rest h c s) (hp:p∈SL) (j:r∈SL) (b:s.hs.length=8) (i:1<=w) {l:List Nat}{t:Nat}{ds:List _}{d:List Key×List PV}(f:c.ly=l++[t]) (ed:s.dd=ds++[d]) (n:d.1.length<400) :
  ycG [.loc c.rn,.str p,.str r] h=some (.non,h.set t (.dct (ycK d.1 d.2 (.inl (s.hs.getD (sx p) 0%w)) (.int (s.hs.getD (sx r) 0))).1 (ycK d.1 d.2 (.inl (s.hs.getD (sx p) 0%w)) (.int (s.hs.getD (sx r) 0))).2)):=by
 obtain ⟨y,x,g,u,o,v,q⟩:=ycM R.run
 have G:=R.lg
 have hl:l.length=ds.length:=by have:=R.len;simp_all
 have k:=by
  have A:=R.at_
  unfold RM at A
  rw [f,ed,yeT _ _ _ _ hl] at A
  exact A.2 (t,.dct d.1 d.2) (by simp [lay])
 have e:=G
 rw [f] at e
 unfold ycG
 rw [yo]
 show ob (yZ _ [.val _,.val _,.val _] h) fnK=_
 simp_all? only [g,ycs,yH (m:="box_at") R.run (by rfl'),yH (m:="held_in") R.run (by rfl'),yH (m:="write") G.ob (by rfl'),yeS R.run R.held b hp i,ycW R.run R.held b j,yuT e k (Nat.lt_trans n _)]
theorem yBQ {p r:Str}(R:RR w rows rest h c s) (e:rows[s.t]?=some (yV (.put p r))) (hp:p∈SL) (k:r∈SL) (i:1<=w) (g:okS s=true):∃ h',ycf [.loc c.rn] h=some (.non,h')/\RR w rows rest h' c ⟨s.t+1,s.hs,s.sd,ygQ s.dd (s.hs.getD (sx p) 0%w) (s.hs.getD (sx r) 0),s.sn⟩:=by
 obtain ⟨f,o2,o,n,m⟩:=ygR g
 have a:=R.to (s.t+1)
 obtain ⟨ds,d,ed⟩:=yca (xs:=s.dd) (by omega)
 obtain ⟨l,t,b⟩:=yca (xs:=c.ly) (by have:=R.len;omega)
 have j:=yrT a hp k f i b ed (m d (by rw [ed];simp))
 have R2:=yyO (d':=ycK d.1 d.2 (.inl (s.hs.getD (sx p) 0%w)) (.int (s.hs.getD (sx r) 0))) a b ed
 refine ⟨_,?_,by
  have:ygQ s.dd (s.hs.getD (sx p) 0%w) (s.hs.getD (sx r) 0)=ds++[ycK d.1 d.2 (.inl (s.hs.getD (sx p) 0%w)) (.int (s.hs.getD (sx r) 0))]:=by
   unfold ygQ
   rw [ed,List.getLast?_concat,List.dropLast_concat]
  rw [this]
  exact R2⟩
 rw [yiD R.run e,yBM]
 show dk (mK 12 _ yC _ _ _ _) _=_
 rw [yH a.run (rfl)]
 show dk (yC _ _) _=_
 rw [yBO,yH a.run (rfl),ybL,j]
 rfl
end
section
variable {h:AH}{w:Int}{rows:List PV}{rest:List (Nat×Nd)}{c:Lc}{s:RS}
theorem RR.side (R:RR w rows rest h c s) q:RR w rows rest (h.set c.sd (.lst (q.map sdV))) c { s with sd:=q }:=⟨R.at_.upd (a:=[_,_,_,_,_,_]) _,R.len⟩
theorem yBR {r:Rw}(R:RR w rows rest h c s) (v:s.sd.length<90) (o2:s.dd.length=s.sd.length+1):∃ h' c',ob (goE [.val (.loc c.rn),.val (yV r)] h) fnK=some (.non,h')/\RR w rows rest h' c' { s with sd:=s.sd++[(r,s.hs)],dd:=s.dd++[([],[])] }/\c'.rn=c.rn:=by
 obtain ⟨i,y,o,n,p,k,g⟩:=ycM R.run
 have R2:=R.side (s.sd++[(r,s.hs)])
 obtain ⟨l,z,j,t,q,B,u⟩:=ycM R2.run
 have G:=R2.lg
 have e:yfZ (.loc c.sd) [.tup [yV r,.lst (s.hs.map .int)]] h=some (.non,h.set c.sd (.lst ((s.sd++[(r,s.hs)]).map sdV))):=by
  rw [yne R.sds (by grind),map_append]
  rfl
 have f:=yuU G (by have:=R.len;omega)
 generalize x:h.set c.sd _=h2 at *
 refine ⟨(h2++[Nd.dct [] []]).set c.st (.lst ((c.ly++[h2.length]).map .loc)),{ c with ly:=c.ly++[h2.length] },?_,⟨?_,?_⟩,rfl⟩
 rotate_left
 .have A:=R2.at_
  have d:=At.new (.dct [] []) (a:=_::_::_::_::_::_::_::lay c.ly s.dd) A
  have b:=At.upd (a:=[_,_,_]) (.lst ((c.ly++[h2.length]).map .loc)) d
  unfold RM
  rw [yeT _ _ _ _ R.len,append_assoc]
  exact b
 .rw [length_append,length_append,R.len];rfl
 unfold goE
 simp_all? only [g,i,ydt R.sds,yjW R.held,e,j,ycs,yH (m:="begin") G.ob (rfl),f]
theorem yrU {n:Nat}{xs:List PV}{y:PV}(e:h[n]?=some (.lst (xs++[y]))):ygY (.loc n) [] h=some (y,h.set n (.lst xs)):=by
 unfold ygY
 simp only [e]
 have:(xs++[y])[(xs++[y]).length-1]?=some y:=by simp
 rw [this]
 simp
theorem yrV (R:RR w rows rest h c s) (L:okS s=true) (O:s.sd.length≠0):∃ h' c',ob (goS [.val (.loc c.rn),.val (yV .settle)] h) fnK=some (.non,h')/\RR w rows rest h' c' { s with sd:=s.sd.dropLast,dd:=yjm s.dd }/\c'.rn=c.rn:=by
 obtain ⟨h8,o2,o3,U,D⟩:=ygR L
 obtain ⟨f1,W,Y,Z,T,f6,H⟩:=ycM R.run
 obtain ⟨q,x,E⟩:=yca O
 obtain ⟨d1,d,ed⟩:=yca (xs:=s.dd) (by omega)
 obtain ⟨ds,e,y⟩:=yca (xs:=d1) (by have:=congrArg length ed;simp at this;omega)
 obtain ⟨B,t,k⟩:=yca (xs:=c.ly) (by have:=R.len;omega)
 obtain ⟨l,u,o⟩:=yca (xs:=B) (by have a:=R.len;have b:c.ly.length=B.length+1:=(by rw [k];simp);omega)
 subst o y
 have hl:l.length=ds.length:=by have:=R.len;rw [k,ed] at this;simpa using this
 have P:yjm s.dd=ds++[yka d.1 d.2 e.1 e.2]:=by
  unfold yjm
  rw [ed,List.getLast?_concat,List.dropLast_concat,List.getLast?_concat,List.dropLast_concat]
 have es:s.sd.dropLast=q:=by rw [E,List.dropLast_concat]
 rw [P,es]
 have R2:=R.side q
 obtain ⟨g1,g2,I,X,S,g6,g7⟩:=ycM R2.run
 have M:ygY (.loc c.sd) [] h=some (sdV x,h.set c.sd (.lst (q.map sdV))):=yrU (by rw [R.sds,E,map_append];rfl)
 have G:=R2.lg
 have A:=R2.at_
 generalize hh:h.set c.sd (.lst (q.map sdV))=h2 at *
 have f:=by
  unfold RM at A
  have n:lay c.ly s.dd=lay l ds++[(u,.dct e.1 e.2),(t,.dct d.1 d.2)]:=by
   rw [k,ed,append_assoc,append_assoc,yeT _ _ _ _ hl]
   rfl
  have:∀ z:List (Nat×Nd),(lay l ds++[(u,.dct e.1 e.2),(t,.dct d.1 d.2)])++z=lay l ds++((u,.dct e.1 e.2)::(t,.dct d.1 d.2)::z):=fun z=>by rw [append_assoc];rfl
  simpa only [n,this] using A
 have p:(lay l ds++((u,Nd.dct e.1 e.2)::(t,.dct d.1 d.2)::rest))[l.length]?=some (u,.dct e.1 e.2):=by
  rw [getElem?_append_right (by rw [yid _ _ hl];omega),yid _ _ hl,sub_self];rfl
 have v:(lay l ds++((u,Nd.dct e.1 e.2)::(t,.dct d.1 d.2)::rest))[l.length+1]?=some (t,.dct d.1 d.2):=by
  rw [getElem?_append_right (by rw [yid _ _ hl];omega),yid _ _ hl,Nat.add_sub_cancel_left,List.getElem?_cons_succ,List.getElem?_cons_zero]
 have nu:=f.ne (i:=3) (j:=7+l.length) (by omega) rfl (by rw [show 7+l.length=l.length+7 by omega];exact p)
 have F:=f.ne (i:=3) (j:=7+(l.length+1)) (by omega) rfl (by rw [show 7+(l.length+1)=(l.length+1)+7 by omega];exact v)
 have r:=f.ne (i:=7+l.length) (j:=7+(l.length+1)) (by omega) (by rw [show 7+l.length=l.length+7 by omega];exact p) (by rw [show 7+(l.length+1)=(l.length+1)+7 by omega];exact v)
 have C:=G
 rw [k] at C
 have J:=yrJ C (f.ne (i:=2) (j:=3) (by omega) rfl rfl) (fun z=>nu z.symm) (fun z=>F z.symm) r (f.get (7+l.length) (by rw [show 7+l.length=l.length+7 by omega];exact p)) (f.get (7+(l.length+1)) (by rw [show 7+(l.length+1)=(l.length+1)+7 by omega];exact v)) (by have a:=D e (by rw [ed];simp);have b:=D d (by rw [ed];simp);omega)
 refine ⟨(h2.set c.st (.lst ((l++[u]).map .loc))).set u (.dct (yka d.1 d.2 e.1 e.2).1 (yka d.1 d.2 e.1 e.2).2),{ c with ly:=l++[u] },?_,⟨?_,by show (l++[u]).length=(ds++[yka d.1 d.2 e.1 e.2]).length;simp [hl]⟩,rfl⟩
 rotate_left
 .have K:=At.upd (a:=[_,_,_]) (.lst ((l++[u]).map .loc)) f
  have N:=At.upd (a:=_::_::_::_::_::_::_::lay l ds) (.dct (yka d.1 d.2 e.1 e.2).1 (yka d.1 d.2 e.1 e.2).2) (b:=(t,.dct d.1 d.2)::rest) K
  unfold RM
  show At _ (_::_::_::_::_::_::_::(lay (l++[u]) (ds++[yka d.1 d.2 e.1 e.2])++rest))
  rw [yeT _ _ _ _ hl,append_assoc]
  exact N.sub (((((((((List.Sublist.refl _).append (((List.sublist_cons_self _ _)).cons₂ _)).cons₂ _).cons₂ _).cons₂ _).cons₂ _).cons₂ _).cons₂ _).cons₂ _)
 unfold goS
 simp_all? only [H,ydt R.sds,M,I,ycs,yH (m:="settle") G.ob (by rfl'),J]
end
section
variable {w:Int}{rows:List PV}{rest:List (Nat×Nd)}
theorem yvh {h:AH}{c:Lc}{s:RS}(R:RR w rows rest h c s) {l:List Nat}{t:Nat}{ds:List _}{d:List Key×List PV}(b:c.ly=l++[t]) (ed:s.dd=ds++[d]):RR w rows rest (h.set c.st (.lst (l.map .loc))) { c with ly:=l } { s with dd:=ds }:=by
 have hl:l.length=ds.length:=by have:=R.len;simp_all
 refine ⟨?_,hl⟩
 have A:=At.upd (a:=[_,_,_]) (.lst (l.map .loc)) R.at_
 rw [b,ed,yeT _ _ _ _ hl,append_assoc] at A
 exact A.sub (((((((((List.Sublist.refl _).append (List.sublist_cons_self _ _)).cons₂ _).cons₂ _).cons₂ _).cons₂ _).cons₂ _).cons₂ _).cons₂ _)
theorem yFQ {L a:Nat}{v1 v3:PV}{p4:PVar}:∀ (k f:Nat) (h:AH) (c:Lc) (s:RS),RR w rows rest h c s->c.rn=a->s.sd.length=L+k->s.dd.length=s.sd.length+1->k<f ->
  ∃ h' c',whl lvC lvB f [.val (.loc a),.val v1,.val (.int ((L+1:Nat):Int)),.val v3,p4] h=some (.nx [.val (.loc a),.val v1,.val (.int ((L+1:Nat):Int)),.val v3,p4],h')/\RR w rows rest h' c' { s with sd:=s.sd.take L,dd:=s.dd.take (L+1) }/\c'.rn=a:=by
 intro k
 induction k with
 | zero =>
  intro f h c s R n hs D O
  obtain ⟨f,rfl⟩:∃ g,f=g+1:=⟨f-1,by omega⟩
  subst n
  obtain ⟨E,B,v,K,H,C,b⟩:=ycM R.run
  refine ⟨h,c,?_,by rw [List.take_of_length_le (by omega),List.take_of_length_le (by omega)];exact R,rfl⟩
  have o:lvC [.val (.loc c.rn),.val v1,.val (.int ((L+1:Nat):Int)),.val v3,p4] h=some (false,h):=by
   have j:yba [.loc c.sd] h=some (.int s.sd.length,h):=by rw [yfD R.sds,length_map]
   have i:oGe (.int (s.sd.length:Nat)) (.int ((L+1:Nat):Int)) h=some (.bl false,h):=by
    show some (PV.bl (decide (((L+1:Nat):Int)<=(s.sd.length:Nat))),h)=_
    rw [decide_eq_false (by omega)]
   simp_all? only [b,j,i]
  rw [yvd,o]
  rfl
 | succ k ih =>
  intro f h c s R n hs D O
  obtain ⟨f,rfl⟩:∃ g,f=g+1:=⟨f-1,by omega⟩
  subst n
  obtain ⟨E,B,v,K,H,C,b⟩:=ycM R.run
  obtain ⟨q,x,p⟩:=yca (xs:=s.sd) (by omega)
  obtain ⟨ds,d,ed⟩:=yca (xs:=s.dd) (by omega)
  obtain ⟨l,t,u⟩:=yca (xs:=c.ly) (by have:=R.len;omega)
  have W:s.sd.length=q.length+1:=by rw [p];simp
  have P:s.dd.length=ds.length+1:=by rw [ed];simp
  have R2:=R.side q
  have M:ygY (.loc c.sd) [] h=some (sdV x,h.set c.sd (.lst (q.map sdV))):=yrU (by rw [R.sds,p,map_append];rfl)
  have o:lvC [.val (.loc c.rn),.val v1,.val (.int ((L+1:Nat):Int)),.val v3,p4] h=some (true,h):=by
   have j:yba [.loc c.sd] h=some (.int s.sd.length,h):=by rw [yfD R.sds,length_map]
   have i:oGe (.int (s.sd.length:Nat)) (.int ((L+1:Nat):Int)) h=some (.bl true,h):=by
    show some (PV.bl (decide (((L+1:Nat):Int)<=(s.sd.length:Nat))),h)=_
    rw [decide_eq_true (by omega)]
   simp_all? only [b,j,i]
  obtain ⟨X,U,y,T,Y,Z,S⟩:=ycM R2.run
  have G:=R2.lg
  have r:=G
  rw [u] at r
  have N:=yyF r
  have F:=yvh R2 u ed
  have J:lvB [.val (.loc c.rn),.val v1,.val (.int ((L+1:Nat):Int)),.val v3,p4] h=some (.nx [.val (.loc c.rn),.val v1,.val (.int ((L+1:Nat):Int)),.val v3,p4],(h.set c.sd (.lst (q.map sdV))).set c.st (.lst (l.map .loc))):=by
   generalize h.set c.sd (.lst (q.map sdV))=h2 at *
   simp_all? only [b,ydt R.sds,M,y,ycs,yH (m:="drop") G.ob (by rfl'),N]
  obtain ⟨h',c',I,A,z⟩:=ih f _ _ _ F rfl (by show q.length=L+k;omega) (by show ds.length=q.length+1;omega) (by omega)
  refine ⟨h',c',?_,?_,z⟩
  .rw [yvd,o,ybL,if_pos rfl,J,ybL]
   exact I
  .rw [p,ed,List.take_append_of_le_length (by omega),List.take_append_of_le_length (by omega)]
   exact A
end
section
variable {h:AH}{w:Int}{rows:List PV}{rest:List (Nat×Nd)}{c:Lc}{s:RS}
theorem RR.newh (R:RR w rows rest h c s) q:RR w rows rest ((h++[Nd.lst (q.map .int)]).set c.rn (yks h.length w c.lg rows s.t c.sn c.sd)) { c with hl:=h.length } { s with hs:=q }:=by
 refine ⟨?_,R.len⟩
 have A:=At.new (.lst (q.map .int)) (a:=[_]) R.at_
 have b:=At.upd (a:=[]) (yks h.length w c.lg rows s.t c.sn c.sd) A
 exact b.sub ((List.Sublist.cons _ (List.Sublist.refl _)).cons₂ _ |>.cons₂ _)
theorem yBS {b:Rw}(a:yhc b=true):ybc (yV b) (.int (-1)) h=some (.int (toB b),h):=by
 cases b<;>first|(cases a;done)|kernel_rfl!
theorem yoq {r:Rw}{L:Nat}{x:Rw×List Int}(R:RR w rows rest h c s) (A:okS s=true) (t:yvb r=true) (o:tkL s.sd r s.sd.length=L+1) (a:s.sd[L]?=some x) :
  ∃ h' c',yck [.loc c.rn,yV r] h=some (yV x.1,h')/\RR w rows rest h' c' ⟨(toB x.1).toNat,x.2,s.sd.take L,s.dd.take (L+1),s.sn⟩/\c'.rn=c.rn:=by
 obtain ⟨K,o2,N,g,G⟩:=ygR A
 obtain ⟨I,O,F,M,H,J,z⟩:=ycM R.run
 have E:L<s.sd.length:=(List.getElem?_eq_some_iff.mp a).1
 obtain ⟨k,u,P⟩:=g x (mem_of_getElem? a)
 obtain ⟨h1,d,f,e,i⟩:=yFQ (v1:=yV r) (v3:=sdV x) (p4:=.no) (L:=L) (s.sd.length-L) 1000 h c s R rfl (by omega) o2 (by omega)
 have f:yfo 1000 lvC lvB _ h=_:=f
 have k0:0<=toB x.1:=by
  revert k u
  cases x.1<;>simp [yhc,okR,toB]
 have R2:=e.newh x.2
 rw [i] at R2
 have D:=R2.to (toB x.1).toNat
 refine ⟨_,_,?_,D,rfl⟩
 have y:ybC (.loc c.sd) (.int (((L+1:Nat):Int)-1)) h=some (sdV x,h):=by
  unfold ybC
  simp only [R.sds]
  rw [show ((L+1:Nat):Int)-1=(L:Nat) by omega,ydi (by rw [getElem?_map,a];rfl)]
 have v:∀ h,ybc (sdV x) (.int 0) h=some (yV x.1,h):=fun _=>rfl
 have q:∀ h,ybc (sdV x) (.int 1) h=some (.lst (x.2.map .int),h):=fun _=>rfl
 have l:=yop R.run R.sds (fun x a=>(g x a).1) t (by omega)
 rw [o] at l
 have B:(h1++[Nd.lst (x.2.map .int)])[c.rn]?=some (yks d.hl w d.lg rows s.t d.sn d.sd):=by
  rw [<- i,getElem?_append_left (List.getElem?_eq_some_iff.mp e.run).1];exact e.run
 have p:=yve (j:=h1.length) (ρ:=[.val (.loc c.rn),.val (yV r),.val (.int ((L+1:Nat):Int)),.val (sdV x),.val (yV x.1)]) B
 have n:=ylW (j:=toB x.1) (ρ:=[.val (.loc c.rn),.val (yV r),.val (.int ((L+1:Nat):Int)),.val (sdV x),.val (yV x.1)]) R2.run
 have C:=fun h=>yBS (h:=h) k
 unfold yck
 rw [yo]
 show ob (yl _ (yl _ (yl (yfo 1000 lvC lvB) _)) [.val (.loc c.rn),.val (yV r),.no,.no,.no] h) fnK=_
 simp_all? only [ycs,yH (m:="taker_layer") R.run (by rfl'),l,z,y,f,v,q,ypy,p,C,n]
 rw [show (((toB x.1).toNat:Nat):Int)=toB x.1 by omega]
theorem yyP {L:Nat}{x:Rw×List Int}(R:RR w rows rest h c s) (b:rows[s.t]?=some (yV .wait)) (f:okS s=true) (i:tkL s.sd .wait s.sd.length=L+1) (d:s.sd[L]?=some x) :
  ∃ h' c',ycf [.loc c.rn] h=some (.non,h')/\RR w rows rest h' c' ⟨(toB x.1).toNat,x.2,s.sd.take L,s.dd.take (L+1),s.sn⟩/\c'.rn=c.rn:=by
 have a:=R.to (s.t+1)
 obtain ⟨h',c',g,e,j⟩:=yoq a f rfl i d
 refine ⟨h',c',?_,e,j⟩
 rw [yiD R.run b,yyL]
 show dk (mK 12 _ yck _ _ _ _) _=_
 rw [yH a.run (rfl)]
 show dk (yck _ _) _=_
 rw [g]
 rfl
theorem yvi {L:Nat}{x:Rw×List Int}{a b:Str}(R:RR w rows rest h c s) (r:rows[s.t]?=some (yV (.throw a b))) (t:b∈SL) (p:okS s=true) (D:tkL s.sd (.throw a b) s.sd.length=L+1) (n:s.sd[L]?=some x) (g:ygP x.1 (.throw a b)=true) :
  ∃ h' c',ycf [.loc c.rn] h=some (.non,h')/\RR w rows rest h' c' ⟨(toB x.1).toNat,x.2.set (sx (slB x.1)) (s.hs.getD (sx b) 0),s.sd.take L,s.dd.take (L+1),s.sn⟩/\c'.rn=c.rn:=by
 have d:=R.to (s.t+1)
 obtain ⟨A,o2,F,B,E⟩:=ygR p
 obtain ⟨G,l,C⟩:=B x (mem_of_getElem? n)
 obtain ⟨h',c',q,f,o⟩:=yoq d p rfl D n
 obtain ⟨nm,e,k,j⟩:∃ nm e k,x.1=.guard nm e k:=by
  revert g
  cases x.1<;>first|(intro g;cases g;done)|exact fun _=>⟨_,_,_,rfl⟩
 have hs:e∈SL:=by
  rw [j] at l
  unfold okR at l
  simp_all
 have i:=yic (v:=s.hs.getD (sx b) 0) f.run f.held C hs
 rw [j] at q f i ⊢
 refine ⟨_,c',?_,f.hold _,o⟩
 have u:=ycW d.run d.held A t
 have z:∀ h,ybc (yV (.throw a b)) (.int 2) h=some _:=fun _=>rfl
 have y:∀ h,ybc (yV (.guard nm e k)) (.int 2) h=some _:=fun _=>rfl
 have r2:=f.run
 rw [o] at r2 i
 rw [yiD R.run r,yvf]
 show dk (mK 12 "throw" ycA _ _ _ _) _=_
 rw [yH d.run (rfl)]
 show dk (ycA _ _) _=_
 have:ycA [.loc c.rn,yV (.throw a b)] (h.set c.rn (yks c.hl w c.lg rows (s.t+1:Nat) c.sn c.sd))=some (.non,h'.set c'.hl (.lst ((x.2.set (sx e) (s.hs.getD (sx b) 0)).map .int))):=by
  unfold ycA
  rw [yo]
  show ob (yl _ _ [.val _,.val _,.no,.no] _) fnK=_
  simp_all? only [ycs,yH (m:="held_in") d.run (rfl),yH (m:="leave") d.run (rfl),yH (m:="hold") r2 (rfl),z,y,u,q,i]
 rw [this]
 rfl
end
local macro_rules | `(tactic| walk_at "pw")=>`(tactic| simp_all? only [$(sl_ "yki ykj ykk ykl yiB yiC ylS ylT ykm ykn yko ykp ylU ykq ykr ylV if_true if_false"),*])
section
variable {h:AH}{w:Int}{rows:List PV}{rest:List (Nat×Nd)}{c:Lc}{s s':RS}{r:Rw}
theorem ykt {sd:List _}:∀ {k L:Nat},tkL sd r k=L+1->∃ x,sd[L]?=some x/\ygP x.1 r=true
 | k+1,L,e=>by
  unfold tkL at e
  split at e
  .split at e
   .cases e
    simp_all
   .exact ykt e
  .cases e
theorem yBT {p:Str}(R:RR w rows rest h c s):yec [.loc c.lg,.int (s.hs.getD (sx p) 0%w)] h=some (yrR s w p,h):=by
 rw [yBH R.lg,R.len];rfl
theorem yyQ {x:PV}{r p:Str}:yC [x,yV (.take r p)] h=dk (mK 12 "take_own" ycj (fun _ h1=>some ([.str r,.str p],h1)) [] x h) [.val x,.val (yV (.take r p))]:=by kernel_rfl!
theorem ynl {r p:Str}{v:Int}(R:RR w rows rest h c s) (d:r∈SL) (hp:p∈SL) (b:s.hs.length=8) (f:1<=w) (ev:yrR s w p=.int v):ycj [.loc c.rn,.str r,.str p] h=some (.non,h.set c.hl (.lst ((s.hs.set (sx r) v).map .int))):=by
 obtain ⟨l,j,e,g,n,k,i⟩:=ycM R.run
 have o:=yBT (p:=p) R
 rw [ev] at o
 unfold ycj
 rw [yo]
 show ob (yZ _ [.val _,.val _,.val _] h) fnK=_
 simp_all? only [ycs,e,yH (m:="hold") R.run (by rfl'),yH (m:="own") R.lg.ob (rfl),yH (m:="box_at") R.run (by rfl'),yeS R.run R.held b hp f,o,yic R.run R.held b d]
theorem yyR {p:Str}(R:RR w rows rest h c s) (hp:p∈SL) (b:s.hs.length=8) (d:1<=w):yda [.loc c.rn,.str p] h=some (.bl (isN (yrR s w p)),h):=by
 obtain ⟨j,i,e,l,g,k,f⟩:=ycM R.run
 unfold yda
 rw [yo]
 show ob (yQ _ [.val _,.val _] h) fnK=_
 simp_all? only [ycs,e,yH (m:="own") R.lg.ob (by rfl'),yH (m:="box_at") R.run (by rfl'),yeS R.run R.held b hp d,yBT R]
theorem yyS {r p:Str}{v:Int}(R:RR w rows rest h c s) (d:rows[s.t]?=some (yV (.take r p))) (g:r∈SL) (hp:p∈SL) (e:s.hs.length=8) (f:1<=w) (ev:yrR s w p=.int v):∃ h',ycf [.loc c.rn] h=some (.non,h')/\RR w rows rest h' c ⟨s.t+1,s.hs.set (sx r) v,s.sd,s.dd,s.sn⟩:=by
 have a:=R.to (s.t+1)
 refine ⟨_,?_,a.hold _⟩
 rw [yiD R.run d,yyK]
 show dk (mK 12 _ yC _ _ _ _) _=_
 rw [yH a.run (by rfl')]
 show dk (yC _ _) _=_
 rw [yyQ,yH a.run (rfl),ybL,ynl a g hp e f ev]
 rfl
theorem yEx {w:Str}{x y:Int}(hw:w∈W5) (hx:0<=x/\x<B64):yhp [.str w,.int x,.int y] h=some (.int (rk w x y),h):=by
 have hm:MulOk x y:=.inl ⟨by have:=hx.1;omega,hx.2⟩
 unfold yhp
 rw [yo]
 show ob (yl _ _ [.val (.str w),.val (.int x),.val (.int y)] h) fnK=_
 unfold rk
 rcases ywt hw with rfl|rfl|rfl|rfl|rfl
 .kernel_rfl!
 .kernel_rfl!
 .walk_at "pw"
  rw [if_pos hm]
 .walk_at "pw"
  split<;>rfl
 .walk_at "pw"
  split<;>rfl
theorem ylX {v r p q:Str}(R:RR w rows rest h c s) (d:v∈W5) (g:r∈SL) (hp:p∈SL) (e:q∈SL) (b:s.hs.length=8) (f:0<=s.hs.getD (sx p) 0/\s.hs.getD (sx p) 0<B64):ybX [.loc c.rn,.str v,.str r,.str p,.str q] h=some (.non,h.set c.hl (.lst ((s.hs.set (sx r) (rk v (s.hs.getD (sx p) 0) (s.hs.getD (sx q) 0))).map .int))):=by
 unfold ybX
 rw [yo]
 show ob (yZ _ [.val _,.val _,.val _,.val _,.val _] h) fnK=_
 simp_all? only [ycs,yH (m:="hold") R.run (by rfl'),yH (m:="held_in") R.run (by rfl'),ycW R.run R.held b hp,ycW R.run R.held b e,yEx d f,yic R.run R.held b g]
theorem yrW {x:PV}{v r p q:Str}(g:v∈W5):yC [x,yV (.reckon v r p q)] h=dk (mK 12 "do_reckon" ybX (fun _ h1=>some ([.str v,.str r,.str p,.str q],h1)) [] x h) [.val x,.val (yV (.reckon v r p q))]:=by
 rcases ywt g with rfl|rfl|rfl|rfl|rfl
 all_goals kernel_rfl!
theorem yrX {v r p q:Str}(R:RR w rows rest h c s) (i:rows[s.t]?=some (yV (.reckon v r p q))) (b:v∈W5) (g:r∈SL) (hp:p∈SL) (f:q∈SL) (d:s.hs.length=8) (e:0<=s.hs.getD (sx p) 0/\s.hs.getD (sx p) 0<B64):∃ h',ycf [.loc c.rn] h=some (.non,h')/\RR w rows rest h' c ⟨s.t+1,s.hs.set (sx r) (rk v (s.hs.getD (sx p) 0) (s.hs.getD (sx q) 0)),s.sd,s.dd,s.sn⟩:=by
 have a:=R.to (s.t+1)
 refine ⟨_,?_,a.hold _⟩
 rw [yiD R.run i,yrQ b]
 show dk (mK 12 _ yC _ _ _ _) _=_
 rw [yH a.run (rfl)]
 show dk (yC _ _) _=_
 rw [yrW b,yH a.run (rfl),ybL,ylX a b g hp f d e]
 rfl
theorem yyT (R:RR w rows rest h c s) (g:rows[s.t]?=some (yV r)) (u:1<=w) (e:ypi w r s=some s'):∃ h' c',ycf [.loc c.rn] h=some (.non,h')/\RR w rows rest h' c' s'/\c'.rn=c.rn:=by
 unfold ypi at e
 split at e
 .rename_i t
  obtain ⟨k1,j⟩:=Bool.and_eq_true_iff.mp t
  obtain ⟨l,o2,G,I,H⟩:=ygR j
  have z:∀ b:Rw,(∀ x h,goB [.val x,.val (yV b)] h=goE [.val x,.val (yV b)] h)->rows[s.t]?=some (yV b)->∃ h' c',ycf [.loc c.rn] h=some (.non,h')/\RR w rows rest h' c' ⟨s.t+1,s.hs,s.sd++[(b,s.hs)],s.dd++[([],[])],s.sn⟩/\c'.rn=c.rn:=fun b C g=>by
   obtain ⟨h',c',d,f,o⟩:=yBR (r:=b) (R.to (s.t+1)) G o2
   exact ⟨h',c',by rw [yiD R.run g,C,d],f,o⟩
  cases r with
  | let_ a n =>
   cases e
   obtain ⟨h',d,f⟩:=yBP R g (by simpa [okR] using k1) l
   exact ⟨h',c,d,f,rfl⟩
  | put p a =>
   cases e
   obtain ⟨k2,k3⟩:p∈SL/\a∈SL:=by simpa [okR] using k1
   obtain ⟨h',d,f⟩:=yBQ R g k2 k3 u j
   exact ⟨h',c,d,f,rfl⟩
  | take p a =>
   obtain ⟨k2,k3⟩:p∈SL/\a∈SL:=by simpa [okR] using k1
   dsimp only at e
   split at e
   .rename_i v B
    cases e
    obtain ⟨h',d,f⟩:=yyS R g k2 k3 l u B
    exact ⟨h',c,d,f,rfl⟩
   .cases e
  | jump k =>
   cases e
   obtain ⟨h',d,f⟩:=yyN R g (by simpa [okR] using k1)
   exact ⟨h',c,d,f,rfl⟩
  | unl r k =>
   cases e
   obtain ⟨k2,k3⟩:r∈SL/\0<=k:=by simpa [okR] using k1
   obtain ⟨h',d,f⟩:=yrS R g k2 l k3
   exact ⟨h',c,d,f,rfl⟩
  | either k=>cases e;exact z _ (fun _ _=>yrN) g
  | guard a b k=>cases e;exact z _ (fun _ _=>yvg) g
  | settle =>
   dsimp only at e
   split at e
   .cases e
   .rename_i D
    cases e
    obtain ⟨h',c',d,f,o⟩:=yrV (R.to (s.t+1)) j D
    exact ⟨h',c',by rw [yiD R.run g,yrO,d],f,o⟩
  | reckon v a p q =>
   dsimp only at e
   split at e
   .rename_i i
    cases e
    obtain ⟨⟨⟨k2,k3⟩,F⟩,k5⟩:((v∈W5/\a∈SL)/\p∈SL)/\q∈SL:=by simpa [okR] using k1
    obtain ⟨h',d,f⟩:=yrX R g k2 k3 F k5 l i
    exact ⟨h',c,d,f,rfl⟩
   .cases e
  | lay=>cases e
  | wait =>
   dsimp only at e
   unfold yjn at e
   split at e
   .cases e
   .rename_i L m
    split at e
    .rename_i x i
     cases e
     exact yyP R g j m i
    .cases e
  | throw a b =>
   dsimp only at e
   unfold yjn at e
   split at e
   .cases e
   .rename_i L m
    split at e
    .rename_i x i
     cases e
     obtain ⟨y,A,E⟩:=ykt m
     rw [i] at A
     cases A
     exact yvi R g (by simpa [okR] using k1) j m i E
    .cases e
 .cases e
def yhd (w:Int) (s:RS):Rw->Bool
 | .take _ p=>isN (yrR s w p)
 | .wait=>decide (((tkL s.sd .wait s.sd.length:Nat):Int)=0)
 | .throw a b=>decide (((tkL s.sd (.throw a b) s.sd.length:Nat):Int)=0)
 | .lay=>true
 | _=>false
theorem ynm (R:RR w rows rest h c s) (i:rows[s.t]?=some (yV r)) (n:okS s=true) (f:okR r=true) (o:1<=w):ybm [.loc c.rn] h=some (.bl (yhd w s r),h):=by
 obtain ⟨j,o2,A,k,z⟩:=ygR n
 rw [yyJ R.run i]
 have g:∀ b:Rw,yvb b=true->loB _ h=ob (yQ (xOp (oEq) (M2 "taker_layer" ybt) (xC (.int 0))) [.val (.loc c.rn),.val (yV b)] h) (sqK (yQ (xOp (oEq) (xOp (ybc) (yd 1) (xC (.int 0))) (xC (.str "lay")))))->ob (loB [.val (.loc c.rn),.val (yV b)] h) fnK=some (.bl (decide (((tkL s.sd b s.sd.length:Nat):Int)=0)),h):=fun b t e=>by
  rw [e]
  simp_all? only [ycs,yH (m:="taker_layer") R.run (by rfl'),yop R.run R.sds (fun x l=>(k x l).1) t (by omega)]
 cases r with
 | wait=>exact g .wait rfl (by kernel_rfl!)
 | throw a b=>exact g (.throw a b) rfl (by kernel_rfl!)
 | take a p =>
  obtain ⟨k2,k3⟩:a∈SL/\p∈SL:=by simpa [okR] using f
  have u:∀ h,ybc (yV (.take a p)) (.int 0) h=some _:=fun _=>rfl
  have y:∀ h,ybc (yV (.take a p)) (.int 2) h=some (.str p,h):=fun _=>rfl
  unfold loB
  simp_all? only [ycs,u,y,yH (m:="sees_at") R.run (by rfl'),yyR R k3 j o]
  rfl
 | reckon v a p q =>
  obtain ⟨⟨⟨k2,_⟩,_⟩,_⟩:((v∈W5/\a∈SL)/\p∈SL)/\q∈SL:=by simpa [okR] using f
  rcases ywt k2 with rfl|rfl|rfl|rfl|rfl<;>kernel_rfl!
 | _=>kernel_rfl!
end
noncomputable def stB (m:List (Nat×Int×Int)) (sp:List Int):Bool:=(m.map fun p=>!decide (sp.getD p.1 0=p.2.2)).any id
theorem yBU {f:Nat×Int×Int->PV}:∀ {m:List _}{p:Nat×Int×Int},(m.map (·.1)).Nodup->p∈m->yhI (sK m) (m.map f) (.inl p.1)=some (f p)
 | q::m,p,c,hp=>by
  show (if (Sum.inl _:Key)=.inl _ then some _ else yhI _ _ _)=_
  obtain ⟨d,b⟩:=List.nodup_cons.mp c
  rcases mem_cons.mp hp with rfl|hp
  .rw [if_pos rfl]
  .rw [if_neg _]
   .exact yBU b hp
   grind
theorem yku {α:Type} f:∀ l:List α,yhE (l.map fun a=>PV.bl (f a))=some (l.map f)
 | []=>rfl
 | a::l=>by
  show yhE (PV.bl _::l.map _)=some _
  unfold yhE
  simp only [yku f l]
  try rfl
theorem yvj {f:Nat×Int×Int->PV}{k:Nat}{a b:Int}{m:List _}(d:f (k,a,b)=v):ycK (sK m) (m.map f) (.inl (k:Int)) v=(sK (ydW m k a b),(ydW m k a b).map f):=by
 have g:∀ m,yqO (sK m) (.inl (k:Int))=decide (k∈m.map (·.1)):=by
  intro m
  induction m with
  | nil=>rfl
  | cons q m ih =>
   show (if (Sum.inl (q.1:Int):Key)=.inl (k:Int) then true else yqO (sK m) _)=_
   rw [ih]
   by_cases e:q.1=k
   .simp_all
   .rw [if_neg (fun z=>e (by have:=Sum.inl.inj z;omega))]
    simp [Ne.symm e]
 have h:∀ m,setK (sK m) (m.map f) (.inl (k:Int)) v=(m.map fun p=>if p.1=k then (k,a,b) else p).map f:=by
  intro m
  induction m with
  | nil=>rfl
  | cons q m ih =>
   show (if (Sum.inl (q.1:Int):Key)=.inl (k:Int) then v::setK (sK m) (m.map f) _ v else f q::setK (sK m) (m.map f) _ v)=f (if q.1=k then (k,a,b) else q)::_
   rw [ih]
   by_cases e:q.1=k
   .rw [if_pos (by rw [e]),if_pos e,d]
   .rw [if_neg (fun z=>e (by have:=Sum.inl.inj z;omega)),if_neg e]
 unfold ycK ydW
 rw [g]
 by_cases e:k∈m.map (·.1)
 .rw [if_pos (decide_eq_true e),if_pos e,h]
  refine Prod.ext ?_ rfl
  show sK m=(m.map _).map _
  rw [map_map]
  refine List.map_congr_left fun p _=>?_
  show _=(Sum.inl (((if p.1=k then (k,a,b) else p).1:Nat):Int):Key)
  split
  .rename_i e;rw [e]
  .rfl
 .rw [if_neg (by simp [e]),if_neg e,map_append]
  unfold sK
  rw [map_append,<- d]
  rfl
section
variable {h:AH}{w:Int}{rows:List PV}{rest:List (Nat×Nd)}{c:Lc}{s s':RS}{r:Rw}{sp bx:List Int}{ma nu:Nat}
theorem ykv (R:RR w rows rest h c s) (g:(ma,.lst (sp.map .int))∈rest) (j:(s.sn.map (·.1)).Nodup) (i:∀ p∈s.sn,p.1<sp.length) (hl:s.sn.length<=900):ycu [.loc c.rn,.loc ma] h=some (.bl (stB s.sn sp),h):=by
 obtain ⟨z,F,u,x,y,k,E⟩:=ycM R.run
 have e:=R.at_.get 5 rfl
 have A:=At.upd (a:=[_,_,_,_,_]) (.fz (sK s.sn) (sB s.sn)) R.at_
 have f:=A.2 (ma,.lst (sp.map .int)) (by simp [g])
 obtain ⟨H,G,C,v,B,t,D⟩:=ycM (A.get 0 rfl)
 have en:=A.get 5 rfl
 have b:(h.set c.sn (.fz (sK s.sn) (sB s.sn))).set c.sn (.dct (sK s.sn) (sB s.sn))=h:=by
  rw [List.set_set]
  obtain ⟨I,q⟩:=List.getElem?_eq_some_iff.mp e
  rw [<- q,List.set_getElem_self]
 have o:ygW (xOp (oNe) (xOp (ybC) (yd 1) (yd 0)) (yfk (ybb [12] "seen_stamps" (yd 2)) (yd 0))) (yfP [1,0] [.val (.loc c.rn),.val (.loc ma)]) ((sK s.sn).map yhM) (h.set c.sn (.fz (sK s.sn) (sB s.sn)))=some (s.sn.map (fun p=>.bl (!decide (sp.getD p.1 0=p.2.2))),h.set c.sn (.fz (sK s.sn) (sB s.sn))):=by
  generalize h.set c.sn _=h1 at *
  show ygW _ _ ((s.sn.map _).map yhM) _=_
  rw [map_map]
  refine ydU _ _ fun p hp=>?_
  show xOp _ _ _ [.val (.int (p.1:Int)),.val (.loc ma),.val (.loc c.rn)] _=_
  have m:=yfJ f (i p hp)
  have d:yfk (ybb [12] "seen_stamps" (yd 2)) (yd 0) [.val (.int (p.1:Int)),.val (.loc ma),.val (.loc c.rn)] h1=some (.int p.2.2,h1):=by
   unfold yfk
   simp_all? only [t]
   unfold ywe
   simp only [en,keyOf]
   unfold sB
   rw [yBU j hp]
  simp_all? only [m,d]
 have n:∀ h,yri [.lst (s.sn.map (fun p=>PV.bl _))] h=some (.bl (stB s.sn sp),h):=fun h=>by
  unfold yri ybE
  simp only [yku _]
  rfl
 have l:ylG (ybb [12] "seen_stamps" (yd 0)) [1,0] (xOp (oNe) (xOp (ybC) (yd 1) (yd 0)) (yfk (ybb [12] "seen_stamps" (yd 2)) (yd 0))) [.val (.loc c.rn),.val (.loc ma)] h=some (.lst (s.sn.map (fun p=>.bl (!decide (sp.getD p.1 0=p.2.2)))),h):=by
  unfold ylG
  simp_all? only [k]
  simp only [e]
  rw [if_pos (by unfold sK;rw [length_map];omega),o,ybL,b]
 unfold ycu
 rw [yo]
 show ob (yQ _ [.val (.loc c.rn),.val (.loc ma)] h) fnK=_
 simp_all? only [l,n]
theorem RR.see (R:RR w rows rest h c s) k a b:RR w rows rest ((h.set c.sn (.dct (sK (ydW s.sn k a b)) (sB (ydW s.sn k a b)))).set c.ls (.dct (sK (ydW s.sn k a b)) (sA (ydW s.sn k a b)))) c { s with sn:=ydW s.sn k a b }:=by
 have A:=At.upd (a:=[_,_,_,_,_]) (.dct (sK (ydW s.sn k a b)) (sB (ydW s.sn k a b))) R.at_
 exact ⟨At.upd (a:=[_,_,_,_]) _ A,R.len⟩
theorem yBV {o st b:Nat}{i:Int}{v:PV}{ks:List Key}{xs:List PV}(d:h[o]?=some (.ins 11 ["stack","last_seen"] [.loc st,.loc b])) (a:h[b]?=some (.dct ks xs)) (hl:ks.length<1000):ygb [.loc o,.int i,v] h=some (.non,h.set b (.dct (ycK ks xs (.inl i) v).1 (ycK ks xs (.inl i) v).2)):=by
 unfold ygb
 rw [yo]
 show ob (yiz _ _ _ _ h) fnK=_
 rw [yhr rfl (by rw [yjP,show yd 0 _ h=some _ from rfl,ybL,yrF d]) rfl a hl]
 rfl
theorem ynn {a p:Str}{k:Nat}(R:RR w rows rest h c s) (U:rows[s.t]?=some (yV (.take a p))) (H:(ma,.lst (sp.map .int))∈rest) (E:(nu,.lst (bx.map .int))∈rest) (q:s.hs.length=8) (I:a∈SL) (hp:p∈SL) (y:1<=w) (D:s.hs.getD (sx p) 0%w=(k:Nat)) (t:k<sp.length) (o:k<bx.length) (hl:s.sn.length<=900) :
  ∃ h',ydb [.loc c.rn,.loc nu,.loc ma] h=some (.int (k:Nat),h')/\RR w rows rest h' c ⟨s.t+1,s.hs.set (sx a) (bx.getD k 0),s.sd,s.dd,ydW s.sn k (bx.getD k 0) (sp.getD k 0)⟩:=by
 have g:=R.see k (bx.getD k 0) (sp.getD k 0)
 have R2:=g.hold (s.hs.set (sx a) (bx.getD k 0))
 refine ⟨_,?_,R2.to (s.t+1)⟩
 obtain ⟨W,Z,f3,f4,X,T,Y⟩:=ycM R.run
 have e:=At.upd (a:=[_,_,_,_,_]) (.dct (sK (ydW s.sn k (bx.getD k 0) (sp.getD k 0))) (sB (ydW s.sn k (bx.getD k 0) (sp.getD k 0)))) R.at_
 have J:ybC (.loc ma) (.int (k:Nat)) h=some (.int (sp.getD k 0),h):=yfJ (R.at_.2 (ma,.lst (sp.map .int)) (by unfold RM;simp [H])) t
 have N:∀ h,ybc (yV (.take a p)) (.int 1) h=some (.str a,h):=fun _=>rfl
 have S:∀ h,ybc (yV (.take a p)) (.int 2) h=some (.str p,h):=fun _=>rfl
 have C:=yeS R.run R.held q hp y
 rw [D] at C
 have G:(sK s.sn).length<1000:=by unfold sK;rw [length_map];omega
 have d1:=yhr (h:=h) (n:=c.sn) (i:=(k:Nat)) (x:=.int (sp.getD k 0)) (ed:=ybb [12] "seen_stamps" (yd 0)) (ek:=yd 4) (ev:=xOp (ybC) (yd 2) (yd 4)) (ρ:=[.val (.loc c.rn),.val (.loc nu),.val (.loc ma),.val (yV (.take a p)),.val (.int (k:Nat))]) (by simp_all? only [J]) (by simp_all? only [T]) rfl (R.at_.get 5 rfl) G
 rw [show sB s.sn=s.sn.map (fun p=>.int p.2.2) from rfl,yvj (f:=fun p=>.int p.2.2) (a:=bx.getD k 0) (b:=sp.getD k 0) rfl] at d1
 have F:=e.get 0 rfl
 have ts:ycx [.loc c.rn,.str a,.str p,.loc nu] (h.set c.sn (.dct (sK (ydW s.sn k (bx.getD k 0) (sp.getD k 0))) (sB (ydW s.sn k (bx.getD k 0) (sp.getD k 0)))))=some (.non,((h.set c.sn (.dct (sK (ydW s.sn k (bx.getD k 0) (sp.getD k 0))) (sB (ydW s.sn k (bx.getD k 0) (sp.getD k 0))))).set c.ls (.dct (sK (ydW s.sn k (bx.getD k 0) (sp.getD k 0))) (sA (ydW s.sn k (bx.getD k 0) (sp.getD k 0))))).set c.hl (.lst ((s.hs.set (sx a) (bx.getD k 0)).map .int))):=by
  have B:=yeS (r:=p) (e.get 0 rfl) (e.get 1 rfl) q hp y
  rw [D] at B
  have K:=(ycM (e.get 0 rfl)).2.2.1
  have s1:=yBV (i:=(k:Nat)) (v:=.int (bx.getD k 0)) (e.get 2 rfl) (e.get 4 rfl) G
  rw [show sA s.sn=s.sn.map (fun p=>.int p.2.1) from rfl,yvj (f:=fun p=>.int p.2.1) (a:=bx.getD k 0) (b:=sp.getD k 0) rfl] at s1
  have O:=yfJ (e.2 (nu,.lst (bx.map .int)) (by simp [E])) o
  have P:=yfJ (g.at_.2 (nu,.lst (bx.map .int)) (by unfold RM;simp [E])) o
  have L:=e.get 2 rfl
  have A:=yic (v:=bx.getD k 0) g.run g.held q I
  have r2:=g.run
  dsimp only at A r2
  change _=some (PV.non,(h.set c.sn _).set c.ls (.dct (sK (ydW s.sn k (bx.getD k 0) (sp.getD k 0))) (sA (ydW s.sn k (bx.getD k 0) (sp.getD k 0))))) at s1
  generalize (h.set c.sn _)=h1 at *
  unfold ycx
  rw [yo]
  show ob (yl _ _ [.val (.loc c.rn),.val (.str a),.val (.str p),.val (.loc nu),.no] h1) fnK=_
  simp_all? only [ycs,yH (m:="box_at") F (by rfl'),B,K,yH (m:="see") L (by rfl'),O,s1,yH (m:="hold") r2 (by rfl'),P,A]
 have M:=R2.run
 have l:=(ycM R2.run).2.2.2.2.1
 have u:=fun ρ=>ylW (j:=((s.t+1:Nat):Int)) (ρ:=ρ) R2.run
 have z:((s.t:Nat):Int)+1=((s.t+1:Nat):Int):=by omega
 dsimp only at l u M
 change _=some (Out.nx _,h.set c.sn (.dct (sK (ydW s.sn k (bx.getD k 0) (sp.getD k 0))) (sB (ydW s.sn k (bx.getD k 0) (sp.getD k 0))))) at d1
 unfold ydb
 rw [yo]
 show ob (yl _ _ [.val (.loc c.rn),.val (.loc nu),.val (.loc ma),.no,.no] h) fnK=_
 simp_all? only [ycs,yH (m:="row") R.run (by rfl'),yib R.run rfl U,N,S,yH (m:="box_at") R.run (by rfl'),C,d1,yH (m:="take_seen") F (by rfl'),ts,ypy,l,z,u]
end
structure HC where
 H:Nat
 nu:Nat
 ma:Nat
 cr:Nat
 en:Nat
structure HQ where
 bx:List Int
 sp:List Int
 en:List PV
 cw:List Nat
 i:Nat
 hd:Nat
 ds:List PV
 nth:Nat
 sl:Bool
 bf:List Int
def HL (g:HC) (rn:Nat) (w:Int) (q:HQ) (own:List (Nat×Nd)):List (Nat×Nd) :=
 (g.H,yuV g.nu g.ma g.cr g.en)::(g.nu,.lst (q.bx.map .int))::(g.ma,.lst (q.sp.map .int))::(g.cr,.lst (q.cw.map .loc))::(g.en,.lst q.en)::(q.hd,ydy q.ds w q.nth q.sl q.bf rn)::own
structure NF (W:Nat) (s:RS):Prop where
 nd:(s.sn.map (·.1)).Nodup
 hb:∀ p∈s.sn,p.1<W
 hl:s.sn.length<=900
noncomputable def stN (q:HQ):Str:=if q.nth=q.ds.length then "ended" else if q.sl=true then "asleep" else "awake"
section
variable {h:AH}{w:Int}{rows:List PV}{c:Lc}{s s':RS}{r:Rw}{g:HC}{q:HQ}{own:List (Nat×Nd)}{rn:Nat}
theorem RR.rest {m:List _}(R:RR w rows m h c s):At h m:=by
 have A:=R.at_
 exact At.sub A (List.sublist_append_right (_::_::_::_::_::_::_::lay c.ly s.dd) m)
theorem yno (A:At h (HL g rn w q own)) (a:q.cw[q.i]?=some q.hd):ybC (.loc g.cr) (.int q.i) h=some (.loc q.hd,h):=by
 have e:=A.get 3 rfl
 unfold ybC
 simp only [e]
 rw [ydi (by rw [getElem?_map,a];rfl)]
theorem yeh (A:At h (HL g rn w q own)) (a:q.cw[q.i]?=some q.hd):ybZ [.loc g.H,.int q.i] h=some (.loc q.hd,h):=by
 obtain ⟨l,m,f,k⟩:=ydz (A.get 0 rfl)
 have e:=A.get 3 rfl
 have b:yed [.int q.i] h=some (.bl true,h):=rfl
 have d:=yno A a
 have lt:=(List.getElem?_eq_some_iff.mp a).1
 have i:((0:Int)<=q.i)=True:=eq_true (by omega)
 have j:((q.i:Int)<(q.cw.map PV.loc).length)=True:=eq_true (by simp_all)
 unfold ybZ
 rw [yo]
 show ob (yl _ _ [.val _,.val _] h) fnK=_
 simp_all? only [f,yfD e,b,d,i,j]
theorem yfc (A:At h (HL g rn w q own)):ycl [.loc q.hd] h=some (.str (stN q),h):=by
 obtain ⟨d,i,b,f,j,k⟩:=ydN (A.get 5 rfl)
 unfold ycl stN
 rw [yo]
 show ob (yl _ _ [.val _] h) fnK=_
 by_cases e:q.nth=q.ds.length
 .have a:=by omega
  rw [if_pos e]
  simp_all? only [b,d,a]
 .have a:((q.nth:Int)=q.ds.length)=False:=eq_false (by omega)
  rw [if_neg e]
  simp_all? only [b,d,f,a]
  cases q.sl<;>rfl
theorem awake (a:q.nth<q.ds.length) (hs:q.sl=false):stN q = "awake":=by
 unfold stN
 grind
theorem yrY (A:At h (HL g rn w q own)) (a:q.cw[q.i]?=some q.hd) (hs:(stN q = "awake")=False):yF [.loc g.H,.int q.i] h=some (.tup [.str "idle"],h):=by
 unfold yF
 rw [yo]
 show ob (yl _ _ [.val _,.val _,.no,.no] h) fnK=_
 simp_all? only [ycs,yH (m:="hand_at") (A.get 0 rfl) (rfl),yeh A a,yH (m:="state") (A.get 5 rfl) (rfl),yfc A,hs]
theorem yrZ (R:RR w rows (HL g c.rn w q own) h c s) (o:q.cw[q.i]?=some q.hd) (d:rows[s.t]?=some (yV r)) (i:1<=w) (p:q.nth<q.ds.length) (hs:q.sl=false) (t:okS s=true) (b:okR r=true) (a:yhd w s r=false) (e:ypi w r s=some s') :
  ∃ h' c',yF [.loc g.H,.int q.i] h=some (.tup [.str "gone",.int s.t],h')/\RR w rows (HL g c'.rn w q own) h' c' s':=by
 obtain ⟨h',c',k,j,n⟩:=yyT R d i e
 refine ⟨h',c',?_,by rw [n];exact j⟩
 have A:=R.rest
 obtain ⟨x,C,D,B,v,l⟩:=ydN (A.get 5 rfl)
 obtain ⟨k1,k2,k3,y,k5,u,z⟩:=ycM R.run
 have st:=yfc A
 rw [awake p hs] at st
 have f:=ynm R d t b i
 rw [a] at f
 unfold yF
 rw [yo]
 show ob (yl _ _ [.val _,.val _,.no,.no] h) fnK=_
 simp_all? only [ycs,yH (m:="hand_at") (A.get 0 rfl) (rfl),yeh A o,yH (m:="state") (A.get 5 rfl) (rfl),st,l,k5,yH (m:="is_looked_over") R.run (rfl),f,yH (m:="go") R.run (rfl),k]
theorem ygi (R:RR w rows (HL g c.rn w q own) h c s) (n:q.cw[q.i]?=some q.hd) (f:rows[s.t]?=some (yV r)) (k:1<=w) (j:q.nth<q.ds.length) (hs:q.sl=false) (o:okS s=true) (d:okR r=true) (b:yhd w s r=true) (F:NF q.sp.length s) (fr:stB s.sn q.sp=false):yF [.loc g.H,.int q.i] h=ob (yO [.loc g.H,.int q.i,.int s.t] h) fun x h=>some (x,h):=by
 have A:=R.rest
 obtain ⟨G,E,H,v,y,l⟩:=ydN (A.get 5 rfl)
 obtain ⟨u,p,z,D⟩:=ydz (A.get 0 rfl)
 obtain ⟨k1,k2,k3,B,k5,t,C⟩:=ycM R.run
 have st:=yfc A
 rw [awake j hs] at st
 have e:=ynm R f o d k
 rw [b] at e
 have sl:=ykv R (mem_of_getElem? (i:=2) rfl) F.nd F.hb F.hl
 rw [fr] at sl
 unfold yF
 rw [yo]
 show ob (yl _ _ [.val _,.val _,.no,.no] h) fnK=_
 simp_all? only [ycs,yH (m:="hand_at") (A.get 0 rfl) (by rfl'),yeh A n,yH (m:="state") (A.get 5 rfl) (rfl),st,l,k5,yH (m:="is_looked_over") R.run (rfl),e,p,yH (m:="is_stale") R.run (rfl),sl,yH (m:="looked_over_told") (A.get 0 rfl) (rfl)]
theorem ysa {a p:Str}{k:Nat}(R:RR w rows (HL g c.rn w q own) h c s) (n:q.cw[q.i]?=some q.hd) (f:rows[s.t]?=some (yV (.take a p))) (u:1<=w) (C:q.nth<q.ds.length) (hs:q.sl=false) (o:okS s=true) (d:okR (.take a p)=true) (e:isN (yrR s w p)=true) (F:NF q.sp.length s) (fr:stB s.sn q.sp=false) (B:s.hs.getD (sx p) 0%w=k) (b:k<q.bx.length) (z:q.sp.length=q.bx.length) :
  ∃ h',yF [.loc g.H,.int q.i] h=some (.tup [.str "seen",.int s.t,.int k,.int (q.bx.getD k 0)],h')/\RR w rows (HL g c.rn w q own) h' c ⟨s.t+1,s.hs.set (sx a) (q.bx.getD k 0),s.sd,s.dd,ydW s.sn k (q.bx.getD k 0) (q.sp.getD k 0)⟩:=by
 obtain ⟨J,o2,O,N,L⟩:=ygR o
 obtain ⟨k2,k3⟩:a∈SL/\p∈SL:=by simpa [okR] using d
 obtain ⟨h',G,t⟩:=ynn R f (mem_of_getElem? (i:=2) rfl) (mem_of_getElem? (i:=1) rfl) J k2 k3 u B (by omega) b F.hl
 refine ⟨h',?_,t⟩
 rw [ygi R n f u C hs o d e F fr]
 have A:=R.rest
 have l:=t.rest
 obtain ⟨M,P,T,U,K,x⟩:=ydN (A.get 5 rfl)
 obtain ⟨v,H,E,S⟩:=ydz (A.get 0 rfl)
 have j:=(ydz (l.get 0 rfl)).1
 have y:=yno A n
 have I:∀ h,ybc (yV (.take a p)) (.int 0) h=some _:=fun _=>rfl
 have D:=yfJ (l.get 1 rfl) b
 unfold yO
 rw [yo]
 show ob (ob (yl _ _ [.val _,.val _,.val _,.no,.no,.no] h) fnK) _=_
 simp_all? only [ycs,v,H,E,y,x,yH (m:="row") R.run (rfl),yib R.run rfl f,I,yH (m:="see_next") R.run (rfl),G,j,D]
theorem ysb {n:Nat}{ds:List PV}{w nth:Int}{sl v:Bool}{bf:List Int}{rn:Nat}{ρ:PSt}(e:h[n]?=some (ydy ds w nth sl bf rn)):fL [14] "sleeps" ρ (.bl v) (.loc n) h=some (.nx ρ,h.set n (ydy ds w nth v bf rn)):=yeR e (rfl) (rfl)
theorem RR.sub {m m':List _}(R:RR w rows m h c s) (u:m'.Sublist m):RR w rows m' h c s:=by
 refine ⟨?_,R.len⟩
 have A:=R.at_
 exact A.sub ((((((((List.Sublist.refl _).append u).cons₂ _).cons₂ _).cons₂ _).cons₂ _).cons₂ _).cons₂ _ |>.cons₂ _)
theorem RR.urest {a b:List _}{n:Nat}{d:Nd} d' (R:RR w rows (a++(n,d)::b) h c s):RR w rows (a++(n,d')::b) (h.set n d') c s:=by
 refine ⟨?_,R.len⟩
 have A:=R.at_
 unfold RM at A ⊢
 rw [<- append_assoc] at A ⊢
 exact At.upd (a:=_::_::_::_::_::_::_::(lay c.ly s.dd++a)) d' A
theorem ypj (R:RR w rows (HL g c.rn w q own) h c s) (d:q.cw[q.i]?=some q.hd) (e:rows[s.t]?=some (yV .wait)) (f:1<=w) (o:q.nth<q.ds.length) (hs:q.sl=false) (i:okS s=true) (b:yhd w s .wait=true) (F:NF q.sp.length s) (fr:stB s.sn q.sp=false) :
  ∃ h',yF [.loc g.H,.int q.i] h=some (.tup [.str "asleep",.int s.t],h')/\RR w rows (HL g c.rn w { q with sl:=true } own) h' c s:=by
 have A:=R.rest
 refine ⟨h.set q.hd (ydy q.ds w q.nth true q.bf c.rn),?_,RR.urest (a:=[_,_,_,_,_]) _ R⟩
 rw [ygi R d e f o hs i rfl b F fr]
 obtain ⟨u,B,D,z,y,k⟩:=ydN (A.get 5 rfl)
 obtain ⟨x,C,j,t⟩:=ydz (A.get 0 rfl)
 have l:=yno A d
 have p:∀ h,ybc (yV .wait) (.int 0) h=some _:=fun _=>rfl
 have n:ycg [.loc q.hd] h=some (.non,h.set q.hd (ydy q.ds w q.nth true q.bf c.rn)):=by
  have s1:=fun ρ=>ysb (ρ:=ρ) (v:=true) (A.get 5 rfl)
  unfold ycg
  rw [yo]
  show ob (ycR _ _ _ _ [.val _] h) fnK=_
  simp_all? only [ypy,s1]
 unfold yO
 rw [yo]
 show ob (ob (yl _ _ [.val _,.val _,.val _,.no,.no,.no] h) fnK) _=_
 simp_all? only [ycs,j,l,k,yH (m:="row") R.run (rfl),yib R.run rfl e,p,ynj,yH (m:="fall_asleep") (A.get 5 rfl) (rfl),n]
end
section
variable {h:AH}{w:Int}{rows rows':List PV}{c:Lc}{s s':RS}{r:Rw}{g:HC}{q:HQ}{own:List (Nat×Nd)}{rn:Nat}
noncomputable def hp1 (h:AH) (bf:List Int):AH:=h++[Nd.lst (bf.map .int)]
def hp2 (h:AH) (bf:List Int):AH:=hp1 h bf++[Nd.dct [] []]
def hp3 (h:AH) (bf:List Int):AH:=hp2 h bf++[Nd.lst [.loc (hp1 h bf).length]]
def hp4 (h:AH) (bf:List Int):AH:=hp3 h bf++[Nd.dct [] []]
def hp5 (h:AH) (bf:List Int):AH:=hp4 h bf++[Nd.ins 11 ["stack","last_seen"] [.loc (hp2 h bf).length,.loc (hp3 h bf).length]]
def hp6 (h:AH) (bf:List Int):AH:=hp5 h bf++[Nd.dct [] []]
theorem yvk {bf:List Int}:∃ h' c',ob (ydV [.lst rows,.lst (bf.map .int),.int w] h) (fun d h1=>some (PV.loc h1.length,h1++[d]))=some (.loc c'.rn,h')/\∀ m,At h m->RR w rows m h' c' (S0 bf):=by
 refine ⟨_,⟨_,h.length,(hp4 h bf).length,(hp2 h bf).length,(hp3 h bf).length,(hp5 h bf).length,(hp6 h bf).length,[(hp1 h bf).length]⟩,rfl,fun m A=>⟨?_,rfl⟩⟩
 have e:=At.new (.dct [] []) (a:=[_]) (At.new (.lst (bf.map .int)) (a:=[]) A)
 have b:=At.new (.dct [] []) (a:=[_,_]) (At.new (.lst [.loc (hp1 h bf).length]) (a:=[_]) e)
 have f:=At.new (.ins 11 ["stack","last_seen"] [.loc (hp2 h bf).length,.loc (hp3 h bf).length]) (a:=[_]) b
 exact At.new _ (a:=[]) (At.new (.lst []) (a:=[_,_,_,_,_]) (At.new _ (a:=[_,_,_,_]) f))
theorem yvl {n:Nat}{ds:List PV}{w nth v:Int}{sl:Bool}{bf:List Int}{rn:Nat}{ρ:PSt}(e:h[n]?=some (ydy ds w nth sl bf rn)):fL [14] "nth" ρ (.int v) (.loc n) h=some (.nx ρ,h.set n (ydy ds w v sl bf rn)):=yeR e (rfl) (rfl)
theorem yyU {n:Nat}{ds:List PV}{w nth:Int}{sl:Bool}{bf v:List Int}{rn:Nat}{ρ:PSt}(e:h[n]?=some (ydy ds w nth sl bf rn)):fL [14] "before" ρ (.lst (v.map .int)) (.loc n) h=some (.nx ρ,h.set n (ydy ds w nth sl v rn)):=yeR e (rfl) (rfl)
theorem ysc {n:Nat}{ds:List PV}{w nth:Int}{sl:Bool}{bf:List Int}{rn v:Nat}{ρ:PSt}(e:h[n]?=some (ydy ds w nth sl bf rn)):fL [14] "run" ρ (.loc v) (.loc n) h=some (.nx ρ,h.set n (ydy ds w nth sl bf v)):=yeR e (rfl) (rfl)
noncomputable def Due (ds:List PV) (nth:Nat) (rows:List PV):Prop:=nth<ds.length/\ds[nth]?=some (.lst rows)\/nth=ds.length/\rows=[]
theorem ygC {n:Nat}{ds:List PV}{nth:Nat}{bf:List Int}(i:yfQ [14] "deeds" (.loc n) h=some (.lst ds,h)) (e:yfQ [12,14] "width" (.loc n) h=some (.int w,h)) (b:yfQ [14] "nth" (.loc n) h=some (.int nth,h)) (f:yfQ [14] "before" (.loc n) h=some (.lst (bf.map .int),h)) (l:Due ds nth rows):∃ h' c',ybY [.loc n] h=some (.loc c'.rn,h')/\∀ m,At h m->RR w rows m h' c' (S0 bf):=by
 obtain ⟨h',c',d,j⟩:=yvk
 refine ⟨h',c',?_,j⟩
 unfold ybY
 rw [yo]
 show ob (yl _ _ [.val _,.no] h) fnK=_
 rcases l with ⟨h1,h2⟩|⟨h1,h2⟩
 .have a:((nth:Int)<ds.length)=True:=eq_true (by omega)
  have k:ybC (.lst ds) (.int nth) h=some (.lst rows,h):=by unfold ybC;simp only [ydi h2]
  simp_all? only [b,i,f,e,a,k,d]
 .have a:((nth:Int)<ds.length)=False:=eq_false (by omega)
  subst h2
  simp_all? only [b,i,f,e,a,d]
theorem yvm {v:PV}{bf:List Int}(A:At h (HL g rn w q own)) (j:∀ h1,At h1 (HL g rn w { q with nth:=q.nth+1 } own)->yX [v] h1=some (.lst (bf.map .int),h1)) (f:Due q.ds (q.nth+1) rows) :
  ∃ h' c',ydK [.loc q.hd,v] h=some (.non,h')/\RR w rows (HL g c'.rn w { q with nth:=q.nth+1,bf:=bf } own) h' c' (S0 bf):=by
 obtain ⟨p,u,e,o,n,t⟩:=ydN (A.get 5 rfl)
 have d:At _ (HL g rn w { q with nth:=q.nth+1 } own):=At.upd (a:=[_,_,_,_,_]) _ A
 have b:At ((h.set q.hd (ydy q.ds w (q.nth+1:Nat) q.sl q.bf rn)).set q.hd (ydy q.ds w (q.nth+1:Nat) q.sl bf rn)) _:=At.upd (a:=[_,_,_,_,_]) _ d
 have s1:=fun ρ=>yvl (ρ:=ρ) (v:=(q.nth+1:Nat)) (A.get 5 rfl)
 have s2:=fun ρ=>yyU (ρ:=ρ) (v:=bf) (d.get 5 rfl)
 have k:=j _ d
 obtain ⟨a1,a2,a3,a4,a5,a6⟩:=ydN (b.get 5 rfl)
 obtain ⟨h',c',l,i⟩:=ygC a1 a2 a3 a5 f
 have R:=i _ b
 have B:=R.rest
 have s3:=fun ρ=>ysc (ρ:=ρ) (v:=c'.rn) (B.get 5 rfl)
 refine ⟨_,c',?_,RR.urest _ R⟩
 have z:(q.nth:Int)+1=(q.nth+1:Nat):=rfl
 unfold ydK
 rw [yo]
 show ob (yl _ _ [.val _,.val v] h) fnK=_
 simp_all? only [ypy,ycs,e,z,s1,s2,k,yH (m:="new_run") (b.get 5 rfl) (rfl),l,s3]
def EX (c:Lc) (w:Int) (rows:List PV) (s:RS):List (Nat×Nd):=RM w rows c s []
theorem yie {m:List _}:RM w rows c s m=EX c w rows s++m:=by
 unfold EX RM
 simp
theorem RR.hl (R:RR w rows (HL g c.rn w q own) h c s):At h (HL g c.rn w q (EX c w rows s++own)):=by
 have A:=R.at_
 rw [yie] at A
 exact A.perm (show (HL g c.rn w q []++(EX c w rows s++own)).Perm _ from List.perm_append_comm_assoc _ _ _)
theorem yBW {L:List PV}{b st:Nat}{m:List _}(a:h[b]?=some (.ins 11 ["stack","last_seen"] [.loc st,.loc rn])) (d:h[rn]?=some (.dct (sK m) (sA m))) (hs:sortI (sK m) (sA m)=some L):ygc [.loc b] h=some (.lst L,h):=by
 have a:=yrF a
 unfold ygc
 rw [yo,yqI,yCJ]
 unfold yjc
 rw [yjP,show yd 0 _ h=some _ from rfl,ybL,a,ybL]
 unfold yly
 simp only [d,hs]
 rfl
noncomputable def yzz (q:HQ) (en:PV) (L laid:List PV) (bf:List Int):PV:=.tup [.int (q.i:Nat),.int (q.nth:Nat),en,.lst L,.lst laid,.lst (bf.map .int)]
theorem yif {en v:PV}{L laid:List PV}{bf:List Int}(A:At h (HL g c.rn w q (EX c w rows s++own))) (n:q.cw[q.i]?=some q.hd) (hs:sortI (sK s.sn) (sA s.sn)=some L) (e:∀ h1 p,At h1 (HL g c.rn w p (EX c w rows s++own))->yX [v] h1=some (.lst (bf.map .int),h1)) (x:Due q.ds (q.nth+1) rows') (hl:q.en.length<1000) :
  ∃ h' c',yco [.loc g.H,.int q.i,en,.lst laid,v] h=some (.non,h')/\RR w rows' (HL g c'.rn w { q with en:=q.en++[yzz q en L laid bf],nth:=q.nth+1,bf:=bf } own) h' c' (S0 bf):=by
 obtain ⟨E,I,f,y⟩:=ydz (A.get 0 rfl)
 obtain ⟨k1,k2,k3,B,k5,o⟩:=ydN (A.get 5 rfl)
 obtain ⟨D,r2,u,H,F,C,G⟩:=ycM (A.get 6 rfl)
 have l:=yno A n
 have b:=A.get 4 rfl
 have d:At _ (HL g c.rn w { q with en:=q.en++[yzz q en L laid bf] } _):=At.upd (a:=[_,_,_,_]) _ A
 obtain ⟨h',c',z,k⟩:=yvm d (fun h1 a=>e h1 _ a) x
 refine ⟨h',c',?_,k.sub ((((((List.sublist_append_right _ _).cons₂ _).cons₂ _).cons₂ _).cons₂ _).cons₂ _ |>.cons₂ _)⟩
 have i:yfZ _ [.tup _] h=some (.non,h.set g.en (.lst (q.en++[yzz q en L laid bf]))):=yne b (by omega)
 have j:=e _ _ A
 have t:=yBW (A.get 8 rfl) (A.get 10 rfl) hs
 unfold yco
 rw [yo]
 show ob (yl _ _ [.val _,.val _,.val en,.val _,.val v,.no] h) fnK=_
 simp_all? only [ycs,f,l,y,ydt b,k3,o,u,yH (m:="saw") (A.get 8 rfl) (rfl),t,j,i,yH (m:="go_on") (d.get 5 rfl) (rfl),z]
theorem ypk:(("lay":Str) = "take")=False:=eq_false (by rfl')
theorem ypl:(("lay":Str) = "wait")=False:=eq_false (by rfl')
theorem ynp:(("lay":Str) = "throw")=False:=eq_false (by rfl')
theorem ysd {L:List PV}{a b:Str}(R:RR w rows (HL g c.rn w q own) h c s) (e:q.cw[q.i]?=some q.hd) (i:rows[s.t]?=some (yV (.throw a b))) (o:1<=w) (G:q.nth<q.ds.length) (hs:q.sl=false) (j:okS s=true) (d:okR (.throw a b)=true) (f:yhd w s (.throw a b)=true) (F:NF q.sp.length s) (fr:stB s.sn q.sp=false) (p:sortI (sK s.sn) (sA s.sn)=some L) (u:Due q.ds (q.nth+1) rows') (hl:q.en.length<1000) :
  ∃ h' c',yF [.loc g.H,.int q.i] h=some (.tup [.str "fell",.int s.t],h')/\RR w rows' (HL g c'.rn w { q with en:=q.en++[yzz q (.tup [.str "fell",.str a,.int (s.hs.getD (sx b) 0)]) L [] q.bf],nth:=q.nth+1 } own) h' c' (S0 q.bf):=by
 obtain ⟨D,o2,O,K,N⟩:=ygR j
 have A:=R.hl
 have t:=by simpa [okR] using d
 obtain ⟨h',c',y,l⟩:=yif (v:=.lst _) A e p (fun h1 _ _=>rfl) u hl
 refine ⟨h',c',?_,l⟩
 rw [ygi R e i o G hs j d f F fr]
 obtain ⟨J,P,U,M,k,x⟩:=ydN (A.get 5 rfl)
 obtain ⟨T,S,z,I⟩:=ydz (A.get 0 rfl)
 have B:=yno A e
 have C:=ycW R.run R.held D t
 have E:∀ h,ybc (yV (.throw a b)) (.int 0) h=some _:=fun _=>rfl
 have n:∀ h,ybc (yV (.throw a b)) (.int 1) h=some _:=fun _=>rfl
 have H:∀ h,ybc (yV (.throw a b)) (.int 2) h=some _:=fun _=>rfl
 unfold yO
 rw [yo]
 show ob (ob (yl _ _ [.val _,.val _,.val _,.no,.no,.no] h) fnK) _=_
 simp_all? only [ycs,z,B,x,yH (m:="row") R.run (rfl),yib R.run rfl i,E,n,H,ylQ,ygO,yH (m:="held_in") R.run (rfl),C,k,yH (m:="end_deed") (A.get 0 rfl) (rfl),y]
end
noncomputable def ycc (p:Nat×Int):PV:=.tup [.int (p.1:Nat),.int p.2]
noncomputable def ypz:List Int->List (Nat×Int)->List Int
 | bx,[]=>bx
 | bx,p::r=>ypz (bx.set p.1 p.2) r
noncomputable def ygu:List Int->List (Nat×Int)->List Int
 | sp,[]=>sp
 | sp,p::r=>ygu (sp.set p.1 (sp.getD p.1 0+1)) r
theorem yor:∀ l bx,(ypz bx l).length=bx.length
 | [],_=>rfl
 | p::r,bx=>by show (ypz _ r).length=_;rw [yor r,length_set]
theorem yhs:∀ l bx,(ygu bx l).length=bx.length
 | [],_=>rfl
 | p::r,bx=>by show (ygu _ r).length=_;rw [yhs r,length_set]
section
variable {h:AH}{w:Int}{rows rows':List PV}{c:Lc}{s s':RS}{r:Rw}{g:HC}{q:HQ}{own:List (Nat×Nd)}{rn:Nat}
theorem yse {n:Nat}{xs:List Int}{k:Nat}{v:Int}{eo ei ev:XE}{ρ:PSt}(f:ev ρ h=some (.int v,h)) (i:eo ρ h=some (.loc n,h)) (a:ei ρ h=some (.int k,h)) (e:h[n]?=some (.lst (xs.map .int))) (b:k<xs.length):yea eo ei ev ρ h=some (.nx ρ,h.set n (.lst ((xs.set k v).map .int))):=by
 have d:ixN (xs.map PV.int).length k=some k:=by
  unfold ixN
  simp [b]
 unfold yea
 rw [f,ybL,i,ybL,a,ybL]
 simp only [e,d]
 rw [map_set]
theorem yiE {G:XG}{S:XS}{x:PV}{xs:List PV}{ρ ρ1 ρ2:PSt}{h1:AH}(b:G x ρ=some ρ1) (a:S ρ1 h=some (.nx ρ2,h1)):ydZ G S (x::xs) ρ h=ydZ G S xs ρ2 h1:=by
 show (G x ρ).bind _=_
 rw [b,bind_some,a]
 rfl
theorem yos {v1 v2 v3:PVar}:∀ l (q:HQ) (h:AH) v4 v5,At h (HL g rn w q own)->(∀ p∈l,p.1<q.bx.length)->q.sp.length=q.bx.length ->
  ∃ h' f e,ydZ (yp 4) ldB (l.map ycc) [.val (.loc g.H),v1,v2,v3,v4,v5] h=some (.nx [.val (.loc g.H),v1,v2,v3,f,e],h')/\At h' (HL g rn w { q with bx:=ypz q.bx l,sp:=ygu q.sp l } own)
 | [],q,h,v4,v5,A,_,_=>⟨h,v4,v5,rfl,A⟩
 | p::l,q,h,v4,v5,A,j,hs=>by
  have hp:=j p mem_cons_self
  obtain ⟨t,H,E,G⟩:=ydz (A.get 0 rfl)
  have d:At _ (HL g rn w { q with bx:=q.bx.set p.1 p.2 } own):=At.upd (a:=[_]) _ A
  have y:At _ (HL g rn w { q with bx:=q.bx.set p.1 p.2,sp:=q.sp.set p.1 (q.sp.getD p.1 0+1) } own):=At.upd (a:=[_,_]) _ d
  obtain ⟨D,i,F,C⟩:=ydz (d.get 0 rfl)
  have s1:=yse (h:=h) (eo:=ybb [15] "numbers" (yd 0)) (ei:=yd 5) (ev:=xOp (ybc) (yd 4) (xC (.int 1))) (ρ:=[.val (.loc g.H),v1,v2,v3,.val (ycc p),.val _]) rfl (by simp_all? only [t]) rfl (A.get 1 rfl) hp
  have s2:=yse (xs:=q.sp) (k:=p.1) (v:=q.sp.getD p.1 0+1) (eo:=ybb [15] "marks" (yd 0)) (ei:=yd 5) (ev:=xOp yfi (xOp (ybC) (ybb [15] "marks" (yd 0)) (yd 5)) (xC (.int 1))) (ρ:=[.val (.loc g.H),v1,v2,v3,.val (ycc p),.val _]) (by
   have u:=yfJ (d.get 2 rfl) (show p.1<q.sp.length by omega)
   simp_all? only [i,u]) (by simp_all? only [i]) rfl (d.get 2 rfl) (by omega)
  have B:∀ h,ybc (ycc p) (.int 0) h=some _:=fun _=>rfl
  have z:ldB [.val (.loc g.H),v1,v2,v3,.val (ycc p),v5] h=some (.nx [.val (.loc g.H),v1,v2,v3,.val (ycc p),.val (.int p.1)],(h.set g.nu (.lst ((q.bx.set p.1 p.2).map .int))).set g.ma (.lst ((q.sp.set p.1 (q.sp.getD p.1 0+1)).map .int))):=by
   unfold ldB
   simp_all? only [B,s1,s2]
  obtain ⟨h',a,b,o,n⟩:=yos l _ _ _ _ y (fun x m=>by rw [length_set];exact j x (mem_cons_of_mem _ m)) (by simp_all)
  refine ⟨h',a,b,?_,n⟩
  show ydZ _ _ (ycc p::l.map ycc) _ h=_
  rw [yiE (by kernel_rfl!) z]
  exact o
theorem yvn {o st b l0:Nat}{d:List Key×List PV}{ks:List Key}{xs L:List PV}(G:LG h o st b [l0] [d] ks xs) (hs:sortI d.1 d.2=some L):yer [.loc o] h=some (.lst L,h):=by
 have e:=yfH G.ob
 have f:=G.st
 have i:=G.dl.1
 have a:ybC (.loc st) (.int 0) h=some (.loc l0,h):=by unfold ybC;simp only [f];rfl
 unfold yer
 rw [yo]
 show ob (yl _ _ [.val _,.no] h) fnK=_
 simp_all? only [e,a]
 unfold yjc
 symm
 unfold yly
 simp only [i,hs]
 rfl
theorem yBX {L:List PV}{l:List _}{d:List Key×List PV}(R:RR w rows (HL g c.rn w q own) h c s) (i:q.cw[q.i]?=some q.hd) (ed:s.dd=[d]) (o:sortI d.1 d.2=some (l.map ycc)) (j:∀ p∈l,p.1<q.bx.length) (e:q.sp.length=q.bx.length) (k:sortI (sK s.sn) (sA s.sn)=some L) (v:Due q.ds (q.nth+1) rows') (hl:q.en.length<1000) :
  ∃ h1 c',(∀ h2,ybu [.loc g.H] h1=some (.non,h2)->ycI [.loc g.H,.int q.i] h=some (.non,h2))/\RR w rows' (HL g c'.rn w { q with bx:=ypz q.bx l,sp:=ygu q.sp l,en:=q.en++[yzz q (.tup [.str "done"]) L (l.map ycc) s.hs],nth:=q.nth+1,bf:=s.hs } own) h1 c' (S0 s.hs):=by
 have A:=R.hl
 obtain ⟨l0,D⟩:∃ l0,c.ly=[l0]:=by
  have:=R.len
  rw [ed] at this
  exact List.length_eq_one_iff.mp this
 have G:=R.lg
 rw [D,ed] at G
 have wr:=yvn G o
 obtain ⟨F,P,n,J⟩:=ydz (A.get 0 rfl)
 obtain ⟨k1,k2,k3,H,k5,z⟩:=ydN (A.get 5 rfl)
 obtain ⟨N,r2,u,E,O,U,M⟩:=ycM R.run
 have x:=yno A i
 obtain ⟨K,v4,v5,B,b⟩:=yos (v1:=.val (.int q.i)) (v2:=.val (.loc c.rn)) (v3:=.val (.lst (l.map ycc))) l q h .no .no A j e
 obtain ⟨h',c',C,f⟩:=yif b i k (fun h1 S a=>yjW (a.get 7 rfl)) v hl
 refine ⟨h',c',fun h2 t=>?_,f⟩
 obtain ⟨u1,W,T,I,u5,u6,u7⟩:=ycM (b.get 6 rfl)
 have y:xIL (yd 3) [.val (.loc g.H),.val (.int q.i),.val (.loc c.rn),.val _,.no,.no] h=some (l.map ycc,h):=yrE rfl
 unfold ycI
 rw [yo]
 show ob (yl _ _ [.val _,.val _,.no,.no,.no,.no] h) fnK=_
 simp_all? only [ycs,n,x,z,u,yH (m:="wrote") R.lg.ob (rfl),wr,y,B,u1,yH (m:="end_deed") (b.get 0 rfl) (rfl),C,yH (m:="wake_stale") (f.rest.get 0 rfl) (rfl),t]
theorem ysf {L:List PV}{l:List _}{d:List Key×List PV}(R:RR w rows (HL g c.rn w q own) h c s) (b:q.cw[q.i]?=some q.hd) (f:rows[s.t]?=some (yV .lay)) (i:1<=w) (y:q.nth<q.ds.length) (hs:q.sl=false) (z:okS s=true) (F:NF q.sp.length s) (fr:stB s.sn q.sp=false) (ed:s.dd=[d]) (C:sortI d.1 d.2=some (l.map ycc)) (k:∀ p∈l,p.1<q.bx.length) (a:q.sp.length=q.bx.length) (j:sortI (sK s.sn) (sA s.sn)=some L) (t:Due q.ds (q.nth+1) rows') (hl:q.en.length<1000) :
  ∃ h1 c',(∀ h2,ybu [.loc g.H] h1=some (.non,h2)->yF [.loc g.H,.int q.i] h=some (.tup [.str "done",.int s.t],h2))/\RR w rows' (HL g c'.rn w { q with bx:=ypz q.bx l,sp:=ygu q.sp l,en:=q.en++[yzz q (.tup [.str "done"]) L (l.map ycc) s.hs],nth:=q.nth+1,bf:=s.hs } own) h1 c' (S0 s.hs):=by
 obtain ⟨h',c',e,x⟩:=yBX R b ed C k a j t hl
 refine ⟨h',c',fun h2 o=>?_,x⟩
 have e:=e h2 o
 rw [ygi R b f i y hs z rfl rfl F fr]
 have A:=R.rest
 obtain ⟨K,I,M,H,D,u⟩:=ydN (A.get 5 rfl)
 obtain ⟨G,J,n,E⟩:=ydz (A.get 0 rfl)
 have v:=yno A b
 have B:∀ h,ybc (yV .lay) (.int 0) h=some _:=fun _=>rfl
 unfold yO
 rw [yo]
 show ob (ob (yl _ _ [.val _,.val _,.val _,.no,.no,.no] h) fnK) _=_
 simp_all? only [ycs,n,v,u,yH (m:="row") R.run (rfl),yib R.run rfl f,B,ypk,ypl,ynp,yH (m:="lay_down") (A.get 0 rfl) (rfl),e]
theorem ysg (R:RR w rows (HL g c.rn w q own) h c s) (j:Due q.ds q.nth rows'):∃ h' c',ybO [.loc q.hd] h=some (.non,h')/\RR w rows' (HL g c'.rn w { q with sl:=false } own) h' c' (S0 q.bf):=by
 have A:=R.rest
 have d:At (h.set q.hd (ydy q.ds w q.nth false q.bf c.rn)) _:=At.upd (a:=[_,_,_,_,_]) _ A
 have s1:=fun ρ=>ysb (ρ:=ρ) (v:=false) (A.get 5 rfl)
 obtain ⟨a1,a2,a3,a4,a5,a6⟩:=ydN (d.get 5 rfl)
 obtain ⟨h',c',f,i⟩:=ygC a1 a2 a3 a5 j
 have e:=i _ d
 have B:=e.rest
 have s3:=fun ρ=>ysc (ρ:=ρ) (v:=c'.rn) (B.get 5 rfl)
 refine ⟨_,c',?_,RR.urest _ e⟩
 unfold ybO
 rw [yo]
 show ob (yl _ _ [.val _] h) fnK=_
 simp_all? only [ypy,ycs,s1,yH (m:="new_run") (d.get 5 rfl) (by rfl'),f,s3]
theorem ysh (R:RR w rows (HL g c.rn w q own) h c s) (o:q.cw[q.i]?=some q.hd) (e:rows[s.t]?=some (yV r)) (k:1<=w) (t:q.nth<q.ds.length) (hs:q.sl=false) (f:okS s=true) (b:okR r=true) (a:yhd w s r=true) (F:NF q.sp.length s) (fr:stB s.sn q.sp=true) (l:Due q.ds q.nth rows') :
  ∃ h' c',yF [.loc g.H,.int q.i] h=some (.tup [.str "anew",.int s.t],h')/\RR w rows' (HL g c'.rn w { q with sl:=false } own) h' c' (S0 q.bf):=by
 obtain ⟨h',c',j,p⟩:=ysg R l
 refine ⟨h',c',?_,p⟩
 have A:=R.rest
 obtain ⟨E,G,I,x,y,n⟩:=ydN (A.get 5 rfl)
 obtain ⟨H,u,z,C⟩:=ydz (A.get 0 rfl)
 obtain ⟨k1,k2,k3,B,k5,v,D⟩:=ycM R.run
 have st:=yfc A
 rw [awake t hs] at st
 have d:=ynm R e f b k
 rw [a] at d
 have sl:=ykv R (mem_of_getElem? (i:=2) rfl) F.nd F.hb F.hl
 rw [fr] at sl
 unfold yF
 rw [yo]
 show ob (yl _ _ [.val _,.val _,.no,.no] h) fnK=_
 simp_all? only [ycs,yH (m:="hand_at") (A.get 0 rfl) (rfl),yeh A o,yH (m:="state") (A.get 5 rfl) (rfl),st,n,k5,yH (m:="is_looked_over") R.run (rfl),d,u,yH (m:="is_stale") R.run (rfl),sl,yH (m:="begin_anew") (A.get 5 rfl) (rfl),j]
end
structure HD where
 ds:List PV
 nth:Nat
 sl:Bool
 bf:List Int
 rows:List PV
 s:RS
def HN (w:Int) (a:Nat×Lc) (x:HD) (m:List (Nat×Nd)):List (Nat×Nd):=(a.1,ydy x.ds w x.nth x.sl x.bf a.2.rn)::RM w x.rows a.2 x.s m
def CR (w:Int):List (Nat×Lc)->List HD->List (Nat×Nd)->List (Nat×Nd)
 | a::as,x::xs,m=>HN w a x (CR w as xs m)
 | _,_,m=>m
noncomputable def LyOk:List (Nat×Lc)->List HD->Prop
 | a::as,x::xs=>a.2.ly.length=x.s.dd.length/\LyOk as xs
 | [],[]=>True
 | _,_=>False
def H5 (g:HC) (bx sp:List Int) (en:List PV) (cw:List Nat):List (Nat×Nd):=[(g.H,yuV g.nu g.ma g.cr g.en),(g.nu,.lst (bx.map .int)),(g.ma,.lst (sp.map .int)),(g.cr,.lst (cw.map .loc)),(g.en,.lst en)]
structure HH (h:AH) (g:HC) (w:Int) (bx sp:List Int) (en:List PV) (as:List (Nat×Lc)) (xs:List HD) (own:List (Nat×Nd)):Prop where
 at_:At h (H5 g bx sp en (as.map (·.1))++CR w as xs own)
 ly:LyOk as xs
noncomputable def qOf (bx sp:List Int) (en:List PV) (cw:List Nat) (i hd:Nat) (x:HD):HQ:=⟨bx,sp,en,cw,i,hd,x.ds,x.nth,x.sl,x.bf⟩
section
variable {h:AH}{w:Int}{g:HC}{bx sp:List Int}{en:List PV}{as as1 as2:List (Nat×Lc)}{xs xs1 xs2:List HD}{a:Nat×Lc}{x x':HD}{own m:List (Nat×Nd)}{c:Lc}
theorem ygS:HN w a x m=HN w a x []++m:=by
 unfold HN
 rw [yie,yie,append_nil]
 rfl
theorem ykw:∀ {as1:List _}{xs1:List HD},as1.length=xs1.length->(CR w (as1++a::as2) (xs1++x::xs2) m).Perm (HN w a x (CR w as1 xs1 (CR w as2 xs2 m)))
 | [],[],_=>.refl _
 | b::as1,y::xs1,e=>by
  show (HN w b y _).Perm (HN w a x (HN w b y _))
  have d:=ykw (by simpa using e)
  rw [ygS,ygS (a:=a),ygS (m:=CR w as1 xs1 _)]
  refine (d.append_left _).trans ?_
  rw [ygS (a:=a)]
  exact List.perm_append_comm_assoc _ _ _
theorem LyOk.split:∀ {as1:List _}{xs1:List HD},as1.length=xs1.length->(LyOk (as1++a::as2) (xs1++x::xs2) ↔ LyOk as1 xs1/\a.2.ly.length=x.s.dd.length/\LyOk as2 xs2)
 | [],[],_=>⟨fun k=>⟨trivial,k⟩,fun k=>k.2⟩
 | b::as1,y::xs1,e=>by
  have d:=LyOk.split (by simpa using e)
  show _/\LyOk (as1++a::as2) (xs1++x::xs2) ↔ (_/\LyOk as1 xs1)/\_
  rw [d,and_assoc]
theorem yBY {rows:List PV}{s:RS}{b:Nat}{q:HQ}:(H5 g q.bx q.sp q.en q.cw++(q.hd,ydy q.ds w q.nth q.sl q.bf b)::RM w rows c s m).Perm (RM w rows c s (HL g b w q m)):=by
 rw [yie,yie]
 refine .trans ?_ (show (H5 g q.bx q.sp q.en q.cw++(EX c w rows s++(q.hd,ydy q.ds w q.nth q.sl q.bf b)::m)).Perm _ from List.perm_append_comm_assoc _ _ _)
 exact List.perm_middle.symm.append_left _
theorem HH.foc (X:HH h g w bx sp en (as1++a::as2) (xs1++x::xs2) own) (l:as1.length=xs1.length):RR w x.rows (HL g a.2.rn w (qOf bx sp en ((as1++a::as2).map (·.1)) as1.length a.1 x) (CR w as1 xs1 (CR w as2 xs2 own))) h a.2 x.s:=by
 exact ⟨(X.at_.perm (((ykw l).append_left _).trans (yBY (q:=qOf bx sp en _ _ _ _))).symm),((LyOk.split l).mp X.ly).2.1⟩
theorem HH.unf {b d:List Int}{f:List PV}(L:LyOk (as1++a::as2) (xs1++x::xs2)) (l:as1.length=xs1.length) (R:RR w x'.rows (HL g c.rn w (qOf b d f ((as1++a::as2).map (·.1)) as1.length a.1 x') (CR w as1 xs1 (CR w as2 xs2 own))) h c x'.s):HH h g w b d f (as1++(a.1,c)::as2) (xs1++x'::xs2) own:=by
 obtain ⟨i,k,j⟩:=(LyOk.split l).mp L
 refine ⟨?_,(LyOk.split l).mpr ⟨i,R.len,j⟩⟩
 have e:(as1++(a.1,c)::as2).map (·.1)=(as1++a::as2).map (·.1):=by simp
 rw [e]
 exact R.at_.perm (((ykw l).append_left _).trans (yBY (q:=qOf b d f _ _ _ _)))
theorem ylY:((as1++a::as2).map (·.1))[as1.length]?=some a.1:=by simp
noncomputable def asB (x:HD):Bool:=decide (x.nth≠x.ds.length) && x.sl
def ycX (sp:List Int) (x:HD):HD:=if (asB x && stB x.s.sn sp)=true then { x with sl:=false,s:=S0 x.bf } else x
theorem yiF:(("ended":Str) = "asleep")=False:=eq_false (by rfl')
theorem yiG:(("awake":Str) = "asleep")=False:=eq_false (by rfl')
theorem yBZ (X:HH h g w bx sp en (as1++a::as2) (xs1++x::xs2) own) (l:as1.length=xs1.length) (t:Due x.ds x.nth x.rows) (F:NF sp.length x.s):∃ h' c',wkB [.val (.loc g.H),.val (.loc a.1)] h=some (.nx [.val (.loc g.H),.val (.loc a.1)],h')/\HH h' g w bx sp en (as1++(a.1,c')::as2) (xs1++ycX sp x::xs2) own:=by
 have R:=X.foc l
 have A:=R.rest
 have st:=yfc A
 obtain ⟨y,q,v,u⟩:=ydz (A.get 0 rfl)
 have j:h[a.1]?=some (ydy x.ds w x.nth x.sl x.bf a.2.rn):=A.get 5 rfl
 have p:=(ydN j).2.2.2.2.2
 have sl:=ykv (ma:=g.ma) (sp:=sp) R (mem_of_getElem? (i:=2) rfl) F.nd F.hb F.hl
 have o:=R.run
 by_cases e:x.nth=x.ds.length
 .have d:stN (qOf bx sp en ((as1++a::as2).map (·.1)) as1.length a.1 x) = "ended":=if_pos e
  rw [d] at st
  have f:ycX sp x=x:=by unfold ycX asB;simp [e]
  rw [f]
  refine ⟨h,a.2,?_,X⟩
  unfold wkB
  dsimp only [qOf] at st
  simp_all? only [ycs,yH (m:="state") j (by rfl'),st,yiF]
 .cases es:x.sl with
  | false =>
   have d:stN (qOf bx sp en ((as1++a::as2).map (·.1)) as1.length a.1 x) = "awake":=(if_neg e).trans (if_neg (by rw [show (qOf bx sp en _ as1.length a.1 x).sl=x.sl from rfl,es];decide))
   rw [d] at st
   have f:ycX sp x=x:=by unfold ycX asB;simp [es]
   rw [f]
   refine ⟨h,a.2,?_,X⟩
   unfold wkB
   dsimp only [qOf] at st
   simp_all? only [ycs,yH (m:="state") j (by rfl'),st,yiG]
  | true =>
   have d:stN (qOf bx sp en ((as1++a::as2).map (·.1)) as1.length a.1 x) = "asleep":=(if_neg e).trans (if_pos (by rw [show (qOf bx sp en _ as1.length a.1 x).sl=x.sl from rfl,es]))
   rw [d] at st
   dsimp only [qOf] at st
   cases k:stB x.s.sn sp with
   | false =>
    have f:ycX sp x=x:=by unfold ycX;simp [k]
    rw [f]
    rw [k] at sl
    refine ⟨h,a.2,?_,X⟩
    unfold wkB
    simp_all? only [ycs,yH (m:="state") j (by rfl'),st,p,q,yH (m:="is_stale") o (by rfl'),sl]
   | true =>
    have f:ycX sp x={ x with sl:=false,s:=S0 x.bf }:=if_pos (by unfold asB;simp [e,es,k])
    rw [f]
    rw [k] at sl
    obtain ⟨h',c',n,r⟩:=ysg R (t)
    refine ⟨h',c',?_,HH.unf X.ly l r⟩
    dsimp only [qOf] at n
    unfold wkB
    simp_all? only [ycs,yH (m:="state") j (by rfl'),st,p,q,yH (m:="is_stale") o (by rfl'),sl,yH (m:="begin_anew") j (by rfl'),n]
def yCN (W:Nat) (x:HD):Prop:=Due x.ds x.nth x.rows/\NF W x.s
theorem LyOk.len:∀ {as:List _}{xs:List HD},LyOk as xs->as.length=xs.length
 | [],[],_=>rfl
 | _::_,_::_,k=>by rw [length_cons,length_cons,LyOk.len k.2]
theorem LyOk.app:∀ {as1 as2:List _}{xs1 xs2:List HD},as1.length=xs1.length->LyOk (as1++as2) (xs1++xs2)->LyOk as2 xs2
 | [],_,[],_,_,k=>k
 | _::_,_,_::_,_,e,k=>LyOk.app (by simpa using e) k.2
theorem ysi:∀ as2 xs2 as1 xs1 h v,HH h g w bx sp en (as1++as2) (xs1++xs2) own->as1.length=xs1.length->(∀ x∈xs2,yCN sp.length x) ->
  ∃ h' b i,yms g.cr false (yp 1) wkB as2.length as1.length [.val (.loc g.H),v] h=some (.nx [.val (.loc g.H),i],h')/\HH h' g w bx sp en (as1++b) (xs1++xs2.map (ycX sp)) own/\b.map (·.1)=as2.map (·.1)
 | [],xs2,as1,xs1,h,v,X,l,_=>by
  have e:=X.at_.get 3 rfl
  have f:=(LyOk.app l X.ly).len
  have:=List.length_eq_zero_iff.mp f.symm
  subst this
  refine ⟨h,[],v,?_,X,rfl⟩
  show yms g.cr false _ wkB 0 as1.length _ h=_
  unfold yms
  simp_all
 | a::as2,[],as1,xs1,h,v,X,l,_=>by
  have f:=(LyOk.app l X.ly).len
  cases f
 | a::as2,x::xs2,as1,xs1,h,v,X,l,d=>by
  have e:=X.at_.get 3 rfl
  obtain ⟨h1,k,o,r⟩:=yBZ X l (d x mem_cons_self).1 (d x mem_cons_self).2
  obtain ⟨h',b,i,j,s,p⟩:=ysi as2 xs2 (as1++[(a.1,k)]) (xs1++[ycX sp x]) h1 _ (by simp_all) (by simp [l]) fun y n=>d y (mem_cons_of_mem _ n)
  refine ⟨h',(a.1,k)::b,i,?_,by simp_all,by simp [p]⟩
  rw [length_append] at j
  have q:yp 1 _ [.val (.loc g.H),v]=some [.val _,.val (.loc a.1)]:=rfl
  have ei:(((as1++a::as2).map (·.1)).map PV.loc)[as1.length]?=some (.loc a.1):=by simp_all
  show yms g.cr false _ wkB (as2.length+1) as1.length _ h=_
  unfold yms
  simp only [e,Bool.false_eq_true,if_false,ei,q,bind_some,o,ybL]
  exact j
theorem yyV (X:HH h g w bx sp en as xs own) (i:∀ x∈xs,yCN sp.length x):∃ h' b,ybu [.loc g.H] h=some (.non,h')/\HH h' g w bx sp en b (xs.map (ycX sp)) own/\b.map (·.1)=as.map (·.1):=by
 obtain ⟨h',b,p,f,d,j⟩:=ysi as xs [] [] h .no X rfl i
 refine ⟨h',b,?_,d,j⟩
 obtain ⟨l,n,k,q⟩:=ydz (X.at_.get 0 rfl)
 have e:=X.at_.get 3 rfl
 unfold ybu
 rw [yo]
 show ob (yjZ false _ _ wkB [.val _,.no] h) fnK=_
 unfold yjZ
 simp_all? only [k]
 simp only [e]
 rw [length_map,length_map]
 exact (congrArg (fun o=>ob o fnK) f).trans rfl
end
section
variable {h:AH}{w:Int}{g:HC}{bx sp:List Int}{en:List PV}{as as1 as2:List (Nat×Lc)}{xs xs1 xs2:List HD}{a:Nat×Lc}{x x':HD}{own m:List (Nat×Nd)}{c:Lc}{s s':RS}{r:Rw}
theorem ysj {m:List _}{k:Nat}{u v:Int}{p:Nat×Int×Int}(hp:p∈ydW m k u v):p=(k,u,v)\/p∈m:=by
 unfold ydW at hp
 split at hp
 .obtain ⟨q,b,e⟩:=List.mem_map.mp hp
  split at e
  .exact .inl e.symm
  .exact .inr (e ▸ b)
 .rcases List.mem_append.mp hp with z|z
  .exact .inr z
  .exact .inl (List.mem_singleton.mp z)
theorem yot m k u v:(ydW m k u v).map (·.1)=if k∈m.map (·.1) then m.map (·.1) else m.map (·.1)++[k]:=by
 unfold ydW
 split
 .rw [map_map]
  refine List.map_congr_left fun p _=>?_
  show (if p.1=k then (k,u,v) else p).1=p.1
  split
  .rename_i e;exact e.symm
  .rfl
 .simp
theorem yjo:∀ W (l:List Nat),l.Nodup->(∀ k∈l,k<W)->l.length<=W
 | 0,l,_,d=>by
  cases l with
  | nil=>simp
  | cons a _=>exact absurd (d a mem_cons_self) (by omega)
 | W+1,l,f,d=>by
  by_cases e:W∈l
  .have:=yjo W _ (f.erase W) fun k b=>by
    have h1:=d k (List.mem_of_mem_erase b)
    have h2:=(List.Nodup.mem_erase_iff f).mp b |>.1
    omega
   grind
  .have:=yjo W l f fun k b=>by
    have h1:=d k b
    have:k≠W:=fun z=>e (z ▸ b)
    omega
   omega
theorem NF.put {W k:Nat}{u v:Int}(F:NF W s) (i:k<W) (l:W<=16) {t:Nat}{hs:List Int}:NF W ⟨t,hs,s.sd,s.dd,ydW s.sn k u v⟩:=by
 have f:((ydW s.sn k u v).map (·.1)).Nodup:=by
  rw [yot]
  split
  .exact F.nd
  .rename_i e
   rw [List.nodup_append]
   exact ⟨F.nd,by simp,fun x b y j z=>by
    rw [List.mem_singleton.mp j] at z
    exact e (z ▸ b)⟩
 have d:∀ p∈ydW s.sn k u v,p.1<W:=fun p hp=>by
  rcases ysj hp with rfl|hp
  .exact i
  .exact F.hb p hp
 refine ⟨f,d,?_⟩
 have:=yjo W _ f fun x b=>by
  obtain ⟨p,hp,rfl⟩:=List.mem_map.mp b
  exact d p hp
 grind
theorem yjp {rws:List Rw}{t:Nat}(b:rws[t]?=some r):(rws.map yV)[t]?=some (yV r):=by simp_all
noncomputable def stX (x:HD):Str:=if x.nth=x.ds.length then "ended" else if x.sl=true then "asleep" else "awake"
theorem yEy (X:HH h g w bx sp en (as1++a::as2) (xs1++x::xs2) own) (l:as1.length=xs1.length) (hs:(stX x = "awake")=False):yF [.loc g.H,.int as1.length] h=some (.tup [.str "idle"],h):=yrY (q:=qOf bx sp en _ as1.length a.1 x) (X.foc l).rest (ylY) hs
theorem yCa {rws:List Rw}(X:HH h g bx.length bx sp en (as1++a::as2) (xs1++x::xs2) own) (l:as1.length=xs1.length) (b:sp.length=bx.length) (h1:1<=bx.length) (k:x.rows=rws.map yV) (i:x.nth<x.ds.length) (hs:x.sl=false) (F:NF bx.length x.s) (fr:stB x.s.sn sp=false) (d:rws[x.s.t]?=some .wait) (j:okS x.s=true) (n:yhd bx.length x.s .wait=true) :
  ∃ h',yF [.loc g.H,.int as1.length] h=some (.tup [.str "asleep",.int x.s.t],h')/\HH h' g bx.length bx sp en (as1++a::as2) (xs1++{ x with sl:=true }::xs2) own:=by
 have R:=X.foc l
 obtain ⟨h',e,f⟩:=ypj R (ylY) (by rw [k];exact yjp d) (by omega) i hs j n (show NF sp.length x.s by rw [b];exact F) fr
 exact ⟨h',e,HH.unf X.ly l f⟩
theorem yEz {rws:List Rw}(X:HH h g bx.length bx sp en (as1++a::as2) (xs1++x::xs2) own) (l:as1.length=xs1.length) (h1:1<=bx.length) (o:x.rows=rws.map yV) (j:x.nth<x.ds.length) (hs:x.sl=false) (f:rws[x.s.t]?=some r) (k:okS x.s=true) (b:okR r=true) (d:yhd bx.length x.s r=false) (e:ypi bx.length r x.s=some s') :
  ∃ h' c',yF [.loc g.H,.int as1.length] h=some (.tup [.str "gone",.int x.s.t],h')/\HH h' g bx.length bx sp en (as1++(a.1,c')::as2) (xs1++{ x with s:=s' }::xs2) own:=by
 have R:=X.foc l
 obtain ⟨h',c',i,n⟩:=yrZ R (ylY) (by rw [o];exact yjp f) (by omega) j hs k b d e
 exact ⟨h',c',i,HH.unf X.ly l n⟩
theorem yEA {rws:List Rw}{p q:Str}{k:Nat}(X:HH h g bx.length bx sp en (as1++a::as2) (xs1++x::xs2) own) (l:as1.length=xs1.length) (b:sp.length=bx.length) (h1:1<=bx.length) (n:x.rows=rws.map yV) (u:x.nth<x.ds.length) (hs:x.sl=false) (F:NF bx.length x.s) (fr:stB x.s.sn sp=false) (f:rws[x.s.t]?=some (.take p q)) (i:okS x.s=true) (d:okR (.take p q)=true) (e:isN (yrR x.s bx.length q)=true) (ek:x.s.hs.getD (sx q) 0%bx.length=k) (j:k<bx.length) :
  ∃ h',yF [.loc g.H,.int as1.length] h=some (.tup [.str "seen",.int x.s.t,.int k,.int (bx.getD k 0)],h')/\HH h' g bx.length bx sp en (as1++a::as2) (xs1++{ x with s:=⟨x.s.t+1,x.s.hs.set (sx p) (bx.getD k 0),x.s.sd,x.s.dd,ydW x.s.sn k (bx.getD k 0) (sp.getD k 0)⟩ }::xs2) own:=by
 have R:=X.foc l
 obtain ⟨h',t,o⟩:=ysa R (ylY) (by rw [n];exact yjp f) (by omega) u hs i d e (show NF sp.length x.s by rw [b];exact F) fr ek j b
 exact ⟨h',t,HH.unf X.ly l o⟩
theorem yEB {rws:List Rw}{rows':List PV}(X:HH h g bx.length bx sp en (as1++a::as2) (xs1++x::xs2) own) (l:as1.length=xs1.length) (d:sp.length=bx.length) (h1:1<=bx.length) (j:x.rows=rws.map yV) (o:x.nth<x.ds.length) (hs:x.sl=false) (F:NF bx.length x.s) (fr:stB x.s.sn sp=true) (f:rws[x.s.t]?=some r) (k:okS x.s=true) (b:okR r=true) (e:yhd bx.length x.s r=true) (p:Due x.ds x.nth rows') :
  ∃ h' c',yF [.loc g.H,.int as1.length] h=some (.tup [.str "anew",.int x.s.t],h')/\HH h' g bx.length bx sp en (as1++(a.1,c')::as2) (xs1++{ x with sl:=false,rows:=rows',s:=S0 x.bf }::xs2) own:=by
 have R:=X.foc l
 obtain ⟨h',c',n,i⟩:=ysh R (ylY) (by rw [j];exact yjp f) (by omega) o hs k b e (show NF sp.length x.s by rw [d];exact F) fr p
 exact ⟨h',c',n,HH.unf X.ly l i⟩
noncomputable def ypA (i:Nat) (x:HD) (en:PV) (L laid:List PV) (bf:List Int):PV:=.tup [.int (i:Nat),.int (x.nth:Nat),en,.lst L,.lst laid,.lst (bf.map .int)]
theorem yEC {rws:List Rw}{rows' L:List PV}{p q:Str}(X:HH h g bx.length bx sp en (as1++a::as2) (xs1++x::xs2) own) (l:as1.length=xs1.length) (d:sp.length=bx.length) (h1:1<=bx.length) (k:x.rows=rws.map yV) (o:x.nth<x.ds.length) (hs:x.sl=false) (F:NF bx.length x.s) (fr:stB x.s.sn sp=false) (e:rws[x.s.t]?=some (.throw p q)) (f:okS x.s=true) (b:okR (.throw p q)=true) (t:yhd bx.length x.s (.throw p q)=true) (j:sortI (sK x.s.sn) (sA x.s.sn)=some L) (u:Due x.ds (x.nth+1) rows') (hl:en.length<1000) :
  ∃ h' c',yF [.loc g.H,.int as1.length] h=some (.tup [.str "fell",.int x.s.t],h')/\HH h' g bx.length bx sp (en++[ypA as1.length x (.tup [.str "fell",.str p,.int (x.s.hs.getD (sx q) 0)]) L [] x.bf]) (as1++(a.1,c')::as2) (xs1++{ x with nth:=x.nth+1,rows:=rows',s:=S0 x.bf }::xs2) own:=by
 have R:=X.foc l
 obtain ⟨h',c',n,i⟩:=ysd R (ylY) (by rw [k];exact yjp e) (by omega) o hs f b t (show NF sp.length x.s by rw [d];exact F) fr j u hl
 exact ⟨h',c',n,HH.unf X.ly l i⟩
theorem yED {rws:List Rw}{rows' L:List PV}{ls:List _}{d:List Key×List PV}(X:HH h g bx.length bx sp en (as1++a::as2) (xs1++x::xs2) own) (l:as1.length=xs1.length) (e:sp.length=bx.length) (h1:1<=bx.length) (u:x.rows=rws.map yV) (B:x.nth<x.ds.length) (hs:x.sl=false) (F:NF bx.length x.s) (fr:stB x.s.sn sp=false) (H:rws[x.s.t]?=some .lay) (n:okS x.s=true) (ed:x.s.dd=[d]) (E:sortI d.1 d.2=some (ls.map ycc)) (q:∀ p∈ls,p.1<bx.length) (o:sortI (sK x.s.sn) (sA x.s.sn)=some L) (f:Due x.ds (x.nth+1) rows') (hl:en.length<1000) (i:∀ y∈xs1++xs2,yCN bx.length y) :
  ∃ h' b,yF [.loc g.H,.int as1.length] h=some (.tup [.str "done",.int x.s.t],h')/\HH h' g bx.length (ypz bx ls) (ygu sp ls) (en++[ypA as1.length x (.tup [.str "done"]) L (ls.map ycc) x.s.hs]) b ((xs1++{ x with nth:=x.nth+1,bf:=x.s.hs,rows:=rows',s:=S0 x.s.hs }::xs2).map (ycX (ygu sp ls))) own/\b.map (·.1)=(as1++a::as2).map (·.1):=by
 have R:=X.foc l
 obtain ⟨h2,c',A,v⟩:=ysf R (ylY) (by rw [u];exact yjp H) (by omega) B hs n (show NF sp.length x.s by rw [e];exact F) fr ed E q e o f hl
 have D:=HH.unf (x':={ x with nth:=x.nth+1,bf:=x.s.hs,rows:=rows',s:=S0 x.s.hs }) X.ly l v
 have G:(ygu sp ls).length=bx.length:=by rw [yhs];exact e
 obtain ⟨h',b,k,j,C⟩:=yyV D (fun y t=>by
  show yCN (ygu sp ls).length y
  rw [G]
  rcases List.mem_append.mp t with z|z
  .exact i y (mem_append_left _ z)
  .rcases mem_cons.mp z with rfl|z
   .exact ⟨f,⟨List.nodup_nil,fun p hp=>(by cases hp),by show 0<=900;omega⟩⟩
   .exact i y (mem_append_right _ z))
 exact ⟨h',b,A h' k,j,by rw [C];simp⟩
end
section
variable {h:AH}{w:Int}{g:HC}{bx sp:List Int}{en:List PV}{as as1 as2:List (Nat×Lc)}{xs xs1 xs2:List HD}{a:Nat×Lc}{x x':HD}{own m:List (Nat×Nd)}
noncomputable def Shp (e:PV):Prop:=∃ a b c x y z,e=.tup [a,b,c,.lst x,.lst y,.lst z]
theorem ysk {n:Nat}{en:List PV}{E:XE}{inn:PV->PSt}(e:h[n]?=some (.lst en)) (c:∀ x∈en,E (inn x) h=some (x,h)):∀ k i,i+k=en.length->ynh n E inn k i h=some (en.drop i,h)
 | 0,i,d=>by
  unfold ynh
  grind
 | k+1,i,d=>by
  have b:i<en.length:=by omega
  unfold ynh
  simp only [e,List.getElem?_eq_getElem b]
  rw [c _ (getElem_mem b),ybL,ysk e c k _ (by omega),ybL,List.drop_eq_getElem_cons b]
theorem yvo (X:HH h g w bx sp en as xs own) (hs:∀ e∈en,Shp e) (hl:en.length<1000):ydc [.loc g.H] h=some (.lst en,h):=by
 obtain ⟨k,j,i,f⟩:=ydz (X.at_.get 0 rfl)
 have e:=X.at_.get 4 rfl
 unfold ydc
 rw [yo]
 show ob (yQ _ [.val _] h) fnK=_
 rw [yqI,yCJ]
 unfold yew
 simp_all? only [f]
 simp only [e]
 rw [if_pos (by omega),ysk e (fun x d=>?_) en.length 0 (by omega)]
 .rfl
 .obtain ⟨a,b,c,x,y,z,rfl⟩:=hs x d
  rfl
variable (X:HH h g w bx sp en (as1++a::as2) (xs1++x::xs2) own) (l:as1.length=xs1.length)
include X l
theorem yEE:ybZ [.loc g.H,.int as1.length] h=some (.loc a.1,h)/\h[a.1]?=some (ydy x.ds w x.nth x.sl x.bf a.2.rn)/\h[g.H]?=some (yuV g.nu g.ma g.cr g.en) :=
 ⟨yeh (q:=qOf bx sp en _ as1.length a.1 x) (X.foc l).rest (ylY),(X.foc l).rest.get 5 rfl,(X.foc l).rest.get 0 rfl⟩
theorem yCb:ybq [.loc g.H,.int (as1.length:Nat)] h=some (.str (stX x),h):=by
 obtain ⟨d,e,c⟩:=yEE X l
 have st:ycl [.loc a.1] h=some (.str (stX x),h):=yfc (X.foc l).rest
 unfold ybq
 rw [yo]
 show ob (yQ _ [.val (.loc g.H),.val (.int (as1.length:Nat))] h) fnK=_
 simp_all? only [ycs,yH (m:="hand_at") c (by rfl'),d,yH (m:="state") e (by rfl'),st]
end
noncomputable def Z8:List Int:=[0,0,0,0,0,0,0,0]
abbrev Fr (h h':AH):Prop:=∀ m,At h m->At h' m
section
variable {h:AH}{w:Int}
def Rdb (d:Str×List Rw):Prop:=∀ h:AH,∃ h',yW yeg (yc (yW ylO (yc (yd 0) yh)) yh) [.val (.str d.1)] h=some (.lst (d.2.map yV),h')/\Fr h h'
noncomputable def txV (d:Str×List Rw):PV:=.str d.1
def ysR (d:Str×List Rw):PV:=.lst (d.2.map yV)
theorem At.seen {m:List _}{d d':Nd}(A:At h m):At ((h++[d]).set h.length d') m:=⟨A.1,fun p hp=>by
 have:=A.lt hp
 rw [getElem?_set_ne (by omega),getElem?_append_left this];exact A.2 p hp⟩
theorem ynq {α:Type}{E:XE}{inn:PV->PSt}{f g:α->PV}:∀ (l:List α),(∀ h a,a∈l->∃ h',E (inn (f a)) h=some (g a,h')/\Fr h h')->∀ h,∃ h',ygW E inn (l.map f) h=some (l.map g,h')/\Fr h h'
 | [],_,h=>⟨h,rfl,fun _ A=>A⟩
 | a::l,d,h=>by
  obtain ⟨h1,e,k⟩:=d h a mem_cons_self
  obtain ⟨h2,i,n⟩:=ynq l (fun h b j=>d h b (mem_cons_of_mem _ j)) h1
  refine ⟨h2,?_,fun m A=>n m (k m A)⟩
  show ob _ _=_
  rw [e,ybL,i]
  rfl
theorem yvp {ds:List _}(j:∀ d∈ds,Rdb d) (hl:ds.length<=100):∃ h',ycm [.lst (ds.map txV)] h=some (.lst (ds.map ysR),h')/\Fr h h':=by
 obtain ⟨h',e,i⟩:=ynq (inn:=yfP [] _) (f:=txV) (g:=ysR) ds (fun h a c=>j a c h) h
 refine ⟨h',?_,i⟩
 unfold ycm
 rw [yo]
 show ob (yQ _ [.val _] h) fnK=_
 rw [yqI,yCJ,ywa,yrE rfl,ybL,if_pos (by grind),e]
 rfl
def hsV (hs:List (List (Str×List Rw))):List PV:=hs.map fun ds=>.lst (ds.map txV)
theorem yvq {hs:List _}(j:∀ p∈hs,p.length<=6/\∀ d∈p,Rdb d) (h1:1<=hs.length) (t:hs.length<=8):∃ h',ycn [.lst (hsV hs)] h=some (.lst (hs.map fun p=>.lst (p.map ysR)),h')/\Fr h h':=by
 obtain ⟨h',e,k⟩:=ynq (inn:=yfP [] [.val (.lst (hsV hs))]) (g:=fun p=>.lst (p.map ysR)) hs (fun h a i=>by
  obtain ⟨h',q,F⟩:=yvp (h:=h) (j a i).2 (by grind)
  refine ⟨h',?_,F⟩
  show yW ycm (yc (yd 0) (yh)) [.val (.lst (a.map txV))] h=_
  simp_all? only [q]) h
 have m:ygW _ (yfP [] [.val (.lst (hsV hs))]) (hsV hs) h=some _:=ydU (f:=fun p:List _=>.lst _) (g:=fun _=>.bl false) fun a i=>by
  have c:((6:Int)<((a.map txV).length:Nat))=False:=eq_false (by have:=(j _ i).1;grind)
  show xOp (oGt) (xCB (yba) (yc (yd 0) (yh))) (xC (.int 6)) [.val _] h=_
  simp_all? only [c]
 have n:∀ h,yri [.lst (hs.map fun _=>PV.bl false)] h=some _:=fun h=>by
  unfold yri ybE
  simp only [yku _]
  rw [show (hs.map _).any id=false by simp]
 refine ⟨h',?_,k⟩
 have s:(hsV hs).length=hs.length:=by unfold hsV;rw [length_map]
 have o:((1:Int)<=((hsV hs).length:Nat))=True:=eq_true (by omega)
 have c:((((hsV hs).length:Nat):Int)<=8)=True:=eq_true (by omega)
 have l:((hsV hs).length<=100000)=True:=eq_true (by omega)
 have r:∀ h,xIL (yd 0) [.val _] h=some (hsV hs,h):=fun _=>yrE rfl
 unfold ycn
 rw [yo]
 show ob (yl _ _ [.val _] h) fnK=_
 have e:ygW _ _ (hsV hs) h=some _:=e
 simp_all? only [o,c,l,r,m,n,e,↓reduceIte]
noncomputable def hv (k:Nat) (ds:List PV) (w:Int):Nd:=.ins 14 ((["deeds","width","nth","sleeps","before"]:List Str).take k) (([.lst ds,.int w,.int 0,.bl false,.lst (Z8.map .int)]:List PV).take k)
theorem ysl {ds rows:List PV}(v:Due ds 0 rows):∃ h' c',ybP [.loc h.length,.lst ds,.int w] (h++[Nd.ins 14 [] []])=some (.non,h')/\∀ m,At h m->RR w rows ((h.length,ydy ds w 0 false Z8 c'.rn)::m) h' c' (S0 Z8):=by
 have N:∀ {k:AH}{d d':Nd},k[h.length]?=some d->(k.set h.length d')[h.length]?=some d':=fun e=>getElem?_set_self (List.getElem?_eq_some_iff.mp e).1
 have q:(h++[Nd.ins 14 [] []])[h.length]?=some (hv 0 ds w):=by simp [hv]
 generalize i:h++[Nd.ins 14 [] []]=k0 at *
 have s1:∀ ρ,fL [14] "deeds" ρ (.lst ds) (.loc h.length) k0=some (.nx ρ,k0.set h.length (hv 1 ds w)):=fun ρ=>yeR q (by decide) (by kernel_rfl!)
 have n:=N (d':=hv 1 ds w) q
 have s2:∀ ρ,fL [12,14] "width" ρ (.int w) (.loc h.length) (k0.set h.length (hv 1 ds w))=some (.nx ρ,(k0.set h.length (hv 1 ds w)).set h.length (hv 2 ds w)):=fun ρ=>yeR n (by decide) (by kernel_rfl!)
 have l:=N (d':=hv 2 ds w) n
 rw [List.set_set] at s2 l
 have s3:∀ ρ,fL [14] "nth" ρ (.int 0) (.loc h.length) (k0.set h.length (hv 2 ds w))=some (.nx ρ,(k0.set h.length (hv 2 ds w)).set h.length (hv 3 ds w)):=fun ρ=>yeR l (by decide) (by kernel_rfl!)
 have j:=N (d':=hv 3 ds w) l
 rw [List.set_set] at s3 j
 have s4:∀ ρ,fL [14] "sleeps" ρ (.bl false) (.loc h.length) (k0.set h.length (hv 3 ds w))=some (.nx ρ,(k0.set h.length (hv 3 ds w)).set h.length (hv 4 ds w)):=fun ρ=>yeR j (by decide) (by kernel_rfl!)
 have g:=N (d':=hv 4 ds w) j
 rw [List.set_set] at s4 g
 have s5:∀ ρ,fL [14] "before" ρ (.lst (Z8.map .int)) (.loc h.length) (k0.set h.length (hv 4 ds w))=some (.nx ρ,(k0.set h.length (hv 4 ds w)).set h.length (hv 5 ds w)):=fun ρ=>yeR g (by decide) (by kernel_rfl!)
 have f:=N (d':=hv 5 ds w) g
 rw [List.set_set] at s5 f
 obtain ⟨h',c',t,r⟩:=ygC (rows:=rows) (nth:=0) (bf:=Z8) (w:=w) (ds:=ds) (fl 0 f (by decide) (by rfl') rfl) (fl 1 f (by decide) (by rfl') rfl) (fl 2 f (by decide) (by rfl') rfl) (fl 4 f (by decide) (by rfl') rfl) v
 have R:∀ m,At h m->RR w rows ((h.length,hv 5 ds w)::m) h' c' (S0 Z8):=fun m A=>r _ (by
  have o:=At.new (Nd.ins 14 [] []) (a:=[]) A
  rw [i] at o
  exact At.upd (a:=[]) (hv 5 ds w) o)
 have u:At h []:=⟨List.nodup_nil,fun p hp=>by simp at hp⟩
 have s:h'[h.length]?=some (hv 5 ds w):=(R [] u).rest.get 0 rfl
 have s6:∀ ρ,fL [14] "run" ρ (.loc c'.rn) (.loc h.length) h'=some (.nx ρ,h'.set h.length (ydy ds w 0 false Z8 c'.rn)):=fun ρ=>yeR s (by decide) (by kernel_rfl!)
 refine ⟨_,c',?_,fun m A=>RR.urest (a:=[]) _ (R m A)⟩
 have l0:∀ k,yX [.lst ds] k=some (.lst ds,k):=fun _=>rfl
 unfold ybP
 rw [yo]
 show ob (yl _ _ [.val (.loc h.length),.val (.lst ds),.val (.int w)] k0) fnK=_
 simp_all? only [ypy,l0,s1,s2,s3,s4]
 rw [if_pos (by decide),show PV.lst (repL ((8:Nat):Int).toNat [PV.int 0])=.lst (Z8.map .int) from rfl]
 simp_all? only [ypy,s5,ycs,yH (m:="new_run") f (by rfl'),t,s6]
end
section
variable {h:AH}{w:Int}
theorem yig:∀ {b:List _}{xs:List HD}{m:List _},CR w b xs m=CR w b xs []++m
 | [],_,_=>rfl
 | _::_,[],_=>rfl
 | a::b,x::xs,m=>by
  show HN w a x _=HN w a x _++m
  rw [ygS,ygS (m:=CR w b xs []),yig,append_assoc]
end
section
variable {h:AH}
theorem yCc {i:Int}(b:0<=i/\i<B64):ycS [.int i] h=some (.bl true,h):=by
 have e:yed [.int i] h=some (.bl true,h):=rfl
 have c:=eq_true b.1
 have d:=eq_true b.2
 unfold ycS
 rw [yo]
 show ob (yQ _ [.val _] h) fnK=_
 simp_all? only [e,c,d]
theorem ysm {ρ:PSt}:∀ bx:List Int,(∀ i∈bx,0<=i/\i<B64)->ygW (yW ycS (yc (yd 0) yh)) (yfP [] ρ) (bx.map .int) h=some (replicate bx.length (.bl true),h)
 | [],_=>rfl
 | i::bx,b=>by
  show ob (ycS _ h) _=_
  rw [yCc (b i mem_cons_self),ybL]
  rw [ysm bx fun j c=>b j (mem_cons_of_mem _ c)]
  rfl
theorem ysn:∀ n,yhE (replicate n (PV.bl true))=some (replicate n true)
 | 0=>rfl
 | n+1=>by
  rw [List.replicate_succ]
  unfold yhE
  simp only [ysn n]
  try rfl
theorem yvr {bx:List Int}(h1:1<=bx.length) (b:bx.length<=16) (d:∀ i∈bx,0<=i/\i<B64):ydo [.lst (bx.map .int)] h=some (.non,h):=by
 have c:=ysm (h:=h) (ρ:=[.val (.lst (bx.map .int))]) bx d
 have e:yxJ [.lst (replicate bx.length (PV.bl true))] h=some (.bl true,h):=by
  unfold yxJ ybE
  simp only [ysn]
  simp_all
 have k:xIL (yd 0) [.val (.lst (bx.map .int))] h=some _:=rfl
 have j:((bx.map PV.int).length:Int)=bx.length:=by rw [length_map]
 have l:((1:Int)<=bx.length)=True:=eq_true (by omega)
 have g:((bx.length:Int)<=16)=True:=eq_true (by omega)
 have f:((bx.map PV.int).length<=100000)=True:=eq_true (by omega)
 unfold ydo
 rw [yo]
 show ob (yl _ _ [.val _] h) fnK=_
 simp_all? only [j,l,g,f,k,c,e]
end
noncomputable def av (k nu ma cr en:Nat):Nd:=.ins 15 ((["numbers","marks","crew","entries"]:List Str).take k) (([.loc nu,.loc ma,.loc cr,.loc en]:List PV).take k)
def hd0 (ds:List (Str×List Rw)):HD:=⟨ds.map ysR,0,false,Z8,match ds with|[]=>[]|d::_=>d.2.map yV,S0 Z8⟩
theorem yFs:∀ ds,Due (hd0 ds).ds 0 (hd0 ds).rows
 | []=>.inr ⟨rfl,rfl⟩
 | d::r=>.inl ⟨by simp [hd0],rfl⟩
section
variable {h:AH}{w:Int}
theorem yFR n:repL ((n:Nat):Int).toNat [PV.int 0]=(replicate n 0).map .int:=by
 show (replicate n _).flatten=_
 simp_all
theorem yso {bx:List Int}{ρ:PSt}(c:∀ x,yfP [1] ρ x=[.val x,.val (.lst (bx.map .int))]):∀ (hs:List _) h,∃ h' b,ygW (yje 14 ybP (yc (yd 0) (yc (xCB yba (yc (yd 1) yh)) yh))) (yfP [1] ρ) (hs.map fun ds=>.lst (ds.map ysR)) h=some ((b.map (·.1)).map .loc,h')/\LyOk b (hs.map hd0)/\∀ m,At h m->At h' (CR bx.length b (hs.map hd0) m)
 | [],h=>⟨h,[],rfl,trivial,fun _ A=>A⟩
 | ds::hs,h=>by
  obtain ⟨h1,d,e,i⟩:=ysl (w:=bx.length) (yFs ds)
  obtain ⟨h',b,l,k,o⟩:=yso c hs h1
  have lw:((bx.map PV.int).length:Nat)=bx.length:=by rw [length_map]
  have n:At h []:=⟨List.nodup_nil,fun p hp=>by simp at hp⟩
  refine ⟨h',(h.length,d)::b,?_,⟨(i [] n).len,k⟩,fun m A=>?_⟩
  .show ob _ _=_
   rw [c,yrg]
   have e:ybP [.loc h.length,.lst (ds.map ysR),.int bx.length] _=some _:=e
   simp_all? only [lw,e,l]
   rfl
  .have R:=i m A
   have j:At h1 (HN bx.length (h.length,d) (hd0 ds) m):=by
    have f:=R.at_
    rw [yie] at f
    show At h1 ((h.length,ydy _ bx.length 0 false Z8 d.rn)::RM _ _ _ _ _)
    rw [yie]
    exact f.perm List.perm_middle.symm
   have g:=o _ j
   rw [yig,ygS] at g
   show At h' (HN bx.length _ _ _)
   rw [ygS,yig]
   exact g.perm (List.perm_append_comm_assoc _ _ _)
theorem ysp {bx:List Int}{hs:List (List (Str×List Rw))}(h1:1<=bx.length) (t:bx.length<=16) (G:∀ i∈bx,0<=i/\i<B64) (R:∀ p∈hs,p.length<=6/\∀ d∈p,Rdb d) (q:1<=hs.length) (n:hs.length<=8) :
  ∃ h' g c,ycH [.loc h.length,.lst (bx.map .int),.lst (hsV hs)] (h++[Nd.ins 15 [] []])=some (.non,h')/\g.H=h.length/\∀ m,At h m->HH h' g bx.length bx (replicate bx.length 0) [] c (hs.map hd0) m:=by
 have j:At h []:=⟨List.nodup_nil,fun p hp=>by simp at hp⟩
 have P:∀ m,At h m->At (h++[Nd.ins 15 [] []]) ((h.length,.ins 15 [] [])::m):=fun m A=>At.new _ (a:=[]) A
 have F:=yvr (h:=h++[Nd.ins 15 [] []]) h1 t G
 generalize h++[Nd.ins 15 [] []]=k0 at *
 have z:∀ m,At h m->At (k0++[Nd.lst (bx.map .int)]) ((h.length,.ins 15 [] [])::(k0.length,.lst (bx.map .int))::m):=fun m A=>At.new _ (a:=[_]) (P m A)
 have s1:∀ ρ,fL [15] "numbers" ρ (.loc k0.length) (.loc h.length) (k0++[Nd.lst (bx.map .int)])=some (.nx ρ,(k0++[Nd.lst (bx.map .int)]).set h.length (av 1 k0.length 0 0 0)):=fun ρ=>yeR ((z [] j).get 0 rfl) (by decide) (by kernel_rfl!)
 have K:=fun m A=>At.upd (a:=[]) (av 1 k0.length 0 0 0) (z m A)
 generalize s:k0.length=nu at *
 generalize (k0++[Nd.lst (bx.map .int)]).set h.length (av 1 nu 0 0 0)=k1 at *
 have v:∀ m,At h m->At (k1++[Nd.lst ((replicate bx.length (0:Int)).map .int)]) ((h.length,av 1 nu 0 0 0)::(nu,.lst (bx.map .int))::(k1.length,.lst ((replicate bx.length (0:Int)).map .int))::m):=fun m A=>At.new _ (a:=[_,_]) (K m A)
 have s2:∀ ρ,fL [15] "marks" ρ (.loc k1.length) (.loc h.length) (k1++[Nd.lst ((replicate bx.length (0:Int)).map .int)])=some (.nx ρ,(k1++[Nd.lst ((replicate bx.length (0:Int)).map .int)]).set h.length (av 2 nu k1.length 0 0)):=fun ρ=>yeR ((v [] j).get 0 rfl) (by decide) (by kernel_rfl!)
 have x:=fun m A=>At.upd (a:=[]) (av 2 nu k1.length 0 0) (v m A)
 generalize r:k1.length=ma at *
 generalize (k1++[Nd.lst ((replicate bx.length (0:Int)).map .int)]).set h.length (av 2 nu ma 0 0)=k2 at *
 have S:Fr h k2:=fun m A=>(x m A).sub (((List.Sublist.refl m).cons _).cons _ |>.cons _)
 obtain ⟨k3,M,L⟩:=yvq (h:=k2) R q n
 obtain ⟨e,c,E,D,H⟩:=yso (bx:=bx) (ρ:=[.val (.loc h.length),.val (.lst (bx.map .int)),.val (.lst (hsV hs))]) (fun _=>rfl) hs k3
 have J:=fun m A=>H _ (L _ (x m A))
 have o:∀ m,At h m->At e ((h.length,av 2 nu ma 0 0)::(nu,.lst (bx.map .int))::(ma,.lst ((replicate bx.length (0:Int)).map .int))::CR bx.length c (hs.map hd0) m):=fun m A=>by
  have:=J m A
  rw [yig] at this
  rw [yig]
  exact this.perm (show ([_,_,_]++(CR bx.length c (hs.map hd0) []++m)).Perm (CR bx.length c (hs.map hd0) []++([_,_,_]++m)) from List.perm_append_comm_assoc _ _ _)
 have B:=fun m A=>At.new (Nd.lst ((c.map (·.1)).map .loc)) (a:=[_,_,_]) (o m A)
 have s3:∀ ρ,fL [15] "crew" ρ (.loc e.length) (.loc h.length) (e++[Nd.lst ((c.map (·.1)).map .loc)])=some (.nx ρ,(e++[Nd.lst ((c.map (·.1)).map .loc)]).set h.length (av 3 nu ma e.length 0)):=fun ρ=>yeR ((B [] j).get 0 rfl) (by decide) (by kernel_rfl!)
 have O:=fun m A=>At.upd (a:=[]) (av 3 nu ma e.length 0) (B m A)
 generalize u:e.length=l at *
 generalize (e++[Nd.lst ((c.map (·.1)).map .loc)]).set h.length (av 3 nu ma l 0)=f at *
 have y:=fun m A=>At.new (Nd.lst []) (a:=[_,_,_,_]) (O m A)
 have s4:∀ ρ,fL [15] "entries" ρ (.loc f.length) (.loc h.length) (f++[Nd.lst []])=some (.nx ρ,(f++[Nd.lst []]).set h.length (av 4 nu ma l f.length)):=fun ρ=>yeR ((y [] j).get 0 rfl) (by decide) (by kernel_rfl!)
 have I:=fun m A=>At.upd (a:=[]) (av 4 nu ma l f.length) (y m A)
 refine ⟨_,⟨h.length,nu,ma,l,f.length⟩,c,?_,rfl,fun m A=>⟨I m A,D⟩⟩
 have l0:∀ k,yX [.lst (bx.map .int)] k=some (.lst (bx.map .int),k):=fun _=>rfl
 have lw:(((bx.map PV.int).length:Nat):Int)=bx.length:=by rw [length_map]
 unfold ycH
 rw [yo]
 show ob (yl _ _ [.val (.loc h.length),.val (.lst (bx.map .int)),.val (.lst (hsV hs))] k0) fnK=_
 simp_all? only [ypy,F,l0,s,s1,lw]
 rw [if_pos (by omega),yFR]
 have C:xIL (yW ycn (yc (yd 2) (yh))) [.val (.loc h.length),.val (.lst (bx.map .int)),.val (.lst (hsV hs))] k2=some (hs.map fun p=>.lst (p.map ysR),k3):=by
  unfold xIL
  simp_all? only [M]
 have N:((hs.map fun p=>PV.lst (p.map ysR)).length<=100000)=True:=eq_true (by rw [length_map];omega)
 simp_all? only [ypy,r,s2,C,N,E,u,s3,s4]
end
section
variable {h:AH}
abbrev Pc:=Q×(Int->List Rw)
def lrB:XS:=ynf 2 (yW (ydw 44) (yc (yd 3) (yc (xOp yfi (yd 1) (ypa 2)) yh)))
structure yzA (p:Pc):Prop where
 rd:PQ 44 0 p.1
 lg:∀ h:AH,yoX "long" (ylM 44) (yd 0) [.val p.1.1] h=some (.int ((p.2 0).length:Nat),h)
 rw:∀ (f:Int) (h:AH),ydw 44 [p.1.1,.int f] h=some (.lst ((p.2 f).map yV),h)
 fs:frs p.1.2/\p.1.2.length<=40
 ln:∀ f,(p.2 f).length<=10
noncomputable def cat:List Pc->Int->List Rw
 | [],_=>[]
 | p::l,f=>p.2 f++cat l (f+((p.2 f).length:Nat))
theorem yCd {i:Nat}{e:XE}{ρ:PSt}{xs:List PV}(c:ρ[i]?=some (.own (.lst xs))) {ys:List PV}{h1:AH}(b:e ρ h=some (.lst ys,h1)) (hl:xs.length+ys.length<=100000):ynf i e ρ h=some (.nx (ρ.set i (.own (.lst (xs++ys)))),h1):=by
 unfold ynf
 rw [c]
 show ob _ _=_
 rw [b,ybL]
 simp_all
theorem ysq {X:PV}:∀ l R v,(∀ p∈l,yzA p)->R.length+10*l.length<=1000 ->
  ∃ b,ydZ (yp 3) lrB (l.map fun p=>p.1.1) [.val X,.val (.int 0),.own (.lst (R.map yV)),v] h=some (.nx [.val X,.val (.int 0),.own (.lst ((R++cat l (0+R.length)).map yV)),b],h)
 | [],R,v,_,_=>⟨v,by show some _=_;unfold cat;rw [append_nil]⟩
 | p::l,R,v,hp,hl=>by
  have P:=hp p mem_cons_self
  have f:=P.rw (0+R.length) h
  have g:=P.ln (0+R.length)
  rw [length_cons] at hl
  obtain ⟨b,e⟩:=ysq l (R++p.2 (0+R.length)) _ (fun p c=>hp p (mem_cons_of_mem _ c)) (by grind)
  refine ⟨b,?_⟩
  have d:lrB [.val X,.val (.int 0),.own (.lst (R.map yV)),.val p.1.1] h=some (.nx [.val X,.val (.int 0),.own (.lst ((R++p.2 (0+R.length)).map yV)),.val p.1.1],h):=by
   refine (yCd (ys:=(p.2 (0+R.length)).map yV) (h1:=h) rfl ?_ (by grind)).trans (by simp_all)
   have:ypa 2 [.val X,.val (.int 0),.own (.lst (R.map yV)),.val (p.1.1)] h=some _:=rfl
   rw [length_map] at this
   simp_all? only [this,f]
  show ydZ _ _ (p.1.1::l.map _) _ h=_
  rw [yiE rfl d,e,show cat (p::l) _=p.2 _++cat l _ from rfl]
  simp_all
theorem ypm {l:List Pc}{ps:List PV}(d:ps=l.map fun p=>p.1.1) (hp:∀ p∈l,yzA p) (hl:l.length<=79):yeg [.lst ps] h=some (.lst ((cat l 0++[Rw.lay]).map yV),h):=by
 obtain ⟨i,e⟩:=ysq l [] .no hp (by grind)
 rw [<- d] at e
 have c:ycT 45 [.lst ps,.int 0] h=some (.lst ((cat l 0).map yV),h):=by
  have g:xIL (yd 0) [.val _,.val (.int 0),.own (.lst []),.no] h=some (ps,h):=yrE rfl
  have j:ydZ _ lrB ps [.val (.lst ps),.val _,.own (.lst []),.no] h=some (.nx [.val _,.val _,.own (.lst ((cat l 0).map yV)),i],h):=e
  unfold ycT
  rw [yo]
  show ob (yl _ (yl (yiS _ _ lrB) _) [.val _,.val _,.no,.no] h) fnK=_
  simp_all? only [g,j]
 have b:∀ l f,(∀ p∈l,yzA p)->(cat l f).length<=10*l.length:=by
  intro l
  induction l with
  | nil=>intro f _;exact Nat.le_refl _
  | cons p l ih =>
   intro f hp
   have:=(hp p mem_cons_self).ln f
   have:=ih (f+(p.2 f).length) fun p h=>hp p (mem_cons_of_mem _ h)
   unfold cat
   grind
 have:=b l 0 hp
 unfold yeg
 rw [yo]
 show ob (yQ _ [.val _] h) fnK=_
 simp_all? only [c]
 rw [if_pos (by grind),map_append]
 rfl
theorem yCe:∀ l,(∀ q∈l,frs q.2/\q.2.length<=40/\q.2≠[])->frs (wr l)/\(wr l).length<=41*l.length/\∀ q:Q,q.2≠[]->Str.join " ; " ((q::l).map fun q=>Str.join " " q.2)=Str.join " " (q.2++wr l)
 | [],_=>⟨(fun _ h=>by cases h),Nat.le_refl _,fun q _=>by show _=Str.join " " (q.2++[]);rw [append_nil];rfl⟩
 | u::l,H=>by
  obtain ⟨h1,h2,b⟩:=H u mem_cons_self
  obtain ⟨d,f,c⟩:=yCe l fun q h=>H q (mem_cons_of_mem _ h)
  refine ⟨List.forall_mem_cons.2 ⟨yhb _ (rfl),yeQ h1 d⟩,?_,fun q e=>?_⟩
  .show (u.2++wr l).length+1<=41*(l.length+1)
   grind
  .show Str.join " " q.2++" ; "++Str.join " ; " _=Str.join " " (q.2++(";":Str)::(u.2++wr l))
   rw [c u b,yhq e (fun z=>by cases z),yrD fun z=>b (List.append_eq_nil_iff.mp z).1,yBF]
   simp only [ylP]
theorem ynr {W:List Str}(f:frs W) (c:W≠[]) (hl:W.length<=3000):yfb [.str (Str.join " " W)] h=some (.lst (W.map .str),h):=by
 have e:=ykh " " (by rfl') W f
 unfold yfb
 rw [yo]
 show ob (yl _ _ [.val _] h) fnK=_
 simp_all? only [yyE f c,yyd (show (Str.join " " W).length<=100000 by omega),yhN _ c fun w d=>(f w d).1,↓reduceIte]
noncomputable def AllOk (l:List Pc):Prop:=∀ p∈l,yzA p
theorem AllOk.c {p:Pc}{l:List Pc}(a:yzA p) (b:AllOk l):AllOk (p::l):=List.forall_mem_cons.2 ⟨a,b⟩
theorem AllOk.n:AllOk []:=fun _ h=>by cases h
noncomputable def lgs (l:List Pc):Int:=(l.map fun p=>((p.2 0).length:Int)).sum
theorem yCf {s:Str}{p:Pc}{l:List Pc}(H:AllOk (p::l)) (es:s=Str.join " ; " ((p::l).map fun p=>Str.join " " p.1.2)) (hl:l.length<=60) (K:lgs (p::l)<=79):Rdb (s,cat (p::l) 0++[Rw.lay])/\s.length<=69000:=by
 have A:∀ q∈(p::l).map (·.1),PQ 44 0 q/\frs q.2/\q.2.length<=40/\q.2≠[]:=fun q i=>by
  obtain ⟨p,hp,rfl⟩:=List.mem_map.mp i
  obtain ⟨P,w,tl,e,n⟩:=(H p hp).rd
  exact ⟨(H p hp).rd,(H p hp).fs.1,(H p hp).fs.2,by rw [e];exact fun z=>by cases z⟩
 obtain ⟨a1,a2,a3,a4⟩:=A p.1 mem_cons_self
 obtain ⟨v,B,F⟩:=yCe (l.map (·.1)) fun q i=>(A q (mem_cons_of_mem _ i)).2
 have c:s=Str.join " " (wl ((p::l).map (·.1))):=by rw [es];refine .trans ?_ (F p.1 a4);rw [map_cons,map_cons,map_map];rfl
 have t:frs (wl ((p::l).map (·.1))):=yeQ a2 v
 have x:wl ((p::l).map (·.1))≠[]:=fun z=>a4 (List.append_eq_nil_iff.mp z).1
 have I:(wl ((p::l).map (·.1))).length<=3000:=by
  show (p.1.2++wr (l.map (·.1))).length<=3000
  rw [length_append]
  rw [length_map] at B
  omega
 refine ⟨fun h=>?_,by have:=ykh " " (by rfl') _ t;rw [c];omega⟩
 have C:(p::l).length<=79:=by rw [length_cons];omega
 have r:∀ h,yeg [.lst ((p::l).map (·.1.1))] h=some (.lst ((cat (p::l) 0++[Rw.lay]).map yV),h):=fun h=>ypm rfl H C
 obtain ⟨d,d',D⟩:∃ d d',ylO [.str s] h=some (.lst ((p::l).map (·.1.1)),(h++[d]).set h.length d'):=by
  refine ⟨rdr (wl ((p::l).map (·.1))) 0,rdr (wl ((p::l).map (·.1))) (0+(wl ((p::l).map (·.1))).length),?_⟩
  rw [c]
  clear c es r
  generalize o:(p::l).map (·.1)=b at *
  have y:∀ h,ybw 45 [.lst ((p::l).map (·.1.1))] h=some (.int (lgs (p::l)),h):=fun h=>by
   unfold ybw
   rw [yo]
   show ob (yQ _ [.val (.lst ((p::l).map (·.1.1)))] h) fnK=_
   symm
   rw [yrE rfl,ybL]
   rw [if_pos (by rw [length_map];omega)]
   rw [ydU (f:=fun p:Pc=>p.1.1) (g:=fun p=>.int ((p.2 0).length:Nat)) fun p hp=>(H p hp).lg h]
   symm
   rw [show ((p::l).map fun p=>PV.int ((p.2 0).length:Nat))=((p::l).map fun p=>((p.2 0).length:Int)).map PV.int by rw [map_map];rfl]
   unfold yCI ybE
   simp only [yiV]
   rfl
  have hv:b.map (·.1)=(p::l).map (·.1.1):=by rw [<- o,map_map];rfl
  have k:b.length<=90:=by rw [<- o,length_map];omega
  unfold ylO
  rw [yo]
  show ob (yl _ _ [.val (.str (Str.join " " (wl b))),.no,.no] h) fnK=_
  have E:h.length<(h++[rdr (wl b) 0]).length:=by simp
  have c:h++[rdr (wl b) 0]=hR (h++[rdr (wl b) 0]) h.length (wl b) 0:=by unfold hR;simp
  simp_all? only [ynr t x I,show ycU [PV.lst (List.map PV.str (wl b))] h=some (rdr (wl b) 0,h) from rfl]
  generalize J:h++[rdr (wl b) 0]=G at *
  conv=>lhs;rw [c]
  have u:h.length<G.length/\(wl b).length<=100000:=⟨E,by omega⟩
  simp_all? only [ycs,list_eq (rest:=[]) u (.inl rfl) (fun q i=>(A q i).1) k (show (wl b).drop 0=wl b++[] by simp),hv,yeu u (show (wl b).drop (0+(wl b).length)=[] by simp),hdV,y]
  rw [if_neg (by intro z;cases z),if_neg (by omega)]
  rfl
 refine ⟨(h++[d]).set h.length d',?_,fun m A=>At.seen A⟩
 dsimp only
 clear es c
 simp_all? only [D,r]
end
noncomputable def vR:Rw->PV
 | .let_ r n=>.ins 1 ["slot","number"] [.str r,.int n]
 | .reckon w a b c=>.ins 2 ["word","slot","one","other"] [.str w,.str a,.str b,.str c]
 | .take r s=>.ins 3 ["slot","place"] [.str r,.str s]
 | .put r s=>.ins 4 ["place","slot"] [.str r,.str s]
 | .throw r s=>.ins 8 ["name","slot"] [.str r,.str s]
 | _=>.ins 9 [] []
def wR:Rw->List Str
 | .let_ r n=>["let",r,(tI n)]
 | .reckon w a b c=>[w,a,b,c]
 | .take r s=>["take",r,s]
 | .put r s=>["put",r,s]
 | .throw r s=>["throw",r,s]
 | _=>["wait"]
abbrev qR (r:Rw):Q:=(vR r,wR r)
abbrev pl (r:Rw):Pc:=(qR r,fun _=>[r])
def sd (l:List Q):List Str:=("(":Str)::(wl l++[(")":Str)])
def iQ (s:Str) (a b:List Q):Q:=(.ins 5 ["slot","parts","others"] [.str s,.lst (a.map (·.1)),.lst (b.map (·.1))],("if":Str)::s::(sd a++("else":Str)::sd b))
def eQ (a b:List Q):Q:=(.ins 6 ["parts","others"] [.lst (a.map (·.1)),.lst (b.map (·.1))],("either":Str)::(sd a++("or":Str)::sd b))
def tQ (nm s:Str) (a b:List Q):Q:=(.ins 7 ["parts","name","slot","others"] [.lst (a.map (·.1)),.str nm,.str s,.lst (b.map (·.1))],("try":Str)::(sd a++("on":Str)::nm::s::sd b))
def sl (r:Str):Prop:=ydO r/\fr r
def gdR:Rw->Prop
 | .let_ r n=>sl r/\0<=n/\n<B64
 | .reckon w a b c=>w∈W5/\sl a/\sl b/\sl c
 | .take r s|.put r s=>sl r/\sl s
 | .throw r s=>(yia r/\fr r)/\sl s
 | .wait=>True
 | _=>False
theorem slA:sl "a":=⟨fun _=>rfl,yhb _ (rfl)⟩
theorem you:sl "b":=⟨fun _=>rfl,yhb _ (rfl)⟩
theorem slC:sl "c":=⟨fun _=>rfl,yhb _ (rfl)⟩
theorem slD:sl "d":=⟨fun _=>rfl,yhb _ (rfl)⟩
theorem slE:sl "e":=⟨fun _=>rfl,yhb _ (rfl)⟩
theorem slF:sl "f":=⟨fun _=>rfl,yhb _ (rfl)⟩
theorem slH:sl "h":=⟨fun _=>rfl,yhb _ (rfl)⟩
def PF (n:Nat) (ar:Int) (q:Q):Prop:=PQ n ar q/\frs q.2
def LF (n:Nat) (ar:Int) (l:List Q):Prop:=(∀ q∈l,PF n ar q)/\l.length<=90
theorem LF.n {k:Nat}{i:Int}:LF k i []:=⟨(fun _ h=>by cases h),by decide⟩
section
variable {n:Nat}{ar:Int}{r:Rw}{a b l:List Q}{q:Q}{s nm:Str}
theorem ycJ {w:Str}{l:List Str}(h:fr w) (k:frs l):frs (w::l):=List.forall_mem_cons.2 ⟨h,k⟩
theorem ykx:frs []:=fun _ h=>by cases h
theorem yCO (g:gdR r) (f:ar<=8):PF (n+1) ar (qR r):=by
 cases r with
 | let_ r n=>exact ⟨⟨yjl (rfl) f (yEv g.1.1 g.2),_,_,rfl,eq_false (by rfl')⟩,ycJ (yhb _ (rfl)) (ycJ g.1.2 (ycJ (ywr g.2.1 g.2.2) ykx))⟩
 | take r s=>exact ⟨⟨yjl (rfl) f (ywv g.1.1 g.2.1).1,_,_,rfl,eq_false (by rfl')⟩,ycJ (yhb _ (rfl)) (ycJ g.1.2 (ycJ g.2.2 ykx))⟩
 | put r s=>exact ⟨⟨yjl (rfl) f (ywv g.1.1 g.2.1).2,_,_,rfl,eq_false (by rfl')⟩,ycJ (yhb _ (rfl)) (ycJ g.1.2 (ycJ g.2.2 ykx))⟩
 | throw r s=>exact ⟨⟨yjl (rfl) f (yyI g.1.1 g.2.1),_,_,rfl,eq_false (by rfl')⟩,ycJ (yhb _ (rfl)) (ycJ g.1.2 (ycJ g.2.2 ykx))⟩
 | wait=>exact ⟨⟨yjl (rfl) f yBI,_,_,rfl,eq_false (by rfl')⟩,ycJ (yhb _ (rfl)) ykx⟩
 | reckon w a b c=>refine ⟨⟨yjl ?_ f (yuY g.1 g.2.1.1 g.2.2.1.1 g.2.2.2.1),_,_,rfl,eq_false ?_⟩,ycJ ?_ (ycJ g.2.1.2 (ycJ g.2.2.1.2 (ycJ g.2.2.2.2 ykx)))⟩<;>rcases ywt g.1 with rfl|rfl|rfl|rfl|rfl<;>first|exact yhb _ (rfl)|rfl'
 | _=>exact g.elim
theorem LF.c (h:PF n ar q) (k:LF n ar l) (hl:l.length<=80):LF n ar (q::l):=⟨List.forall_mem_cons.2 ⟨h,k.1⟩,by grind⟩
theorem LF.f (k:LF n ar l):frs (sd l):=by
 have e:∀ l,(∀ q∈l,PF n ar q)->frs (wr l):=fun l=>by
  induction l with
  | nil=>exact fun _=>ykx
  | cons q l ih=>exact fun h=>ycJ (yhb _ (by rfl')) (yeQ (h q mem_cons_self).2 (ih fun q f=>h q (mem_cons_of_mem _ f)))
 refine ycJ (yhb _ (rfl)) (yeQ ?_ (ycJ (yhb _ (rfl)) ykx))
 cases l with
 | nil=>exact ykx
 | cons q l=>exact yeQ (k.1 q mem_cons_self).2 (e l fun q f=>k.1 q (mem_cons_of_mem _ f))
theorem LF.t (k:LF n ar l):Tk "side_taken" (yq (n+2)) [.int ar] (.lst (l.map (·.1))) (sd l):=yBJ (fun q d=>(k.1 q d).1) k.2
theorem yFS (e:ar<=8) (A:LF n (ar+1) a) (B:LF n (ar+1) b):PF (n+4) ar (eQ a b):=⟨⟨(yrK e).1 (yuZ A.t B.t),_,_,rfl,eq_false (by rfl')⟩,ycJ (yhb _ (rfl)) (yeQ A.f (ycJ (yhb _ (rfl)) B.f))⟩
theorem yCg (e:ar<=8) (g:sl s) (A:LF n (ar+1) a) (B:LF n (ar+1) b):PF (n+4) ar (iQ s a b):=⟨⟨yva e (yFP g.1 A.t B.t),_,_,rfl,eq_false (by rfl')⟩,ycJ (yhb _ (rfl)) (ycJ g.2 (yeQ A.f (ycJ (yhb _ (rfl)) B.f)))⟩
theorem yFT (f:ar<=8) (e:yia nm/\fr nm) (g:sl s) (A:LF n (ar+1) a) (B:LF n (ar+1) b):PF (n+4) ar (tQ nm s a b):=⟨⟨(yrK f).2 (yEw e.1 g.1 A.t B.t),_,_,rfl,eq_false (by rfl')⟩,ycJ (yhb _ (rfl)) (yeQ A.f (ycJ (yhb _ (rfl)) (ycJ e.2 (ycJ g.2 B.f))))⟩
theorem ydF (g:gdR r):yzA (pl r):=by
 have k:=yCO (n:=43) (ar:=0) g (by decide)
 refine ⟨k.1,?_,?_,⟨k.2,?_⟩,fun _=>Nat.le_add_left 1 9⟩
 .cases r<;>first|exact g.elim|exact fun _=>rfl
 .cases r with
  | reckon w a b c=>rcases ywt g.1 with rfl|rfl|rfl|rfl|rfl<;>exact fun _ _=>rfl
  | _=>first|exact g.elim|exact fun _ _=>rfl
 .cases r<;>first|exact g.elim|exact of_decide_eq_true (rfl)
theorem ypn {f:Int->List Rw}(k:PF 44 0 q) (i:∀ h,yoX "long" (ylM 44) (yd 0) [.val q.1] h=some (.int (f 0).length,h)) (g:∀ k h,ydw 44 [q.1,.int k] h=some (.lst ((f k).map yV),h)) (fs:decide (q.2.length<=40)=true) (e:∀ k,(f k).length<=10):AllOk [(q,f)]:=.c ⟨k.1,i,g,⟨k.2,of_decide_eq_true fs⟩,e⟩ .n
end
theorem yyW {a b:Str}(e:a.cps.toList=b.cps.toList):a=b:=by
 cases a;simp_all
theorem yEF (a b:Str):(a++b).cps.toList=a.cps.toList++b.cps.toList:=Array.toList_append
theorem yCh (s a b:Str) (r:List Str):Str.join s (a::b::r)=a++s++Str.join s (b::r):=rfl
theorem join_1 (s a:Str):Str.join s [a]=a:=rfl
def pcs (x y N:Int):Nat->List Pc
 | 0=>[pl (.let_ "a" x),pl (.take "b" "a"),pl (.reckon "plus" "b" "b" "h"),pl (.put "a" "b")]
 | 1=>[pl (.let_ "c" N)]
 | 2=>[pl (.let_ "a" x),pl (.take "b" "a")]
 | 3=>[pl (.let_ "a" x),pl (.put "a" "c")]
 | 4=>[pl (.let_ "a" x),pl (.take "b" "a"),(iQ "b" [] [qR .wait],fun f=>[.unl "b" (f+3-1),.jump (f+3),.wait])]
 | 5=>[(eQ [qR (.let_ "a" x),qR (.take "b" "a"),qR (.put "a" "h"),iQ "b" [qR .wait] []] [qR (.let_ "c" N)],fun f=>[.either (f+10-1),.let_ "a" x,.take "b" "a",.put "a" "h",.unl "b" (f+1+3+3-0),.wait,.jump (f+1+3+3),.settle,.jump (f+10),.let_ "c" N])]
 | 6=>[(tQ "x" "e" [qR (.let_ "a" x),qR (.put "a" "h"),qR (.take "b" "a"),qR (.throw "x" "c")] [qR (.let_ "d" y),qR (.take "f" "d")],fun f=>[.guard "x" "e" (f+9-2),.let_ "a" x,.put "a" "h",.take "b" "a",.throw "x" "c",.settle,.jump (f+9),.let_ "d" y,.take "f" "d"])]
 | 7=>[pl (.let_ "a" x),pl (.take "b" "a"),(iQ "b" [qR (.throw "y" "b")] [],fun f=>[.unl "b" (f+3-0),.throw "y" "b",.jump (f+3)])]
 | 8=>[pl (.let_ "a" x),pl (.let_ "d" y),pl (.take "b" "a"),pl (.take "e" "d"),pl (.reckon "less" "f" "b" "e"),(iQ "f" [qR (.put "a" "e"),qR (.put "d" "b")] [],fun f=>[.unl "f" (f+4-0),.put "a" "e",.put "d" "b",.jump (f+4)])]
 | _=>[pl (.let_ "a" x),pl (.let_ "d" y),pl (.take "b" "a"),(iQ "b" [qR (.reckon "minus" "b" "b" "h"),qR (.put "a" "b"),qR (.put "d" "h")] [qR .wait],fun f=>[.unl "b" (f+6-1),.reckon "minus" "b" "b" "h",.put "a" "b",.put "d" "h",.jump (f+6),.wait])]
noncomputable def pcS (A D N:Str):Nat->Str
 | 0=>A++" ; take b a ; plus b b h ; put a b"
 | 1=>"let c "++N
 | 2=>A++" ; take b a"
 | 3=>A++" ; put a c"
 | 4=>A++" ; take b a ; if b ( ) else ( wait )"
 | 5=>"either ( "++A++" ; take b a ; put a h ; if b ( wait ) else ( ) ) or"++" ( let c "++N++" )"
 | 6=>"try ( "++A++" ; put a h ; take b a ; throw x c ) on x e ( "++D++" ; take f d )"
 | 7=>A++" ; take b a ; if b ( throw y b ) else ( )"
 | 8=>A++" ; "++D++" ; take b a ; take e d ; less f b e ; if f ( put a e ; put d b ) else ( )"
 | _=>A++" ; "++D++" ; take b a ; if b ( minus b b h ; put a b ; put d h ) else ( wait )"
theorem yzB {P:Nat->Prop}(b:P 0) (h1:P 1) (h2:P 2) (k:P 3) (d:P 4) (c:P 5) (f:P 6) (g:P 7) (e:P 8) (i:P 9):∀ j,j<10->P j
 | 0,_=>b|1,_=>h1|2,_=>h2|3,_=>k|4,_=>d|5,_=>c|6,_=>f|7,_=>g|8,_=>e|9,_=>i
 | n+10,h=>absurd h (by omega)
section
variable {x y N:Int}
theorem yCi (k:0<=x/\x<B64) (o:0<=y/\y<B64) (m:0<=N/\N<B64):∀ j,j<10->AllOk (pcs x y N j):=by
 have W:∀ n ar,ar<=8->PF (n+1) ar (qR .wait):=fun n ar p=>yCO trivial p
 have b:gdR (.let_ "a" x):=⟨slA,k⟩
 have f:gdR (.let_ "d" y):=⟨slD,o⟩
 have h:gdR (.let_ "c" N):=⟨slC,m⟩
 have e:gdR (.take "b" "a"):=⟨you,slA⟩
 have i:yia "x"/\fr "x":=⟨fun _=>by kernel_rfl!,yhb _ (by rfl')⟩
 have l:yia "y"/\fr "y":=⟨fun _=>by kernel_rfl!,yhb _ (by rfl')⟩
 have P:∀ {r:Rw}{n:Nat},gdR r->PF (n+1) 1 (qR r):=fun g=>yCO g (by decide)
 apply yzB
 .exact .c (ydF b) (.c (ydF e) (.c (ydF ⟨by simp [W5],you,you,slH⟩) (.c (ydF ⟨slA,you⟩) .n)))
 .exact .c (ydF h) .n
 .exact .c (ydF b) (.c (ydF e) .n)
 .exact .c (ydF b) (.c (ydF ⟨slA,slC⟩) .n)
 .exact .c (ydF b) (.c (ydF e) (ypn (yCg (n:=40) (by decide) you .n (.c (P (n:=39) trivial) .n (by decide))) (fun _=>by kernel_rfl!) (fun _ _=>by kernel_rfl!) (by kernel_rfl!) fun _=>Nat.le_add_left 3 7))
 .exact ypn (yFS (n:=40) (by decide) (.c (P (n:=39) b) (.c (P (n:=39) e) (.c (P (n:=39) ⟨slA,slH⟩) (.c (yCg (n:=36) (by decide) you (.c (yCO (n:=35) trivial (by decide)) .n (by decide)) .n) .n (by decide)) (Nat.le_of_ble_eq_true rfl)) (Nat.le_of_ble_eq_true rfl)) (Nat.le_of_ble_eq_true rfl)) (.c (P (n:=39) h) .n (by decide))) (fun _=>by kernel_rfl!) (fun _ _=>by kernel_rfl!) (by kernel_rfl!) fun _=>Nat.le_add_left 10 0
 .exact ypn (yFT (n:=40) (by decide) i slE (.c (P (n:=39) b) (.c (P (n:=39) ⟨slA,slH⟩) (.c (P (n:=39) e) (.c (P (n:=39) ⟨i,slC⟩) .n (by decide)) (Nat.le_of_ble_eq_true rfl)) (Nat.le_of_ble_eq_true rfl)) (Nat.le_of_ble_eq_true rfl)) (.c (P (n:=39) f) (.c (P (n:=39) ⟨slF,slD⟩) .n (by decide)) (Nat.le_of_ble_eq_true rfl))) (fun _=>by kernel_rfl!) (fun _ _=>by kernel_rfl!) (by kernel_rfl!) fun _=>Nat.le_add_left 9 1
 .exact .c (ydF b) (.c (ydF e) (ypn (yCg (n:=40) (by decide) you (.c (P (n:=39) ⟨l,you⟩) .n (by decide)) .n) (fun _=>by kernel_rfl!) (fun _ _=>by kernel_rfl!) (by kernel_rfl!) fun _=>Nat.le_add_left 3 7))
 .exact .c (ydF b) (.c (ydF f) (.c (ydF e) (.c (ydF ⟨slE,slD⟩) (.c (ydF ⟨by simp [W5],slF,you,slE⟩) (ypn (yCg (n:=40) (by decide) slF (.c (P (n:=39) ⟨slA,slE⟩) (.c (P (n:=39) ⟨slD,you⟩) .n (by decide)) (Nat.le_of_ble_eq_true rfl)) .n) (fun _=>by kernel_rfl!) (fun _ _=>by kernel_rfl!) (by kernel_rfl!) fun _=>Nat.le_add_left 4 6)))))
 .exact .c (ydF b) (.c (ydF f) (.c (ydF e) (ypn (yCg (n:=40) (by decide) you (.c (P (n:=39) ⟨by simp [W5],you,you,slH⟩) (.c (P (n:=39) ⟨slA,you⟩) (.c (P (n:=39) ⟨slD,slH⟩) .n (by decide)) (Nat.le_of_ble_eq_true rfl)) (Nat.le_of_ble_eq_true rfl)) (.c (P (n:=39) trivial) .n (by decide))) (fun _=>by kernel_rfl!) (fun _ _=>by kernel_rfl!) (by kernel_rfl!) fun _=>Nat.le_add_left 6 4)))
theorem yyX:∀ j,j<10->pcS ("let a "++tI x) ("let d "++tI y) (tI N) j=Str.join " ; " ((pcs x y N j).map fun p=>Str.join " " p.1.2):=by
 apply yzB<;>refine yyW ?_<;>simp only [pcS,pcs,wR,iQ,eQ,tQ,sd,map_cons,map_nil,wl,wr,List.cons_append,List.nil_append,append_nil,yCh,join_1,yEF,append_assoc]<;>kernel_rfl!
end
noncomputable def shR (f:Int):Rw->Rw
 | .either k=>.either (f+k)
 | .guard a b k=>.guard a b (f+k)
 | .jump k=>.jump (f+k)
 | .unl s k=>.unl s (f+k)
 | r=>r
noncomputable def zn:Nat->Option Nat->List Rw->List (Option Nat)
 | _,_,[]=>[]
 | i,z,r::l=>z::zn (i+1) (match r with|.either _=>some i|.guard ..=>some i|.settle=>none|_=>z) l
def zo (S:List Rw) (i:Nat):Option Nat:=((zn 0 none S)[i]?).getD none
def tg (S:List Rw) (k:Int) (z:Option Nat):Bool:=decide (0<=k) && decide (k.toNat<=S.length) && (zo S k.toNat == z)
def ckR (S:List Rw) (i:Nat):Rw->Bool
 | .unl _ k=>(zo S (i+1) == zo S i) && tg S k (zo S i) && decide (i<k.toNat)
 | .jump k=>tg S k (zo S i) && decide (i<k.toNat)
 | .either k=>(zo S i == none) && (zo S (i+1) == some i) && tg S k none
 | .guard _ _ k=>(zo S i == none) && (zo S (i+1) == some i) && tg S k none
 | .settle=>(zo S i).isSome && (zo S (i+1) == none)
 | .wait=>true
 | .throw ..=>true
 | .lay=>false
 | _=>zo S (i+1) == zo S i
def chk (S:List Rw):Bool:=decide (0<S.length) && (List.range S.length).all fun i=>(match S[i]? with|some r=>okR r && ckR S i r|none=>false) && (match zo S i with|none=>true|some j=>(match S[j]? with|some b=>yhc b && okR b && tg S (toB b) none && decide (i<(toB b).toNat)|none=>false))
def DR:List (List Rw)->Nat->List Rw
 | [],_=>[.lay]
 | S::l,f=>S.map (shR f)++DR l (f+S.length)
def zR (S:List Rw) (f i:Nat):Option Rw:=(zo S i).bind fun j=>(S[j]?).map (shR f)
def Pos:List (List Rw)->Nat->Nat->Option Rw->Prop
 | [],f,t,z=>t=f/\z=none
 | S::l,f,t,z=>(∃ i,i<S.length/\t=f+i/\z=zR S f i)\/Pos l (f+S.length) t z
noncomputable def cnd (P:Nat->Option Rw->Prop) (t:Nat) (z:Option Rw):Rw->Prop
 | .unl _ k=>P (t+1) z/\P k.toNat z/\t<k.toNat
 | .jump k=>P k.toNat z/\t<k.toNat
 | .either k=>z=none/\P (t+1) (some (.either k))/\P k.toNat none
 | .guard a b k=>z=none/\P (t+1) (some (.guard a b k))/\P k.toNat none
 | .settle=>z≠none/\P (t+1) none
 | .wait=>True
 | .throw ..=>True
 | .lay=>z=none
 | _=>P (t+1) z
def yzC:Rw->Prop|.let_ _ n=>0<=n/\n<B64|_=>True
structure ywx (rws:List Rw) (P:Nat->Option Rw->Prop):Prop where
 st:P 0 none
 nx:∀ t z,P t z->∃ r,rws[t]?=some r/\okR r=true/\cnd P t z r
 zz:∀ t b,P t (some b)->yhc b=true/\okR b=true/\P (toB b).toNat none/\t<(toB b).toNat
 lt:∀ r∈rws,yzC r
theorem yvs {P Q:Nat->Option Rw->Prop}(h:∀ t z,P t z->Q t z) {t:Nat}{z:Option Rw}{r:Rw}(c:cnd P t z r):cnd Q t z r:=by
 cases r with
 | unl s k=>exact ⟨h _ _ c.1,h _ _ c.2.1,c.2.2⟩
 | jump k=>exact ⟨h _ _ c.1,c.2⟩
 | either k=>exact ⟨c.1,h _ _ c.2.1,h _ _ c.2.2⟩
 | guard a b k=>exact ⟨c.1,h _ _ c.2.1,h _ _ c.2.2⟩
 | settle=>exact ⟨c.1,h _ _ c.2⟩
 | wait=>trivial
 | throw a b=>trivial
 | lay=>exact c
 | _=>exact h _ _ c
section
variable {S:List Rw}{l:List (List Rw)}{f:Nat}
theorem yFU:zo S 0=none:=by
 cases S<;>rfl
theorem Pos.st:∀ {l:List _}{f:Nat},(∀ S∈l,chk S=true)->Pos l f f none
 | [],_,_=>⟨rfl,rfl⟩
 | S::l,f,H=>.inl ⟨0,by
   have:=H S mem_cons_self
   unfold chk at this
   rw [Bool.and_eq_true_iff] at this
   exact of_decide_eq_true this.1,rfl,by unfold zR;rw [yFU];rfl⟩
theorem yov (H:∀ S∈l,chk S=true) {k:Nat}(c:k<=S.length):Pos (S::l) f (f+k) (zR S f k):=by
 by_cases e:k<S.length
 .exact .inl ⟨k,e,rfl,rfl⟩
 .have:k=S.length:=by omega
  subst this
  refine .inr ?_
  have a:∀ S i z,(zn i z S).length=S.length:=fun S=>by
   induction S with
   | nil=>intro _ _;rfl
   | cons r S ih=>intro i z;show (zn _ _ S).length+1=_;rw [ih];rfl
  have b:zR S f S.length=none:=by
   unfold zR zo
   rw [getElem?_eq_none (by rw [a];omega)]
   rfl
  rw [b]
  exact Pos.st H
theorem ywy (H:∀ S∈l,chk S=true) {k:Int}{z:Option Nat}(e:tg S k z=true):Pos (S::l) f (f+k).toNat (z.bind fun j=>S[j]?.map (shR f)):=by
 unfold tg at e
 simp only [Bool.and_eq_true_iff,decide_eq_true_eq,beq_iff_eq] at e
 have:=yov (f:=f) H e.1.2
 unfold zR at this
 grind
theorem ywz {r:Rw}(e:okR r=true):okR (shR f r)=true:=by
 cases r<;>simp only [shR,okR,Bool.and_eq_true_iff,decide_eq_true_eq] at e ⊢<;>first|exact e|omega|grind
theorem ysr:∀ (l:List (List Rw)) (f t:Nat) (z:Option Rw),(∀ S∈l,chk S=true)->Pos l f t z->f<=t/\(∃ r,(DR l f)[t-f]?=some r/\okR r=true/\cnd (Pos l f) t z r)/\∀ b,z=some b->yhc b=true/\okR b=true/\Pos l f (toB b).toNat none/\t<(toB b).toNat
 | [],f,t,z,_,⟨A,x⟩=>by
  subst A
  exact ⟨Nat.le_refl _,⟨.lay,by rw [sub_self];rfl,rfl,x⟩,fun b e=>by rw [x] at e;cases e⟩
 | S::l,f,t,z,H,.inr p=>by
  obtain ⟨h1,⟨r,h2,y,F⟩,u⟩:=ysr l (f+S.length) t z (fun S h=>H S (mem_cons_of_mem _ h)) p
  refine ⟨by omega,⟨r,?_,y,yvs (fun _ _=>.inr) F⟩,fun b e=>⟨(u b e).1,(u b e).2.1,.inr (u b e).2.2.1,(u b e).2.2.2⟩⟩
  show (S.map (shR f)++DR l (f+S.length))[t-f]?=_
  rw [getElem?_append_right (by rw [length_map];omega),length_map,show t-f-S.length=t-(f+S.length) by omega,h2]
 | S::l,f,t,z,H,.inl ⟨i,m,D,g⟩=>by
  have C:=H S mem_cons_self
  have o:=fun S h=>H S (mem_cons_of_mem _ h)
  unfold chk at C
  rw [Bool.and_eq_true_iff] at C
  have c:=List.all_eq_true.mp C.2 i (List.mem_range.mpr m)
  rw [Bool.and_eq_true_iff] at c
  obtain ⟨v,d⟩:=c
  rw [List.getElem?_eq_getElem m] at v
  rw [Bool.and_eq_true_iff] at v
  obtain ⟨o1,o2⟩:=v
  subst D
  have N:zo S (i+1)=zo S i->Pos (S::l) f (f+i+1) z:=fun e=>by
   have:=yov (f:=f) (k:=i+1) o m
   unfold zR at this
   rw [e] at this
   rw [g]
   exact this
  have T:∀ {k:Int},tg S k (zo S i)=true->Pos (S::l) f ((f:Int)+k).toNat z:=fun e=>by rw [g];exact ywy o e
  have w:∀ {k:Int},tg S k none=true->Pos (S::l) f ((f:Int)+k).toNat none:=fun e=>ywy o e
  have B:∀ {b:Rw},S[i]=b->zo S (i+1)=some i->Pos (S::l) f (f+i+1) (some (shR f b)):=fun E e=>by
   have:=yov (f:=f) (k:=i+1) o m
   unfold zR at this
   rw [e,bind_some,List.getElem?_eq_getElem m,E] at this
   exact this
  refine ⟨by omega,⟨shR f S[i],?_,ywz o1,?_⟩,fun b e=>?_⟩
  .show (S.map (shR f)++DR l (f+S.length))[f+i-f]?=_
   rw [getElem?_append_left (by rw [length_map];omega),getElem?_map,show f+i-f=i by omega,List.getElem?_eq_getElem m]
   rfl
  .generalize G:S[i]=r at *
   cases r with
   | unl s k =>
    simp only [ckR,Bool.and_eq_true_iff,beq_iff_eq,decide_eq_true_eq] at o2
    refine ⟨N o2.1.1,T o2.1.2,?_⟩
    show f+i<((f:Int)+k).toNat
    omega
   | jump k =>
    simp only [ckR,Bool.and_eq_true_iff,decide_eq_true_eq] at o2
    refine ⟨T o2.1,?_⟩
    show f+i<((f:Int)+k).toNat
    omega
   | either k =>
    simp only [ckR,Bool.and_eq_true_iff,beq_iff_eq] at o2
    exact ⟨by rw [g];unfold zR;rw [o2.1.1];rfl,B rfl o2.1.2,w o2.2⟩
   | guard a b k =>
    simp only [ckR,Bool.and_eq_true_iff,beq_iff_eq] at o2
    exact ⟨by rw [g];unfold zR;rw [o2.1.1];rfl,B rfl o2.1.2,w o2.2⟩
   | settle =>
    simp only [ckR,Bool.and_eq_true_iff,beq_iff_eq] at o2
    have p:=yov (f:=f) (k:=i+1) o m
    unfold zR at p
    rw [o2.2] at p
    refine ⟨fun e=>?_,p⟩
    obtain ⟨j,n⟩:=Option.isSome_iff_exists.mp o2.1
    rw [n] at d
    rw [e] at g
    unfold zR at g
    rw [n,bind_some] at g
    dsimp only at d
    cases q:S[j]? with
    | none=>rw [q] at d;cases d
    | some b=>rw [q] at g;cases g
   | wait=>trivial
   | throw a b=>trivial
   | lay=>cases o2
   | _=>exact N (by simpa [ckR] using o2)
  .rw [g] at e
   unfold zR at e
   cases n:zo S i with
   | none=>rw [n] at e;cases e
   | some j =>
    rw [n,bind_some] at e
    rw [n] at d
    dsimp only at d
    cases q:S[j]? with
    | none=>rw [q] at e;cases e
    | some b' =>
     rw [q] at e d
     cases e
     simp only [Bool.and_eq_true_iff,decide_eq_true_eq] at d
     refine ⟨?_,ywz d.1.1.2,?_,?_⟩
     .revert d
      cases b'<;>simp [yhc,shR]
     .have:=w d.1.2
      revert this d
      cases b'<;>simp [yhc,shR,toB]
     .revert d
      cases b'<;>simp [yhc,shR,toB]<;>omega
end
theorem ywA:∀ {l:List _}{f:Nat},(∀ S∈l,∀ r∈S,yzC r)->∀ r∈DR l f,yzC r
 | [],_,_,r,h=>by rw [List.mem_singleton.mp h];trivial
 | S::l,f,H,r,h=>by
  rcases List.mem_append.mp h with h|h
  .obtain ⟨q,b,rfl⟩:=List.mem_map.mp h
   have:=H S mem_cons_self q b
   cases q<;>exact this
  .exact ywA (fun S h=>H S (mem_cons_of_mem _ h)) r h
theorem yyY {l:List _}(H:∀ S∈l,chk S=true) (K:∀ S∈l,∀ r∈S,yzC r):ywx (DR l 0) (Pos l 0):=⟨Pos.st H,fun t z p=>(ysr l 0 t z H p).2.1,fun t b p=>(ysr l 0 t _ H p).2.2 b rfl,ywA K⟩
noncomputable def sgR (x y N:Int):Nat->List Rw
 | 0=>[.let_ "a" x,.take "b" "a",.reckon "plus" "b" "b" "h",.put "a" "b"]
 | 1=>[.let_ "c" N]
 | 2=>[.let_ "a" x,.take "b" "a"]
 | 3=>[.let_ "a" x,.put "a" "c"]
 | 4=>[.let_ "a" x,.take "b" "a",.unl "b" 4,.jump 5,.wait]
 | 5=>[.either 9,.let_ "a" x,.take "b" "a",.put "a" "h",.unl "b" 7,.wait,.jump 7,.settle,.jump 10,.let_ "c" N]
 | 6=>[.guard "x" "e" 7,.let_ "a" x,.put "a" "h",.take "b" "a",.throw "x" "c",.settle,.jump 9,.let_ "d" y,.take "f" "d"]
 | 7=>[.let_ "a" x,.take "b" "a",.unl "b" 5,.throw "y" "b",.jump 5]
 | 8=>[.let_ "a" x,.let_ "d" y,.take "b" "a",.take "e" "d",.reckon "less" "f" "b" "e",.unl "f" 9,.put "a" "e",.put "d" "b",.jump 9]
 | _=>[.let_ "a" x,.let_ "d" y,.take "b" "a",.unl "b" 8,.reckon "minus" "b" "b" "h",.put "a" "b",.put "d" "h",.jump 9,.wait]
section
variable {x y N:Int}
theorem yCj:∀ j,j<10->chk (sgR x y N j)=true:=by apply yzB<;>kernel_rfl!
theorem yEG {f:Nat}:∀ j,j<10->cat (pcs x y N j) f=(sgR x y N j).map (shR f):=by
 apply yzB<;>simp [cat,pcs,sgR,shR]<;>omega
theorem ywB:∀ j,j<10->lgs (pcs x y N j)<=10/\(pcs x y N j).length<=6/\(pcs x y N j).length≠0:=by apply yzB<;>exact ⟨of_decide_eq_true (rfl),of_decide_eq_true (rfl),of_decide_eq_true (rfl)⟩
end
theorem yss:∀ {a b:List Pc}{f:Int},cat (a++b) f=cat a f++cat b (f+(cat a f).length)
 | [],b,f=>by simp [cat]
 | p::a,b,f=>by
  show p.2 f++cat (a++b) _=p.2 f++cat a _++_
  rw [yss,append_assoc,show cat _ f=p.2 f++cat a _ from rfl,length_append,Int.natCast_add,Int.add_assoc]
structure Pce where
 j:Nat
 x:Int
 y:Int
 N:Int
structure Pce.Ok (p:Pce):Prop where
 j:p.j<10
 x:0<=p.x/\p.x<B64
 y:0<=p.y/\p.y<B64
 N:0<=p.N/\p.N<B64
def Pce.pc (p:Pce):List Pc:=pcs p.x p.y p.N p.j
def Pce.sg (p:Pce):List Rw:=sgR p.x p.y p.N p.j
def Pce.tx (p:Pce):Str:=pcS ("let a "++tI p.x) ("let d "++tI p.y) (tI p.N) p.j
def dSg (ps:List Pce):List (List Rw):=[.let_ "h" 1]::ps.map Pce.sg
def dTx (ps:List Pce):Str:=Str.join " ; " ("let h 1"::ps.map Pce.tx)
theorem yCk:∀ {ps:List Pce}{f:Nat},(∀ p∈ps,p.Ok)->cat (ps.flatMap Pce.pc) f++[Rw.lay]=DR (ps.map Pce.sg) f
 | [],_,_=>rfl
 | p::ps,f,H=>by
  have P:=H p mem_cons_self
  have e:cat p.pc _=p.sg.map (shR f):=yEG _ P.j
  rw [List.flatMap_cons,yss,e,append_assoc,length_map]
  show _++(cat _ (f+p.sg.length:Nat)++_)=p.sg.map _++DR _ _
  rw [yCk fun p h=>H p (mem_cons_of_mem _ h)]
theorem yst {s:Str}:∀ (ls:List _) a,a≠[]->(∀ l∈ls,l≠[])->Str.join s (Str.join s a::ls.map (Str.join s))=Str.join s (a++ls.flatten)
 | [],a,_,_=>by rw [List.flatten_nil,append_nil];rfl
 | l::ls,a,c,H=>by
  have hl:=H l mem_cons_self
  show Str.join s a++s++Str.join s (Str.join s l::ls.map _)=_
  rw [yst ls l hl fun l h=>H l (mem_cons_of_mem _ h),List.flatten_cons,yhq c fun z=>hl (List.append_eq_nil_iff.mp z).1]
theorem ywC {ps:List Pce}(H:∀ p∈ps,p.Ok) (hl:ps.length<=3):Rdb (dTx ps,DR (dSg ps) 0)/\(dTx ps).length<=69000:=by
 have g:DR (dSg ps) 0=cat (pl (.let_ "h" 1)::ps.flatMap Pce.pc) 0++[Rw.lay]:=by
  show Rw.let_ "h" 1::DR _ 1=Rw.let_ "h" 1::(cat _ ((1:Nat):Int)++[Rw.lay])
  rw [yCk H]
 rw [g]
 have q:∀ ps:List Pce,(∀ p∈ps,p.Ok)->AllOk (ps.flatMap Pce.pc)/\(ps.flatMap Pce.pc).length<=6*ps.length/\lgs (ps.flatMap Pce.pc)<=10*(ps.length:Int):=by
  intro ps
  induction ps with
  | nil=>exact fun _=>⟨.n,Nat.le_refl _,Int.le_refl _⟩
  | cons p ps ih =>
   intro H
   obtain ⟨f,m,o⟩:=ih fun p h=>H p (mem_cons_of_mem _ h)
   have P:=H p mem_cons_self
   obtain ⟨k,s,_⟩:=ywB (x:=p.x) (y:=p.y) (N:=p.N) p.j P.j
   have e:lgs ((p::ps).flatMap Pce.pc)=lgs p.pc+lgs (ps.flatMap Pce.pc):=by unfold lgs;simp_all
   refine ⟨fun q b=>?_,?_,?_⟩
   .rcases List.mem_append.mp b with b|b
    .exact yCi P.x P.y P.N p.j P.j q b
    .exact f q b
   .rw [List.flatMap_cons,length_append,length_cons]
    show (pcs p.x p.y p.N p.j).length+_<=_
    omega
   .rw [e,length_cons]
    show lgs (pcs p.x p.y p.N p.j)+_<=_
    omega
 obtain ⟨i,r,d⟩:=q ps H
 refine yCf (.c (ydF ⟨slH,by decide⟩) i) ?_ (by omega) ?_
 .unfold dTx
  rw [show ps.map Pce.tx=(ps.map fun p=>p.pc.map fun p=>Str.join " " p.1.2).map _ by
   rw [map_map]
   exact List.map_congr_left fun p hp=>yyX _ (H p hp).j]
  refine (yst _ ["let h 1"] (fun z=>by cases z) fun l hl=>?_).trans ?_
  .obtain ⟨p,hp,rfl⟩:=List.mem_map.mp hl
   intro z
   have:=congrArg length z
   rw [length_map] at this
   exact (ywB _ (H p hp).j).2.2 this
  .rw [map_cons,List.map_flatMap]
   rfl
 .unfold lgs at d ⊢
  rw [map_cons,List.sum_cons]
  grind
theorem yCl {x y N:Int}(a:0<=x/\x<B64) (b:0<=y/\y<B64) (c:0<=N/\N<B64):∀ j,j<10->∀ r∈sgR x y N j,yzC r:=by
 apply yzB<;>simp [sgR,yzC,a,b,c]
theorem yyZ {ps:List Pce}(H:∀ p∈ps,p.Ok):ywx (DR (dSg ps) 0) (Pos (dSg ps) 0):=yyY (fun S b=>by
 rcases mem_cons.mp b with rfl|b
 .kernel_rfl!
 .obtain ⟨p,hp,rfl⟩:=List.mem_map.mp b
  exact yCj _ (H p hp).j) fun S b=>by
 rcases mem_cons.mp b with rfl|b
 .intro r c
  rw [List.mem_singleton.mp c]
  exact ⟨by decide,by decide⟩
 .obtain ⟨p,hp,rfl⟩:=List.mem_map.mp b
  exact yCl (H p hp).x (H p hp).y (H p hp).N _ (H p hp).j
def inB (v:Int):Prop:=0<=v/\v<B64
def GV (l:List Int):Prop:=l.length=8/\∀ v∈l,inB v
def DOk (W:Nat) (d:List Key×List PV):Prop:=∃ m:List (Nat×Int×Int),d=(sK m,sA m)/\(m.map (·.1)).Nodup/\∀ p∈m,p.1<W/\inB p.2.1
theorem yEH {w:Str}{x y:Int}:inB (rk w x y):=by
 unfold rk inB
 have:=yry (x+y) (show 0<B64 by decide)
 have:=yry (x-y) (show 0<B64 by decide)
 have:=yry (x*y) (show 0<B64 by decide)
 repeat' split
 all_goals first|assumption|exact ⟨by decide,by decide⟩
theorem in0:inB 0:=⟨by decide,by decide⟩
theorem GV.at_ {l:List Int}(g:GV l) k:inB (l.getD k 0):=by
 by_cases e:k<l.length
 .rw [getD_eq_getElem?_getD,List.getElem?_eq_getElem e]
  exact g.2 _ (getElem_mem e)
 .rw [getD_eq_getElem?_getD,getElem?_eq_none (by omega)]
  exact in0
theorem GV.set {l:List Int}(g:GV l) {k:Nat}{v:Int}(hv:inB v):GV (l.set k v):=⟨by rw [length_set];exact g.1,fun u b=>(List.mem_or_eq_of_mem_set b).elim (g.2 u) fun e=>e ▸ hv⟩
section
variable {W:Nat}{d e:List Key×List PV}{dd:List (List Key×List PV)}
theorem DOk.nil:DOk W ([],[]):=⟨[],rfl,List.nodup_nil,fun _ h=>by cases h⟩
theorem DOk.put (D:DOk W d) {k:Nat}{v:Int}(b:k<W) (hv:inB v):DOk W (ycK d.1 d.2 (.inl k) (.int v)):=by
 obtain ⟨m,rfl,a,f⟩:=D
 refine ⟨ydW m k v 0,yvj rfl,?_,fun p hp=>?_⟩
 .rw [yot]
  split
  .exact a
  .rename_i e
   rw [List.nodup_append]
   exact ⟨a,by simp,fun x c y g z=>by
    rw [List.mem_singleton.mp g] at z
    exact e (z ▸ c)⟩
 .rcases ysj hp with rfl|hp
  .exact ⟨b,hv⟩
  .exact f p hp
theorem DOk.mrg (D:DOk W d) (E:DOk W e):DOk W (yka d.1 d.2 e.1 e.2):=by
 obtain ⟨m,rfl,_,a⟩:=D
 have:∀ m e,(∀ p∈m,p.1<W/\inB p.2.1)->DOk W e->DOk W (yka (sK m) (sA m) e.1 e.2):=by
  intro m
  induction m with
  | nil=>exact fun e _ E=>E
  | cons p m ih=>exact fun e a E=>ih _ (fun p h=>a p (mem_cons_of_mem _ h)) (E.put (a p mem_cons_self).1 (a p mem_cons_self).2)
 exact this m e a E
theorem DOk.len (D:DOk W d):d.1.length<=W:=by
 obtain ⟨m,rfl,c,a⟩:=D
 have:=yjo W _ c fun k b=>by
  obtain ⟨p,hp,rfl⟩:=List.mem_map.mp b
  exact (a p hp).1
 show (m.map _).length<=W
 simp_all
theorem DOk.get (D:DOk W d) {j:Key}{x:PV}(e:yhI d.1 d.2 j=some x):∃ v,x=.int v/\inB v:=by
 obtain ⟨m,rfl,_,a⟩:=D
 have:∀ m,(∀ p∈m,p.1<W/\inB p.2.1)->yhI (sK m) (sA m) j=some x->∃ v,x=.int v/\inB v:=by
  intro m
  induction m with
  | nil=>exact fun _ e=>by cases e
  | cons p m ih =>
   intro a e
   have e:(if (Sum.inl _:Key)=j then some _ else yhI (sK m) _ j)=some x:=e
   split at e
   .cases e;exact ⟨_,rfl,(a p mem_cons_self).2⟩
   .exact ih (fun p h=>a p (mem_cons_of_mem _ h)) e
 exact this m a e
theorem ywD (H:∀ d∈dd,DOk W d) {j:Key}:∀ k,yws dd j k=.non\/∃ v,yws dd j k=.int v/\inB v
 | 0=>.inl rfl
 | k+1=>by
  unfold yws
  split
  .rename_i d b
   split
   .rename_i x a
    exact .inr ((H d (mem_of_getElem? b)).get a)
   .exact ywD H k
  .exact .inl rfl
theorem ysu:∀ m,yqW (sK m)=some (m.map fun p=>(p.1:Int))
 | []=>rfl
 | p::m=>by
  show (yqW (sK m)).map _=_
  rw [ysu m]
  rfl
theorem yow:∀ {l:List _}{p:Int×PV},p∈yng l->p∈l
 | q::l,p,hp=>by
  have a:∀ l,p∈yqV q l->p=q\/p∈l:=by
   intro l
   induction l with
   | nil=>exact fun h=>.inl (List.mem_singleton.mp h)
   | cons r l ih =>
    intro h
    unfold yqV at h
    split at h
    .simp_all
    .rcases mem_cons.mp h with e|h
     .simp_all
     .exact (ih h).imp id (mem_cons_of_mem _)
  rcases a _ hp with rfl|h
  .exact mem_cons_self
  .exact mem_cons_of_mem _ (yow h)
theorem yox:∀ l,(yng l).length=l.length
 | []=>rfl
 | q::l=>by
  have a:∀ l,(yqV q l).length=l.length+1:=by
   intro l
   induction l with
   | nil=>rfl
   | cons r l ih =>
    unfold yqV
    split
    .rfl
    simp_all
  show (yqV q _).length=_
  rw [a,yox l]
  rfl
theorem ysv {m:List _}(b:m.length<4):∃ ls:List _,sortI (sK m) (sA m)=some (ls.map ycc)/\(∀ p∈ls,∃ q∈m,p=(q.1,q.2.1))/\ls.length=m.length:=by
 have z:∀ m:List _,(m.map fun p=>(p.1:Int)).zip (sA m)=m.map fun p=>((p.1:Int),PV.int p.2.1):=by
  intro m
  induction m with
  | nil=>rfl
  | cons p m ih=>show _::(m.map _).zip (sA m)=_;rw [ih];rfl
 have f:∀ l:List _,(∀ p∈l,∃ q∈m,p=((q.1:Int),PV.int q.2.1))->∃ ls:List _,(l.map fun p=>PV.tup [.int p.1,p.2])=ls.map ycc/\∀ p∈ls,∃ q∈m,p=(q.1,q.2.1):=by
  intro l
  induction l with
  | nil=>exact fun _=>⟨[],rfl,fun _ h=>by cases h⟩
  | cons p l ih =>
   intro H
   obtain ⟨ls,e,k⟩:=ih fun p h=>H p (mem_cons_of_mem _ h)
   obtain ⟨q,a,rfl⟩:=H p mem_cons_self
   refine ⟨(q.1,q.2.1)::ls,by rw [map_cons,e];rfl,fun p hp=>?_⟩
   rcases mem_cons.mp hp with rfl|hp
   .exact ⟨q,a,rfl⟩
   .exact k p hp
 obtain ⟨ls,e,k⟩:=f _ fun p hp=>by
  obtain ⟨q,a,e⟩:=List.mem_map.mp (yow hp)
  exact ⟨q,a,e.symm⟩
 refine ⟨ls,?_,k,by have:=congrArg length e;rw [length_map,length_map,yox,length_map] at this;exact this.symm⟩
 unfold sortI
 rw [ysu]
 dsimp only
 rw [if_pos (by rw [length_map];omega),z,e]
end
def ZS (z:Option Rw) (sd:List (Rw×List Int)):Prop:=match z with|none=>sd=[]|some b=>∃ q,sd=[(b,q)]/\GV q
structure RW (W:Nat) (rws:List Rw) (P:Nat->Option Rw->Prop) (s:RS):Prop where
 ps:∃ z,P s.t z/\ZS z s.sd
 hs:GV s.hs
 dd:∀ d∈s.dd,DOk W d
 ln:s.dd.length=s.sd.length+1
section
variable {W:Nat}{rws:List Rw}{P:Nat->Option Rw->Prop}{s:RS}
theorem RW.ok (G:ywx rws P) (R:RW W rws P s) (k:W<=16):okS s=true:=by
 obtain ⟨z,hp,hz⟩:=R.ps
 unfold okS
 simp only [and_eq_true,beq_iff_eq,decide_eq_true_eq,List.all_eq_true]
 have c:∀ d∈s.dd,d.1.length<400:=fun d h=>by have:=(R.dd d h).len;omega
 cases z with
 | none =>
  have e:=hz
  rw [e]
  exact ⟨⟨⟨⟨R.hs.1,by rw [R.ln,e]⟩,by decide⟩,fun _ h=>by cases h⟩,c⟩
 | some b =>
  obtain ⟨q,e,i⟩:=hz
  obtain ⟨j,f,_⟩:=G.zz _ _ hp
  rw [e]
  exact ⟨⟨⟨⟨R.hs.1,by rw [R.ln,e]⟩,by show 1<90;decide⟩,fun x g=>by rw [List.mem_singleton.mp g];exact ⟨⟨j,f⟩,i.1⟩⟩,c⟩
theorem RW.start (G:ywx rws P) {bf:List Int}(g:GV bf):RW W rws P (S0 bf):=⟨⟨none,G.st,rfl⟩,g,fun d h=>by rw [List.mem_singleton.mp h];exact .nil,rfl⟩
end
section
variable {W:Nat}{rws:List Rw}{P:Nat->Option Rw->Prop}{s:RS}{r:Rw}{z:Option Rw}
theorem yza (b:1<=W) (x:Int):∃ n:Nat,x%W=n/\n<W:=⟨(x%W).toNat,by have:=Int.emod_nonneg x (show (W:Int)≠0 by omega);omega,by have:=Int.emod_lt_of_pos x (show (0:Int)<W by omega);omega⟩
theorem RW.go (G:ywx rws P) (R:RW W rws P s) (h1:1<=W) (M:W<=16) (hp:P s.t z) (hz:ZS z s.sd) (N:rws[s.t]?=some r) (B:okR r=true) (c:cnd P s.t z r) (u:yhd W s r=false):∃ s',ypi W r s=some s'/\RW W rws P s'/\s'.sn=s.sn/\s.t<s'.t:=by
 have A:(okR r && okS s)=true:=by rw [B,R.ok G M];rfl
 have E:∀ {g:Rw->List Int->List Int},(∀ b q,GV q->GV (g b q))->¬tkL s.sd r s.sd.length=0->∃ s',yjn s r g=some s'/\RW W rws P s'/\s'.sn=s.sn/\s.t<s'.t:=fun {g} J O=>by
  obtain ⟨L,F⟩:∃ L,tkL s.sd r s.sd.length=L+1:=⟨tkL s.sd r s.sd.length-1,by omega⟩
  obtain ⟨x,m,_⟩:=ykt F
  cases z with
  | none=>rw [show s.sd=[] from hz] at m;cases m
  | some b =>
   obtain ⟨q,e,C⟩:=hz
   have l0:L=0:=by
    have:=(List.getElem?_eq_some_iff.mp m).1
    rw [e] at this
    have:L<1:=this
    omega
   subst l0
   have K:x=(b,q):=by rw [e] at m;cases m;rfl
   subst K
   have l:=R.ln
   rw [e] at l
   have l:s.dd.length=2:=l
   refine ⟨⟨(toB b).toNat,g b q,s.sd.take 0,s.dd.take 1,s.sn⟩,?_,⟨⟨none,(G.zz _ _ hp).2.2.1,rfl⟩,J b q C,fun d i=>R.dd d (List.mem_of_mem_take i),?_⟩,rfl,(G.zz _ _ hp).2.2.2⟩
   .unfold yjn
    rw [F]
    dsimp only
    rw [m]
   .show (s.dd.take 1).length=0+1
    rw [length_take]
    omega
 unfold ypi
 rw [if_pos A]
 cases r with
 | let_ a n=>exact ⟨_,rfl,⟨⟨z,c,hz⟩,R.hs.set (G.lt _ (mem_of_getElem? N)),R.dd,R.ln⟩,rfl,Nat.lt_succ_self _⟩
 | take a q =>
  dsimp only
  rcases ywD R.dd (j:=.inl (s.hs.getD (sx q) 0%(W:Nat))) s.dd.length with e|⟨v,e,hv⟩
  .have:isN (yrR s W q)=false:=u
   unfold yrR at this
   rw [e] at this
   cases this
  .have e:yrR s W q=.int v:=e
   rw [e]
   exact ⟨_,rfl,⟨⟨z,c,hz⟩,R.hs.set hv,R.dd,R.ln⟩,rfl,Nat.lt_succ_self _⟩
 | put p q =>
  obtain ⟨n,en,I⟩:=yza h1 (s.hs.getD (sx p) 0)
  have w:s.dd≠[]:=fun e=>by have:=R.ln;rw [e] at this;simp at this
  refine ⟨_,rfl,⟨⟨z,c,hz⟩,R.hs,?_,?_⟩,rfl,Nat.lt_succ_self _⟩
  .show ∀ d∈ygQ s.dd _ _,DOk W d
   unfold ygQ
   rw [List.getLast?_eq_some_getLast w,en]
   intro d i
   rcases List.mem_append.mp i with i|i
   .exact R.dd d (List.dropLast_subset _ i)
   .rw [List.mem_singleton.mp i]
    exact (R.dd _ (List.getLast_mem w)).put I (R.hs.at_ _)
  .show (ygQ s.dd _ _).length=_
   unfold ygQ
   rw [List.getLast?_eq_some_getLast w]
   have:=R.ln
   simp only [length_append,List.length_dropLast,List.length_singleton]
   show _=s.sd.length+1
   omega
 | unl a k =>
  refine ⟨_,rfl,⟨⟨z,?_,hz⟩,R.hs,R.dd,R.ln⟩,rfl,?_⟩
  .show P (if _ then _ else _) z
   split
   .exact c.2.1
   .exact c.1
  .show s.t<if _ then _ else _
   split
   .exact c.2.2
   .exact Nat.lt_succ_self _
 | jump k=>exact ⟨_,rfl,⟨⟨z,c.1,hz⟩,R.hs,R.dd,R.ln⟩,rfl,c.2⟩
 | either k =>
  obtain ⟨rfl,o,_⟩:=c
  have e:s.sd=[]:=hz
  refine ⟨_,rfl,⟨⟨some (.either k),o,s.hs,?_,R.hs⟩,R.hs,?_,?_⟩,rfl,Nat.lt_succ_self _⟩
  .show s.sd++_=_
   rw [e];rfl
  .intro d i
   rcases List.mem_append.mp i with i|i
   .exact R.dd d i
   .rw [List.mem_singleton.mp i];exact .nil
  .show (s.dd++_).length=(s.sd++_).length+1
   rw [length_append,length_append,R.ln];rfl
 | guard a b k =>
  obtain ⟨rfl,o,_⟩:=c
  have e:s.sd=[]:=hz
  refine ⟨_,rfl,⟨⟨some (.guard a b k),o,s.hs,?_,R.hs⟩,R.hs,?_,?_⟩,rfl,Nat.lt_succ_self _⟩
  .show s.sd++_=_
   rw [e];rfl
  .intro d i
   rcases List.mem_append.mp i with i|i
   .exact R.dd d i
   .rw [List.mem_singleton.mp i];exact .nil
  .show (s.dd++_).length=(s.sd++_).length+1
   rw [length_append,length_append,R.ln];rfl
 | settle =>
  obtain ⟨H,o⟩:=c
  cases z with
  | none=>exact absurd rfl H
  | some b =>
   obtain ⟨q,e,C⟩:=hz
   have l:=R.ln
   rw [e] at l
   obtain ⟨t,d',ed⟩:∃ t d',s.dd=[t,d']:=by
    match h:s.dd,l with
    | [x,y],_=>exact ⟨x,y,rfl⟩
   have D:=R.dd
   rw [ed] at D
   dsimp only
   rw [if_neg (by rw [e];exact fun z=>by cases z)]
   refine ⟨_,rfl,⟨⟨none,o,?_⟩,R.hs,?_,?_⟩,rfl,Nat.lt_succ_self _⟩
   .show s.sd.dropLast=[]
    rw [e];rfl
   .show ∀ d∈yjm s.dd,DOk W d
    rw [ed]
    intro d i
    rw [List.mem_singleton.mp (show d∈[yka d'.1 d'.2 t.1 t.2] from i)]
    exact (D d' (by simp)).mrg (D t (by simp))
   .show (yjm s.dd).length=s.sd.dropLast.length+1
    rw [ed,e];rfl
 | reckon v a p q =>
  dsimp only
  rw [if_pos (show 0<=s.hs.getD (sx p) 0/\s.hs.getD (sx p) 0<B64 from R.hs.at_ _)]
  exact ⟨_,rfl,⟨⟨z,c,hz⟩,R.hs.set yEH,R.dd,R.ln⟩,rfl,Nat.lt_succ_self _⟩
 | wait=>exact E (fun _ _ g=>g) (by have:=of_decide_eq_false u;omega)
 | throw a b=>exact E (fun _ _ g=>g.set (R.hs.at_ _)) (by have:=of_decide_eq_false u;omega)
 | lay=>cases u
end
structure HW (W:Nat) (x:HD):Prop where
 ds:∀ i,i<x.ds.length->∃ rws P,x.ds[i]?=some (.lst (rws.map yV))/\ywx rws P
 le:x.nth<=x.ds.length
 bf:GV x.bf
 nf:NF W x.s
 due:Due x.ds x.nth x.rows
 run:x.nth<x.ds.length->∃ rws P,x.rows=rws.map yV/\ywx rws P/\RW W rws P x.s
structure St where
 bx:List Int
 sp:List Int
 en:List PV
 xs:List HD
noncomputable def iV (l:List Int):PV:=.lst (l.map .int)
def yFV (e:PV):Prop:=∃ (i j:Int) (k:Str) (ts:List PV) (a b:List (Nat×Int)) (c:List Int),e=.tup [.int i,.int j,.tup (.str k::ts),.lst (a.map ycc),.lst (b.map ycc),iV c]/\∀ t∈ts,(∃ s,t=.str s)\/∃ n,t=.int n
structure SW (W n:Nat) (S:St):Prop where
 b:S.bx.length=W
 p:S.sp.length=W
 bb:∀ v∈S.bx,inB v
 x:∀ x∈S.xs,HW W x
 e:∀ e∈S.en,yFV e
 n:S.en.length<=n
def Turn (W:Nat) (S:St) (i:Nat) (told:PV) (S':St):Prop:=∀ h g as own,HH h g W S.bx S.sp S.en as S.xs own->∃ h' as',yF [.loc g.H,.int (i:Nat)] h=some (told,h')/\HH h' g W S'.bx S'.sp S'.en as' S'.xs own
inductive Tc (S:St) (xs1:List HD) (x:HD) (xs2:List HD):PV->St->Prop
 | idle:stX x≠"awake"->Tc S xs1 x xs2 (.tup [.str "idle"]) S
 | gone (s':RS):stX x = "awake"->x.s.t<s'.t->s'.sn=x.s.sn->Tc S xs1 x xs2 (.tup [.str "gone",.int (x.s.t:Nat)]) ⟨S.bx,S.sp,S.en,xs1++{ x with s:=s' }::xs2⟩
 | anew:stX x = "awake"->stB x.s.sn S.sp=true->Tc S xs1 x xs2 (.tup [.str "anew",.int (x.s.t:Nat)]) ⟨S.bx,S.sp,S.en,xs1++{ x with sl:=false,s:=S0 x.bf }::xs2⟩
 | seen (k:Nat) (v:Int) (hs:List Int):stX x = "awake"->k<S.sp.length->Tc S xs1 x xs2 (.tup [.str "seen",.int (x.s.t:Nat),.int (k:Nat),.int v]) ⟨S.bx,S.sp,S.en,xs1++{ x with s:=⟨x.s.t+1,hs,x.s.sd,x.s.dd,ydW x.s.sn k v (S.sp.getD k 0)⟩ }::xs2⟩
 | slp:stX x = "awake"->stB x.s.sn S.sp=false->Tc S xs1 x xs2 (.tup [.str "asleep",.int (x.s.t:Nat)]) ⟨S.bx,S.sp,S.en,xs1++{ x with sl:=true }::xs2⟩
 | fell (k:PV) (a rows':List PV):stX x = "awake"->Tc S xs1 x xs2 (.tup [.str "fell",.int (x.s.t:Nat)]) ⟨S.bx,S.sp,S.en++[ypA xs1.length x k a [] x.bf],xs1++{ x with nth:=x.nth+1,rows:=rows',s:=S0 x.bf }::xs2⟩
 | done (lw:List (Nat×Int)) (a rows':List PV) (c:List Int):stX x = "awake"->lw.length<=100->Tc S xs1 x xs2 (.tup [.str "done",.int (x.s.t:Nat)]) ⟨ypz S.bx lw,ygu S.sp lw,S.en++[ypA xs1.length x (.tup [.str "done"]) a (lw.map ycc) c],(xs1++{ x with nth:=x.nth+1,bf:=c,rows:=rows',s:=S0 c }::xs2).map (ycX (ygu S.sp lw))⟩
structure TO (W n:Nat) (S:St) (i:Nat) (told:PV) (S':St):Prop where
 t:Turn W S i told S'
 w:SW W (n+1) S'
 k:∃ (k:Str) (ns:List Int),told=.tup (.str k::ns.map .int)/\(k = "idle"->ns=[]/\S'=S)
 e:∃ l,S'.en=S.en++l
 l:S'.xs.length=S.xs.length
 c:∃ xs1 x xs2,S.xs=xs1++x::xs2/\xs1.length=i/\Tc S xs1 x xs2 told S'
theorem NF0 {W:Nat}{bf:List Int}:NF W (S0 bf):=⟨List.nodup_nil,fun _ h=>(by cases h),by show 0<=900;decide⟩
section
variable {W n i:Nat}{S:St}{x:HD}
theorem HW.next (w:HW W x) (c:x.nth<x.ds.length) {bf:List Int}(g:GV bf):∃ rows',Due x.ds (x.nth+1) rows'/\HW W { x with nth:=x.nth+1,bf:=bf,rows:=rows',s:=S0 bf }:=by
 by_cases e:x.nth+1<x.ds.length
 .obtain ⟨rws,P,d,G⟩:=w.ds _ e
  exact ⟨_,.inl ⟨e,d⟩,w.ds,c,g,NF0,.inl ⟨e,d⟩,fun _=>⟨rws,P,rfl,G,.start G g⟩⟩
 .have b:x.nth+1=x.ds.length:=by omega
  exact ⟨[],.inr ⟨b,rfl⟩,w.ds,c,g,NF0,.inr ⟨b,rfl⟩,fun h=>absurd h e⟩
theorem HW.anew (w:HW W x):HW W { x with sl:=false,s:=S0 x.bf }:=⟨w.ds,w.le,w.bf,NF0,w.due,fun h=>by
 obtain ⟨rws,P,e,G,_⟩:=w.run h
 exact ⟨rws,P,e,G,.start G w.bf⟩⟩
theorem HW.wake (w:HW W x) {sp:List Int}:HW W (ycX sp x):=by
 unfold ycX
 split
 .exact w.anew
 .exact w
theorem yfd {α:Type}{l:List α}{i:Nat}(h:i<l.length):∃ a x b,l=a++x::b/\a.length=i:=⟨l.take i,l[i],l.drop (i+1),by simp_all,by grind⟩
theorem ywE:∀ {l:List _}{bx:List Int},(∀ v∈bx,inB v)->(∀ p∈l,inB p.2)->∀ v∈ypz bx l,inB v
 | [],_,h,_=>h
 | p::l,bx,h,k=>ywE (l:=l) (fun v hv=>(List.mem_or_eq_of_mem_set hv).elim (h v) fun e=>e ▸ k p mem_cons_self) fun p hp=>k p (mem_cons_of_mem _ hp)
theorem yzb (w:SW W n S) (h1:1<=W) (h3:W<=3) (hn:n<900) (hi:i<S.xs.length):∃ A S',TO W n S i A S':=by
 obtain ⟨bx,sp,en,xs⟩:=S
 obtain ⟨rfl,L,wb,Y,we,wn⟩:=w
 dsimp only at *
 obtain ⟨xs1,x,xs2,rfl,rfl⟩:=yfd hi
 have o:=Y x (by simp)
 have upd:∀ {x':HD},HW bx.length x'->∀ y∈xs1++x'::xs2,HW bx.length y:=fun {x'} hx y hy=>by
  rcases List.mem_append.mp hy with z|z
  .exact Y y (mem_append_left _ z)
  .rcases mem_cons.mp z with rfl|z
   .exact hx
   .exact Y y (mem_append_right _ (mem_cons_of_mem _ z))
 have B:∀ {h g J u} {A:PV}{S':St},HH h g bx.length bx sp en J (xs1++x::xs2) u->(∀ as1 a as2,as1.length=xs1.length->HH h g bx.length bx sp en (as1++a::as2) (xs1++x::xs2) u->∃ h' M,yF [.loc g.H,.int (as1.length:Nat)] h=some (A,h')/\HH h' g bx.length S'.bx S'.sp S'.en M S'.xs u)->∃ h' M,yF [.loc g.H,.int (xs1.length:Nat)] h=some (A,h')/\HH h' g bx.length S'.bx S'.sp S'.en M S'.xs u:=fun {h g J u A S'} X k=>by
  obtain ⟨as1,a,as2,rfl,l⟩:=yfd (l:=J) (i:=xs1.length) (by rw [X.ly.len,length_append,length_cons];omega)
  have:=k as1 a as2 l X
  rwa [l] at this
 have sn4:x.s.sn.length<4:=by
  have:=yjo bx.length _ o.nf.nd fun k N=>by
   obtain ⟨p,hp,rfl⟩:=List.mem_map.mp N
   exact o.nf.hb p hp
  rw [length_map] at this
  omega
 by_cases st:stX x = "awake"
 .have v:x.nth<x.ds.length:=by
   have:=o.le
   by_cases e:x.nth=x.ds.length
   .unfold stX at st
    rw [if_pos e] at st
    exact absurd st (by rfl')
   .omega
  have E:x.sl=false:=by
   cases e:x.sl with
   | false=>rfl
   | true =>
    unfold stX at st
    rw [if_neg (by omega),if_pos e] at st
    exact absurd st (by rfl')
  obtain ⟨rws,P,K,G,R⟩:=o.run v
  obtain ⟨z,hp,hz⟩:=R.ps
  obtain ⟨r,T,H,c⟩:=G.nx _ _ hp
  have U:=R.ok G (by omega)
  have C:∀ {x':HD},HW bx.length x'->SW bx.length (n+1) ⟨bx,sp,en,xs1++x'::xs2⟩:=fun hx=>⟨rfl,L,wb,upd hx,we,by show en.length<=n+1;omega⟩
  cases O:yhd bx.length x.s r with
  | false =>
   obtain ⟨s',e2,R',es,tt⟩:=R.go G h1 (by omega) hp hz T H c O
   refine ⟨.tup [.str "gone",.int x.s.t],⟨bx,sp,en,xs1++{ x with s:=s' }::xs2⟩,fun h g J u X=>B X fun as1 a as2 l X=>?_,C ⟨o.ds,o.le,o.bf,?_,o.due,fun _=>⟨rws,P,K,G,R'⟩⟩,⟨"gone",[(x.s.t:Nat)],rfl,fun z=>absurd z (by rfl')⟩,⟨[],by simp⟩,by simp,⟨xs1,x,xs2,rfl,rfl,.gone s' st tt es⟩⟩
   .obtain ⟨h',c',I,D⟩:=yEz X l h1 K v E T U H O e2
    exact ⟨h',_,I,D⟩
   .obtain ⟨a,b,c⟩:=o.nf
    exact ⟨by rw [es];exact a,by rw [es];exact b,by rw [es];exact c⟩
  | true =>
   cases fr:stB x.s.sn sp with
   | true =>
    refine ⟨.tup [.str "anew",.int x.s.t],⟨bx,sp,en,xs1++{ x with sl:=false,s:=S0 x.bf }::xs2⟩,fun h g J u X=>B X fun as1 a as2 l X=>?_,C o.anew,⟨"anew",[(x.s.t:Nat)],rfl,fun z=>absurd z (by rfl')⟩,⟨[],by simp⟩,by simp,⟨xs1,x,xs2,rfl,rfl,.anew st fr⟩⟩
    obtain ⟨h',c',I,D⟩:=yEB X l L h1 K v E o.nf fr T U H O o.due
    exact ⟨h',_,I,D⟩
   | false =>
    obtain ⟨ls,eL,kL,_⟩:=ysv (m:=x.s.sn) sn4
    cases r with
    | take p q =>
     obtain ⟨k,ek,N⟩:=yza h1 (x.s.hs.getD (sx q) 0)
     have hv:inB (bx.getD k 0):=by
      rw [getD_eq_getElem?_getD,List.getElem?_eq_getElem N]
      exact wb _ (getElem_mem N)
     refine ⟨.tup [.str "seen",.int x.s.t,.int (k:Nat),.int (bx.getD k 0)],⟨bx,sp,en,xs1++{ x with s:=⟨x.s.t+1,x.s.hs.set (sx p) (bx.getD k 0),x.s.sd,x.s.dd,ydW x.s.sn k (bx.getD k 0) (sp.getD k 0)⟩ }::xs2⟩,fun h g J u X=>B X fun as1 a as2 l X=>?_,C ⟨o.ds,o.le,o.bf,o.nf.put N (by omega),o.due,fun _=>⟨rws,P,K,G,⟨z,c,hz⟩,R.hs.set hv,R.dd,R.ln⟩⟩,⟨"seen",[(x.s.t:Nat),(k:Nat),bx.getD k 0],rfl,fun z=>absurd z (by rfl')⟩,⟨[],by simp⟩,by simp,⟨xs1,x,xs2,rfl,rfl,.seen k _ _ st (by show k<sp.length;omega)⟩⟩
     obtain ⟨h',I,D⟩:=yEA X l L h1 K v E o.nf fr T U H O ek N
     exact ⟨h',_,I,D⟩
    | wait =>
     refine ⟨.tup [.str "asleep",.int x.s.t],⟨bx,sp,en,xs1++{ x with sl:=true }::xs2⟩,fun h g J u X=>B X fun as1 a as2 l X=>?_,C ⟨o.ds,o.le,o.bf,o.nf,o.due,fun _=>⟨rws,P,K,G,R⟩⟩,⟨"asleep",[(x.s.t:Nat)],rfl,fun z=>absurd z (by rfl')⟩,⟨[],by simp⟩,by simp,⟨xs1,x,xs2,rfl,rfl,.slp st fr⟩⟩
     obtain ⟨h',I,D⟩:=yCa X l L h1 K v E o.nf fr T U O
     exact ⟨h',_,I,D⟩
    | throw p q =>
     obtain ⟨rows',du,wN⟩:=o.next v o.bf
     refine ⟨.tup [.str "fell",.int x.s.t],⟨bx,sp,en++[ypA xs1.length x (.tup [.str "fell",.str p,.int (x.s.hs.getD (sx q) 0)]) (ls.map ycc) [] x.bf],xs1++{ x with nth:=x.nth+1,rows:=rows',s:=S0 x.bf }::xs2⟩,fun h g J u X=>B X fun as1 a as2 l X=>?_,⟨rfl,L,wb,upd wN,fun e F=>?_,by show (en++_).length<=n+1;rw [length_append];show en.length+1<=_;omega⟩,⟨"fell",[(x.s.t:Nat)],rfl,fun z=>absurd z (by rfl')⟩,⟨_,rfl⟩,by simp,⟨xs1,x,xs2,rfl,rfl,.fell _ _ _ st⟩⟩
     .obtain ⟨h',c',I,D⟩:=yEC X l L h1 K v E o.nf fr T U H O eL du (by omega)
      rw [l] at D
      exact ⟨h',_,I,D⟩
     .rcases List.mem_append.mp F with F|F
      .exact we e F
      .rw [List.mem_singleton.mp F]
       exact ⟨_,_,"fell",[.str p,.int _],ls,[],x.bf,rfl,fun t ht=>by simp at ht;rcases ht with rfl|rfl<;>first|exact .inl ⟨_,rfl⟩|exact .inr ⟨_,rfl⟩⟩
    | lay =>
     subst c
     have e0:x.s.sd=[]:=hz
     obtain ⟨d,ed⟩:∃ d,x.s.dd=[d]:=by
      have:=R.ln
      rw [e0] at this
      match h:x.s.dd,this with
      | [d],_=>exact ⟨d,rfl⟩
     obtain ⟨m,rfl,nd,hb⟩:=R.dd d (by rw [ed];simp)
     have ml:m.length<4:=by
      have:=yjo bx.length _ nd fun k N=>by
       obtain ⟨p,hp,rfl⟩:=List.mem_map.mp N
       exact (hb p hp).1
      rw [length_map] at this
      omega
     obtain ⟨lw,eW,kW,lW⟩:=ysv ml
     have Z:∀ p∈lw,p.1<bx.length/\inB p.2:=fun p hp=>by
      obtain ⟨q,hq,rfl⟩:=kW p hp
      exact hb q hq
     obtain ⟨rows',du,wN⟩:=o.next v R.hs
     refine ⟨.tup [.str "done",.int x.s.t],⟨ypz bx lw,ygu sp lw,en++[ypA xs1.length x (.tup [.str "done"]) (ls.map ycc) (lw.map ycc) x.s.hs],(xs1++{ x with nth:=x.nth+1,bf:=x.s.hs,rows:=rows',s:=S0 x.s.hs }::xs2).map (ycX (ygu sp lw))⟩,fun h g J u X=>B X fun as1 a as2 l X=>?_,⟨yor _ _,by rw [yhs];exact L,ywE wb fun p hp=>(Z p hp).2,fun y hy=>?_,fun e F=>?_,by show (en++_).length<=n+1;rw [length_append];show en.length+1<=_;omega⟩,⟨"done",[(x.s.t:Nat)],rfl,fun z=>absurd z (by rfl')⟩,⟨_,rfl⟩,by simp,⟨xs1,x,xs2,rfl,rfl,.done lw _ _ _ st (by omega)⟩⟩
     .obtain ⟨h',M,I,D,_⟩:=yED X l L h1 K v E o.nf fr T U ed eW (fun p hp=>(Z p hp).1) eL du (by omega) fun y hy=>by
       have:y∈xs1++x::xs2:=by
        rcases List.mem_append.mp hy with z|z
        .exact mem_append_left _ z
        .exact mem_append_right _ (mem_cons_of_mem _ z)
       exact ⟨(Y y this).due,(Y y this).nf⟩
      rw [l] at D
      exact ⟨h',_,I,D⟩
     .obtain ⟨y',hy',e'⟩:=List.mem_map.mp hy
      rw [<- e']
      exact (upd wN y' hy').wake
     .rcases List.mem_append.mp F with F|F
      .exact we e F
      .rw [List.mem_singleton.mp F]
       exact ⟨_,_,"done",[],ls,lw,x.s.hs,rfl,fun t ht=>by cases ht⟩
    | _=>cases O
 .refine ⟨.tup [.str "idle"],⟨bx,sp,en,xs1++x::xs2⟩,fun h g J u X=>B X fun as1 a as2 l X=>?_,⟨rfl,L,wb,Y,we,by show en.length<=n+1;omega⟩,⟨"idle",[],rfl,fun _=>⟨rfl,rfl⟩⟩,⟨[],by simp⟩,rfl,⟨xs1,x,xs2,rfl,rfl,.idle st⟩⟩
  exact ⟨h,_,yEy X l (eq_false st),X⟩
end
noncomputable def mx (c:Int):Int:=c*48271%999999999989
def pN (c:Int):Int:=if mx c/800%4=0 then 0 else if mx c/800%4=1 then 1 else if mx c/800%4=2 then mx c/160%5 else c%18446744073709551616
def pce (c:Int):Pce:=⟨(mx c%10).toNat,mx c/10%4,mx c/40%4,pN c⟩
theorem ywF c:(pce c).Ok:=by
 refine ⟨by show (mx c%10).toNat<10;omega,?_,?_,?_⟩
 .show 0<=mx c/10%4/\mx c/10%4<B64
  unfold B64;omega
 .show 0<=mx c/40%4/\mx c/40%4<B64
  unfold B64;omega
 .show 0<=pN c/\pN c<B64
  unfold pN B64
  grind
section
variable {h:AH}{ns:List Int}
theorem yEI {n:Int}(a:0<=n/\n<B64):n.natAbs.log2<1920:=by
 by_cases hz:n.natAbs=0
 .rw [hz];decide
 .rw [Nat.log2_lt hz]
  grind
theorem yzc {n:Int}(b:0<=n/\n<B64):yiy [.int n] h=some (.str (tI n),h):=by rw [yqK,if_pos (yEI b)]
theorem yzd {n:Int}(b:0<=n/\n<B64):(tI n).length<=20:=str_len b.1 (by decide) (Int.lt_trans b.2 yrz)
theorem yCm {a b:Str}(l:a.length+b.length<=100000):ycQ (.str a) (.str b) h=some (.str (a++b),h):=by rw [yqJ,if_pos l]
theorem ydl {xs:List PV}{i:Nat}{x:PV}(e:xs[i]?=some x):ybC (.lst xs) (.int i) h=some (x,h):=by
 unfold ybC
 simp only [ydi e]
theorem yvt {c:Int}:ydf [.int c] h=some (.str (pce c).tx,h):=by
 obtain ⟨n,d,f,g⟩:=ywF c
 have s1:∀ h,yiy [.int (mx c/10%4)] h=some (.str (tI (mx c/10%4)),h):=fun h=>yzc d
 have s2:∀ h,yiy [.int (mx c/40%4)] h=some (.str (tI (mx c/40%4)),h):=fun h=>yzc f
 have s3:∀ h,yiy [.int (pN c)] h=some (.str (tI (pN c)),h):=fun h=>yzc g
 have i:(tI (mx c/10%4)).length<=20:=yzd d
 have m:(tI (mx c/40%4)).length<=20:=yzd f
 have r:(tI (pN c)).length<=20:=yzd g
 have p:∀ h,ybC (.lst [.int 0,.int 1,.int (mx c/160%5),.int (c%18446744073709551616)]) (.int (mx c/800%4)) h=some (.int (pN c),h):=fun h=>by
  unfold pN
  have:mx c/800%4=0\/mx c/800%4=1\/mx c/800%4=2\/mx c/800%4=3:=by omega
  rcases this with e|e|e|e<;>rw [e]<;>rfl
 have l:PX.MulOk c 48271=True:=ylv (by decide) (by decide)
 have k:c*48271%999999999989=mx c:=rfl
 have ix:∀ (A D N:Str) h,ybC (.lst ((List.range 10).map fun j=>PV.str (pcS A D N j))) (.int (mx c%10)) h=some (.str (pcS A D N (mx c%10).toNat),h):=fun A D N h=>by
  obtain ⟨j,q,o⟩:∃ j:Nat,mx c%10=(j:Nat)/\j<10:=⟨(mx c%10).toNat,by omega,by omega⟩
  rw [q,Int.toNat_natCast]
  exact ydl (by rw [getElem?_map,List.getElem?_range o];rfl)
 have tx:(pce c).tx=pcS ("let a "++tI (mx c/10%4)) ("let d "++tI (mx c/40%4)) (tI (pN c)) (mx c%10).toNat:=rfl
 rw [tx]
 clear tx n d f g
 have s:("let a "++tI (mx c/10%4)).length<=26:=by rw [ydx,show ("let a ":Str).length=6 by rfl'];omega
 have v:("let d "++tI (mx c/40%4)).length<=26:=by rw [ydx,show ("let d ":Str).length=6 by rfl'];omega
 have a1:∀ h,ycQ (.str "let a ") (.str (tI (mx c/10%4))) h=some (.str ("let a "++tI (mx c/10%4)),h):=fun h=>yCm (by rw [<- ydx];omega)
 have a2:∀ h,ycQ (.str "let d ") (.str (tI (mx c/40%4))) h=some (.str ("let d "++tI (mx c/40%4)),h):=fun h=>yCm (by rw [<- ydx];omega)
 generalize "let a "++tI (mx c/10%4)=A at *
 generalize "let d "++tI (mx c/40%4)=D at *
 generalize tI (pN c)=N at *
 clear i m
 have k1:("either ( ":Str).length<=99:=by rfl'
 have k2:(" ; take b a ; put a h ; if b ( wait ) else ( ) ) or":Str).length<=99:=by rfl'
 have k3:(" ( let c ":Str).length<=99:=by rfl'
 have t:("try ( ":Str).length<=99:=by rfl'
 have k5:(" ; put a h ; take b a ; throw x c ) on x e ( ":Str).length<=99:=by rfl'
 have u:(" ; ":Str).length<=99:=by rfl'
 unfold ydf
 rw [yo]
 show ob (yl _ _ [.val (.int c),.no,.no,.no,.no,.no,.no] h) fnK=_
 replace ix:=ix A D N h
 simp_all? only [l,k,s1,a1,s2,a2,p,s3,-yqJ,-yeA,-yqK]
 clear a1 a2 s1 s2
 simp_all? only [ybL,-yeA]
 repeat first|rw [if_pos (by first|omega|(simp only [ydx,length_append,length_cons,length_nil];omega))]|(rw [yqU rfl];simp_all? only [ybL,-yeA])
 show ob (ybC (PV.lst ((List.range 10).map fun j=>PV.str (pcS A D N j))) (.int (mx c%10)) h) _=_
 rw [ix]
 rfl
theorem yoy:∀ l,(l.map (·.length)).sum<=(Str.join " ; " l).length
 | []=>zero_le _
 | [x]=>by simp [Str.join]
 | x::y::r=>by
  have:=yoy (y::r)
  show _<=(x++" ; "++Str.join " ; " _).length
  rw [ydx,ydx,map_cons,List.sum_cons]
  omega
noncomputable def cells (c:Int):List Int:=[c,c*69621%2147483629,c*40692%2147483399]
def ygj (c:Int):List Pce:=((cells c).take (1+c%3).toNat).map pce
theorem ysw {c:Int}:(∀ p∈ygj c,p.Ok)/\(ygj c).length<=3:=by
 constructor
 .intro p hp
  obtain ⟨c,_,rfl⟩:=List.mem_map.mp hp
  exact ywF c
 .unfold ygj
  rw [length_map,length_take]
  show min _ 3<=3
  omega
theorem yze {c:Int}:yet [.int c] h=some (.str (dTx (ygj c)),h):=by
 have d:PX.MulOk c 69621=True:=ylv (by decide) (by decide)
 have f:PX.MulOk c 40692=True:=ylv (by decide) (by decide)
 have l:ymX [PV.int c,.int (c*69621%2147483629),.int (c*40692%2147483399)] none (some (1+c%3))=((cells c).take (1+c%3).toNat).map .int:=by
  have:c%3=0\/c%3=1\/c%3=2:=by omega
  rcases this with e|e|e<;>rw [e]<;>rfl
 have m:∀ ρ,ygW _ (yfP [] ρ) (((cells c).take _).map .int) h=some (((ygj c).map Pce.tx).map .str,h):=fun ρ=>by
  unfold ygj
  rw [map_map,map_map]
  refine ydU _ _ fun c _=>?_
  show yW ydf (yc (yd 0) (yh)) [.val (.int c)] h=_
  have:=yvt (h:=h) (c:=c)
  simp_all? only [this]
  rfl
 have j:((((cells c).take (1+c%3).toNat).map PV.int).length<=100000)=True:=eq_true (by rw [length_map,length_take];show min _ 3<=_;omega)
 obtain ⟨d1,d2⟩:=ysw (c:=c)
 have i:∀ h,yoW _ _ h=some (.str (dTx (ygj c)),h):=fun h=>yBG (yiU _) (by rfl') (Nat.le_trans (Nat.add_le_add (Nat.le_trans (yoy _) (ywC d1 d2).2) (show _<=4 by grind)) (by decide))
 have k:∀ h,ysO (.lst [.str "let h 1"]) (.lst (((ygj c).map Pce.tx).map .str)) h=some (.lst ((("let h 1":Str)::(ygj c).map Pce.tx).map .str),h):=fun h=>by
  rw [yxP,if_pos (by rw [length_map,length_map];show 1+_<=_;omega)]
  rfl
 unfold yet
 rw [yo]
 show ob (yl _ _ [.val (.int c),.no] h) fnK=_
 have g:xIL (xFz (yqk yoU (yd 1) (ydT) (ygU (xOp yfi (xC (.int 1)) (xOp oMod (yd 0) (xC (.int 3))))))) [.val (.int c),.val (.lst [.int c,.int (c*69621%2147483629),.int (c*40692%2147483399)])] h=some (((cells c).take (1+c%3).toNat).map .int,h):=by
  unfold xIL
  simp_all? only [l]
 simp_all? only [d,f,g,j,m,k,i,-yxP]
end
theorem yvu cs c b:ymX (cs.map PV.int) c b=(ymX cs c b).map .int:=by
 unfold ymX
 rw [length_map,List.map_take,List.map_drop]
theorem yCn {α:Type}(xs:List α) (k:Nat):ymX xs none (some k)=xs.take k:=by
 unfold ymX
 simp only [HT.sIx_nat,HT.sIx_none,List.drop_zero,Nat.sub_zero]
 grind
theorem yCo {α:Type}(xs:List α) (k:Nat):ymX xs (some k) none=xs.drop k:=by
 unfold ymX
 simp only [HT.sIx_nat,HT.sIx_none]
 by_cases e:k<=xs.length
 .rw [Nat.min_eq_left e,List.take_of_length_le (by simp_all)]
 .rw [Nat.min_eq_right (by omega),List.drop_of_length_le (by omega),List.drop_of_length_le (by omega)]
  exact List.take_nil
section
variable {h:AH}{ns:List Int}
theorem ypo k:ycv [.scr ns,.int (k:Nat)] h=some (.int (ns.getD k 0),h):=by
 unfold ycv
 rw [yo]
 show ob (yl _ _ [.val _,.val _] h) fnK=_
 by_cases e:k<ns.length
 .have b:((k:Int)<ns.length)=True:=eq_true (by omega)
  have c:atI ns k=some (ns.getD k 0):=ydi (by simp_all)
  have d:ybC (.scr ns) (.int k) h=some (.int (ns.getD k 0),h):=by
   unfold ybC
   simp only [c]
  simp_all? only [b,d,c]
 .have b:((k:Int)<ns.length)=False:=eq_false (by omega)
  rw [show ns.getD k 0=0 by simp_all]
  simp_all? only [b]
noncomputable def bW (H:Int):Nat:=(2+H%2).toNat
def bxV (H:Int):List Int:=(List.range (bW H)).map fun k:Nat=>H/12/((k:Int)+1)%3
theorem yoz {H:Int}:(bxV H).length=bW H/\1<=bW H/\bW H<=3/\∀ v∈bxV H,inB v:=by
 refine ⟨by unfold bxV;simp,by unfold bW;omega,by unfold bW;omega,fun v hv=>?_⟩
 obtain ⟨k,_,rfl⟩:=List.mem_map.mp hv
 unfold inB B64
 omega
theorem yvv {H:Int}:ydL [.int H] h=some (.lst ((bxV H).map .int),h):=by
 have c:yc (xOp yfi (xC (.int 2)) (xOp oMod (yd 0) (xC (.int 2)))) yh [.val (.int H)] h=some ([.int _],h):=rfl
 have g:yiT _ _ h=some (ygJ 0 (bW H),h):=yjb c (by omega) (by omega)
 have f:((ygJ 0 (bW H)).length<=100000)=True:=eq_true (by have:=yoz (H:=H).2.2.1;simp [ygJ];omega)
 have e:ygW (xOp oMod (xOp oDiv (xOp oDiv (yd 1) (xC (.int 12))) (xOp yfi (yd 0) (xC (.int 1)))) (xC (.int 3))) (yfP [0] [.val (.int H)]) (ygJ 0 (bW H)) h=some ((bxV H).map .int,h):=by
  unfold ygJ bxV
  rw [map_map]
  refine (ydU _ _ fun k b=>?_)
  have b:=List.mem_range.mp b
  have:=yoz (H:=H).2.2.1
  have d:(0<(k:Int)+1/\(k:Int)+1<1073741824)=True:=eq_true (by omega)
  show xOp oMod _ _ [.val _,.val _] h=_
  rw [zero_add]
  simp_all? only [d]
  rfl
 unfold ydL
 rw [yo]
 show ob (yQ _ [.val _] h) fnK=_
 simp_all? only [g,f,e]
noncomputable def nV (l:List Nat):List PV:=l.map fun i:Nat=>.int (i:Nat)
def tuS (ns:List Int) (m:Nat) (is:List Nat) (v3 v4 v5 v6:PVar):PSt:=[.val (.scr ns),.val (.int (m:Nat)),.own (.lst (nV is)),v3,v4,v5,v6]
theorem yCp {m:Nat}(h1:1<=m) (q:m<=4) {v3:PVar}{r:Bool}:∀ (l:List PV) b (M:Int) (v6:PVar),b.length+l.length<=1000->(∀ i∈b,i<m)->∃ c f d,ydZ (yp 6) tuB l (tuS ns m b v3 (.val (.int M)) (.val (.bl r)) v6) h=some (.nx (tuS ns m c v3 (.val (.int f)) (.val (.bl r)) d),h)/\c.length=b.length+l.length/\∀ i∈c,i<m
 | [],b,M,v6,_,H=>⟨b,M,v6,rfl,rfl,H⟩
 | x::l,b,M,v6,hl,H=>by
  obtain ⟨k,ek,t⟩:=yza h1 M
  obtain ⟨c,f,d,g,o,n⟩:=yCp h1 q l (b++[k]) _ (.val x) (by grind) fun i e=>by
   rcases List.mem_append.mp e with e|e
   .exact H i e
   simp_all
  refine ⟨c,f,d,?_,by rw [o,length_append,length_cons,length_nil,length_cons];omega,n⟩
  have s:tuB (tuS ns m b v3 (.val (.int M)) (.val (.bl r)) (.val x)) h=some (.nx (tuS ns m (b++[k]) v3 (.val (.int (if r then M else M/m))) (.val (.bl r)) (.val x)),h):=by
   have p:∀ h,oMod (.int M) (.int (m:Nat)) h=some _:=fun h=>by
    symm
    rw [if_pos (by omega),ek]
   have j:∀ h,oDiv (.int M) (.int (m:Nat)) h=some _:=fun h=>by
    symm
    rw [if_pos (by omega)]
   have a1:yfW 2 (xOp oMod (yd 4) (yd 1)) (tuS ns m b v3 (.val (.int M)) (.val (.bl r)) (.val x)) h=some (.nx (tuS ns m (b++[k]) v3 (.val (.int M)) (.val (.bl r)) (.val x)),h):=by
    rw [yqU rfl]
    unfold tuS
    simp_all? only [p,-yzw]
    rw [if_pos (by unfold nV;grind)]
    unfold nV
    simp_all
   unfold tuB
   rw [yhG,a1,ybL,yoY]
   unfold tuS
   cases r<;>simp_all? only [j,-yzw]<;>rfl
  rw [yiE rfl (s),g]
def tuO:XS:=yl (ybs (xOp oMod (xOp yxG (yd 3) (xC (.int 16807))) (xC (.int 2147483587))) (yp 4)) (yl (ybs (xOp (oEq) (xOp oMod (yd 4) (xC (.int 5))) (xC (.int 0))) (yp 5)) (yl (ybs (xOp oDiv (yd 4) (xC (.int 5))) (yp 4)) (yiS (yiT (yc (xC (.int 6)) (yh))) (yp 6) tuB)))
theorem ywG {m:Nat}(h1:1<=m) (n:m<=4):∀ (l:List Int) d v3 v4 v5 v6,d.length+6*l.length<=900->(∀ i∈d,i<m)->∃ b g k j e,ydZ (yp 3) tuO (l.map .int) (tuS ns m d v3 v4 v5 v6) h=some (.nx (tuS ns m b g k j e),h)/\b.length<=d.length+6*l.length/\∀ i∈b,i<m
 | [],d,v3,v4,v5,v6,_,H=>⟨d,v3,v4,v5,v6,rfl,Nat.le_refl _,H⟩
 | c::l,d,v3,v4,v5,v6,hl,H=>by
  rw [length_cons] at hl
  obtain ⟨f,z,e,w,o,s⟩:=yCp (h:=h) (ns:=ns) (v3:=.val (.int c)) (r:=decide (c*16807%2147483587%5=0)) h1 n [.int 0,.int 1,.int 2,.int 3,.int 4,.int 5] d (c*16807%2147483587/5) v6 (by show _+6<=_;omega) H
  have o:f.length=d.length+6:=o
  obtain ⟨b,x,u,p,t,k1,k2,k3⟩:=ywG h1 n l f _ _ _ e (by omega) s
  refine ⟨b,x,u,p,t,?_,by grind,k3⟩
  have q:PX.MulOk c 16807=True:=ylv (by decide) (by decide)
  have y:∀ ρ,yiT (yc (xC (.int 6)) yh) ρ h=some ([.int 0,.int 1,.int 2,.int 3,.int 4,.int 5],h):=fun ρ=>rfl
  have v:tuO (tuS ns m d (.val (.int c)) v4 v5 v6) h=some (.nx (tuS ns m f (.val (.int c)) (.val (.int z)) (.val (.bl (decide (c*16807%2147483587%5=0)))) e),h):=by
   unfold tuO
   unfold tuS at *
   simp_all? only [q,y,w]
  show ydZ _ _ (PV.int c::l.map _) _ h=_
  rw [yiE rfl (v),k1]
theorem yvw {m:Nat}(h1:1<=m) (e:m<=4):∃ b:List Nat,ydg [.scr ns,.int m] h=some (.lst (nV b),h)/\b.length<=240/\∀ i∈b,i<m:=by
 obtain ⟨b,v3,v4,v5,v6,c,d,f⟩:=ywG h1 e (ns.take 40) [] .no .no .no .no (by grind) fun _ h=>by cases h
 have d:b.length<=240:=by grind
 refine ⟨b,?_,d,f⟩
 have c:ydZ _ tuO _ [.val (.scr ns),.val _,.own (.lst []),.no,.no,.no,.no] h=some _:=c
 have g:xIL (xFz (yqk yoU (yd 0) ydT (ygU (xC (.int 40))))) [.val (.scr ns),.val (.int m),.own (.lst []),.no,.no,.no,.no] h=some ((ns.take 40).map .int,h):=by
  unfold xIL
  symm
  rw [show 40=((40:Nat):Int) from rfl,yCn,List.map_take]
 unfold ydg
 rw [yo]
 show ob (yl _ (yl (yiS _ _ tuO) _) [.val _,.val _,.no,.no,.no,.no,.no] h) fnK=_
 simp_all? only [g,c]
 unfold tuS
 symm
noncomputable def yeB (H:Int):Nat:=(2+H/2%3).toNat
def hcs (ns:List Int):List Int:=ymX ns (some 1) (some 13)
theorem ysx:(hcs ns).length<=12:=by
 unfold hcs ymX
 rw [show 1=((1:Nat):Int) from rfl,show (13:Int)=(13:Nat) from rfl,HT.sIx_nat,HT.sIx_nat,length_take]
 omega
def hnd (cs:List Int) (m k j:Nat):List (List Pce):=((List.range k).filter fun i=>i%m == j).map fun i=>ygj (cs.getD i 0%10 ^ 40)
theorem ysy {cs:List Int}{m k j:Nat}(h2:2<=m) (d:m<=4) (c:k<=12) (e:j<m):(hnd cs m k j).length<=6:=by
 unfold hnd
 rw [length_map]
 have:∀ m,m<5->∀ k,k<13->∀ j,j<4->2<=m->((List.range k).filter fun i=>i%m == j).length<=6:=by rfl'
 exact this m (by omega) k (by omega) j (by omega) h2
theorem ysz {cs:List Int}{m k j:Nat}:∀ ps∈hnd cs m k j,(∀ p∈ps,p.Ok)/\ps.length<=3:=fun ps h=>by
 obtain ⟨i,_,rfl⟩:=List.mem_map.mp h
 exact ysw
def txL (l:List (List Pce)):Nd:=.lst (l.map fun ps=>.str (dTx ps))
def hK (h:AH) (cs:List Int) (m k:Nat):AH:=h++(List.range m).map (fun j=>txL (hnd cs m k j))++[Nd.lst ((List.range m).map fun j=>.loc (h.length+j))]
theorem yzf {cs:List Int}{m k:Nat}(b:0<m):(hK h cs m k).set (h.length+k%m) (txL (hnd cs m k (k%m)++[ygj (cs.getD k 0%10 ^ 40)]))=hK h cs m (k+1):=by
 have c:k%m<m:=Nat.mod_lt _ b
 unfold hK
 rw [List.set_append_left _ _ (by simp;omega),List.set_append_right _ _ (by omega),Nat.add_sub_cancel_left]
 congr 2
 refine List.ext_getElem (by simp) fun i h1 h2=>?_
 rw [List.getElem_set]
 simp only [List.getElem_map,List.getElem_range]
 have e:hnd cs m (k+1) i=hnd cs m k i++if k%m=i then [ygj (cs.getD k 0%10 ^ 40)] else []:=by
  unfold hnd
  rw [List.range_succ,List.filter_append,map_append]
  congr 1
  by_cases q:k%m=i
  .simp [q]
  .simp [q]
 rw [e]
 split
 .rename_i q;rw [q]
 simp_all
end
section
variable {h:AH}{ns:List Int}
theorem ysA {n:Nat}{xs:List PV}{i:Nat}{x:PV}(en:h[n]?=some (.lst xs)) (e:xs[i]?=some x):ybC (.loc n) (.int i) h=some (x,h):=by
 unfold ybC
 simp only [en,ydi e]
theorem yCq {n:Nat}{xs:List PV}{x:PV}(en:h[n]?=some (.lst xs)) (hl:xs.length<=1000):yfZ (.loc n) [x] h=some (.non,h.set n (.lst (xs++[x])))/\yfj (.loc n) h=true:=by
 constructor
 .unfold yfZ
  simp only [en]
  rw [if_pos (by omega)]
 .unfold yfj ybE
  simp only [en]
theorem yEJ {cs:List Int}{m k:Nat}:(hK h cs m k)[h.length+m]?=some (.lst ((List.range m).map fun j=>.loc (h.length+j))):=by
 unfold hK
 rw [getElem?_append_right (by simp)]
 simp
theorem yFt {cs:List Int}{m k j:Nat}(b:j<m):(hK h cs m k)[h.length+j]?=some (txL (hnd cs m k j)):=by
 unfold hK
 rw [getElem?_append_left (by simp;omega),getElem?_append_right (by omega),Nat.add_sub_cancel_left,getElem?_map,List.getElem?_range b]
 rfl
theorem yFu {ρ:PSt}:∀ l h,ygW (ygI (ydY yh)) (yfP [] ρ) l h=some ((List.range l.length).map fun j=>.loc (h.length+j),h++(List.range l.length).map fun _=>Nd.lst [])
 | [],h=>by simp [ygW]
 | x::l,h=>by
  show ob (some _) _=_
  rw [ybL]
  rw [yFu l,ybL]
  rw [length_cons,List.range_succ_eq_map,length_append]
  simp [Nat.add_assoc,Nat.add_comm 1]
theorem ysB {H:Int}:ydM [.scr ns,.int H] h=some (.loc (h.length+yeB H),hK h (hcs ns) (yeB H) (hcs ns).length):=by
 have o:2<=yeB H/\yeB H<=4:=by unfold yeB;omega
 have n:yc (xOp yfi (xC (.int 2)) (xOp oMod (xOp oDiv (yd 1) (xC (.int 2))) (xC (.int 3)))) (yh) [.val (.scr ns),.val (.int H),.no,.no,.no] h=some ([.int (2+H/2%3)],h):=by symm
 have s:yiT _ [.val (.scr ns),.val (.int H),.no,.no,.no] h=some (ygJ 0 (yeB H),h):=yjb n (by omega) (by omega)
 have q:(ygJ 0 (yeB H)).length=yeB H:=by simp [ygJ]
 have t:((ygJ 0 (yeB H)).length<=100000)=True:=eq_true (by omega)
 have g:=yFu (ρ:=[.val (.scr ns),.val (.int H),.no,.no,.no]) (ygJ 0 (yeB H)) h
 rw [q] at g
 generalize yeB H=m at *
 have hs:yoU (.scr ns) (some 1) (some 13)=fun h=>some (.lst ((hcs ns).map .int),h):=by
  funext h
  show some (Nd.lst (ymX (ns.map PV.int) _ _),h)=_
  rw [yvu];rfl
 have A:=ysx (ns:=ns)
 generalize hcs ns=cs at *
 unfold ydM
 rw [yo]
 show ob (yl _ (yl _ (yl (yiS _ (yp 4) haB) _)) [.val (.scr ns),.val (.int H),.no,.no,.no] h) fnK=_
 clear n
 simp_all? only [s,t,g,hs,-yAS]
 clear s t g hs q
 have hl:(h++(List.range m).map fun _=>Nd.lst []).length=h.length+m:=by simp
 rw [hl]
 show ob (yiT _ _ (hK h cs m 0)) _=_
 have C:yc (xCB yba (yc (yd 3) yh)) yh [.val (.scr ns),.val (.int H),.val (.loc (h.length+m)),.val (.lst (cs.map .int)),.no] (hK h cs m 0)=some ([.int (cs.length:Nat)],hK h cs m 0):=by
  symm
  rw [length_map]
 rw [yjb C (by omega) (by omega),ybL,Int.toNat_natCast]
 refine yqT (fun k ρ h1=>h1=hK h cs m k/\∃ v,ρ=[.val (.scr ns),.val (.int H),.val (.loc (h.length+m)),.val (.lst (cs.map .int)),v]) ⟨rfl,.no,rfl⟩ ?_ ?_
 .intro k x ρ h1 b ⟨j,v,f⟩
  subst j;subst f
  unfold ygJ at b
  rw [getElem?_map] at b
  have d:k<cs.length:=Classical.byContradiction fun z=>by rw [getElem?_eq_none (by rw [List.length_range];omega)] at b;cases b
  rw [List.getElem?_range d] at b
  have b:some (PV.int (0+(k:Int)))=some x:=b
  rw [zero_add] at b
  cases b
  refine ⟨_,[.val (.scr ns),.val (.int H),.val (.loc (h.length+m)),.val (.lst (cs.map .int)),.val (.int (k:Int))],hK h cs m (k+1),rfl,.inl ?_,rfl,_,rfl⟩
  have l:k%m<m:=Nat.mod_lt _ (by omega)
  have p:=yfD (yEJ (h:=h) (cs:=cs) (m:=m) (k:=k))
  rw [length_map,List.length_range] at p
  have w:∀ h,oMod (.int (k:Nat)) (.int (m:Nat)) h=some (.int ((k%m:Nat):Int),h):=fun h=>by
   symm
   rw [if_pos (by omega)]
   rfl
  have ix:=ysA (yEJ (h:=h) (cs:=cs) (m:=m) (k:=k)) (i:=k%m) (by rw [getElem?_map,List.getElem?_range l];rfl)
  have u:=ydl (h:=hK h cs m k) (xs:=cs.map PV.int) (i:=k) (x:=.int (cs.getD k 0)) (by rw [getElem?_map,List.getElem?_eq_getElem d,getD_eq_getElem?_getD,List.getElem?_eq_getElem d];rfl)
  have r:=yze (h:=hK h cs m k) (c:=cs.getD k 0%10000000000000000000000000000000000000000)
  obtain ⟨e,B⟩:=yCq (yFt (h:=h) (cs:=cs) (k:=k) l) (x:=.str (dTx (ygj (cs.getD k 0%10 ^ 40)))) (by rw [length_map];have:=ysy (cs:=cs) o.1 o.2 (Nat.le_trans (le_of_lt d) A) l;omega)
  have st:=yzf (h:=h) (cs:=cs) (k:=k) (show 0<m by omega)
  have e:yfZ (.loc (h.length+k%m)) [.str (dTx (ygj (cs.getD k 0%10000000000000000000000000000000000000000)))] (hK h cs m k)=some (.non,hK h cs m (k+1)):=by
   refine e.trans ?_
   rw [<- st]
   unfold txL
   rw [map_append]
   rfl
  unfold haB
  clear st b
  simp_all? only [p,w,ix,u,r,e,B,-yzw,-yeA]
  have y:PX.PowOk 10 40=True:=eq_true (by unfold PX.PowOk;decide)
  simp_all? only [y,r,e]
 .intro ρ h1 ⟨j,v,f⟩
  subst j;subst f
  rw [show (ygJ 0 cs.length).length=cs.length by simp [ygJ]]
  symm
end
abbrev Es:=List (Nat×List Nat)
def EnR (e:Nat×List Nat) (p:PV):Prop:=∃ (j:Int) (k:PV) (a c:List PV) (lw:List (Nat×Int)),p=.tup [.int (e.1:Nat),.int j,k,.lst a,.lst (lw.map ycc),.lst c]/\e.2=lw.map (·.1)/\lw.length<=100
inductive EnL:Es->List PV->Prop
 | nil:EnL [] []
 | cons {e:Nat×List Nat}{p:PV}{es:Es}{ps:List PV}:EnR e p->EnL es ps->EnL (e::es) (p::ps)
noncomputable def cn (es:Es) (b:Nat):Nat:=(es.map fun e=>e.2.count b).sum
structure LR (sp:List Int) (es:Es) (i:Nat) (x:HD) (last:Int) (m:List (Nat×Nat)):Prop where
 ks:m.map (·.1)=x.s.sn.map (·.1)
 st:∀ (j:Nat) (p:Nat×Nat) (q:Nat×Int×Int),m[j]?=some p->x.s.sn[j]?=some q->p.2<=es.length/\q.2.2=(cn (es.take p.2) p.1:Nat)/\∀ e∈es.drop p.2,e.1≠i
 la:stX x = "awake"->(last=-1/\x.s.t=0)\/(0<=last/\last<(x.s.t:Nat))
 fr:stX x = "asleep"->stB x.s.sn sp=false
structure LI (S:St) (es:Es) (rs:List (Int×List (Nat×Nat))):Prop where
 en:EnL es S.en
 sp:∀ b,b<S.sp.length->S.sp.getD b 0=(cn es b:Nat)
 len:rs.length=S.xs.length
 r:∀ (i:Nat) (x:HD) (r:Int×List (Nat×Nat)),S.xs[i]?=some x->rs[i]?=some r->LR S.sp es i x r.1 r.2
section
variable {S:St}{es:Es}{rs:List (Int×List (Nat×Nat))}{xs1 xs2:List HD}{x x' y:HD}{sp sp':List Int}{i k:Nat}{last:Int}{m:List (Nat×Nat)}
theorem EnL.len {ps:List PV}(E:EnL es ps):es.length=ps.length:=by
 induction E with
 | nil=>rfl
 | cons _ _ ih=>simp_all
theorem EnL.drop {ps:List PV}(E:EnL es ps):∀ n,EnL (es.drop n) (ps.drop n):=by
 induction E with
 | nil=>intro n;rw [List.drop_nil,List.drop_nil];exact .nil
 | cons a E ih=>intro n;cases n with
  | zero=>exact .cons a E
  | succ n=>exact ih n
theorem EnL.snoc {ps:List PV}{e:Nat×List Nat}{p:PV}(E:EnL es ps) (a:EnR e p):EnL (es++[e]) (ps++[p]):=by
 induction E with
 | nil=>exact .cons a .nil
 | cons b _ ih=>exact .cons b ih
theorem ysC {e:Nat×List Nat}{b:Nat}:cn (es++[e]) b=cn es b+e.2.count b:=by
 unfold cn
 rw [map_append,List.sum_append]
 rfl
theorem yCr n b:cn es b=cn (es.take n) b+cn (es.drop n) b:=by
 unfold cn
 rw [<- List.sum_append,<- map_append,List.take_append_drop]
theorem ywH {b:Nat}:∀ {es:Es},cn es b≠0->∃ e∈es,b∈e.2
 | [],h=>absurd rfl h
 | e::es,h=>by
  by_cases z:b∈e.2
  .simp_all
  .have:cn (e::es) b=e.2.count b+cn es b:=rfl
   rw [this,List.count_eq_zero.mpr z,Nat.zero_add] at h
   obtain ⟨a,h1,h2⟩:=ywH h
   exact ⟨a,mem_cons_of_mem _ h1,h2⟩
theorem LR.new {x:HD}(h:x.s.sn=[]) (t:x.s.t=0):LR sp es i x (-1) []:=⟨by rw [h];rfl,(fun j p q e=>by cases e),fun _=>.inl ⟨rfl,t⟩,fun _=>by rw [h];rfl⟩
theorem LR.ext {e:Nat×List Nat}(L:LR sp es i x last m) (h:e.1≠i) (f:stX x = "asleep"->stB x.s.sn sp'=false):LR sp' (es++[e]) i x last m:=by
 refine ⟨L.ks,fun j p q ep b=>?_,L.la,f⟩
 obtain ⟨h1,h2,d⟩:=L.st j p q ep b
 refine ⟨by rw [length_append];omega,by rw [List.take_append_of_le_length h1];exact h2,fun c a=>?_⟩
 rw [List.drop_append_of_le_length h1] at a
 rcases List.mem_append.mp a with a|a
 .exact d c a
 .rw [List.mem_singleton.mp a];exact h
theorem yiH:(xs1++x::xs2)[xs1.length]?=some x:=by rw [getElem?_append_right (Nat.le_refl _),sub_self];rfl
theorem ypp {x':HD}{k:Nat}(h:k≠xs1.length):(xs1++x::xs2)[k]?=(xs1++x'::xs2)[k]?:=by
 grind
theorem LI.put (I:LI S es rs) (b:S.xs=xs1++x::xs2) {r:Int×List _}(L:LR S.sp es xs1.length x' r.1 r.2):LI ⟨S.bx,S.sp,S.en,xs1++x'::xs2⟩ es (rs.set xs1.length r):=by
 refine ⟨I.en,I.sp,by rw [length_set,I.len,b];simp,fun i y q c a=>?_⟩
 by_cases z:xs1.length=i
 .subst z
  rw [getElem?_set_self (by rw [I.len,b];simp)] at a
  simp_all
 .rw [getElem?_set_ne z] at a
  exact I.r i y q (by rw [b,<- ypp fun e=>z e.symm];exact c) a
theorem LI.at_ (I:LI S es rs) (a:S.xs=xs1++x::xs2):∃ r,rs[xs1.length]?=some r/\LR S.sp es xs1.length x r.1 r.2:=by
 have h:xs1.length<rs.length:=by rw [I.len,a];simp
 exact ⟨_,List.getElem?_eq_getElem h,I.r _ _ _ (by rw [a];exact yiH) (List.getElem?_eq_getElem h)⟩
end
noncomputable def yns (m:List (Nat×Nat)) (k n:Nat):List (Nat×Nat):=if k∈m.map (·.1) then m.map (fun p=>if p.1=k then (k,n) else p) else m++[(k,n)]
section
variable {S:St}{es:Es}{rs:List (Int×List (Nat×Nat))}{xs1 xs2:List HD}{x x' y:HD}{sp:List Int}{i k:Nat}{last:Int}{m:List (Nat×Nat)}
theorem yzg {n:Nat}{sn:List (Nat×Int×Int)}{a b:Int}(h:m.map (·.1)=sn.map (·.1)):(yns m k n).map (·.1)=(ydW sn k a b).map (·.1)/\∀ (j:Nat) (p:Nat×Nat) (q:Nat×Int×Int),(yns m k n)[j]?=some p->(ydW sn k a b)[j]?=some q->(p=(k,n)/\q.2.2=b)\/(m[j]?=some p/\sn[j]?=some q):=by
 unfold yns ydW
 rw [h]
 have hl:m.length=sn.length:=by have:=congrArg length h;rwa [length_map,length_map] at this
 have g:∀ (j:Nat) (p:Nat×Nat) (q:Nat×Int×Int),m[j]?=some p->sn[j]?=some q->p.1=q.1:=fun j p q c d=>by
  have:(m.map (·.1))[j]?=(sn.map (·.1))[j]?:=by rw [h]
  rw [getElem?_map,getElem?_map,c,d] at this
  exact Option.some.inj this
 split
 .refine ⟨?_,fun j p q c d=>?_⟩
  .apply List.ext_getElem?
   intro j
   rw [getElem?_map,getElem?_map,getElem?_map,getElem?_map]
   cases c:m[j]? with
   | none=>rw [getElem?_eq_none (by rw [<- hl];exact List.getElem?_eq_none_iff.mp c)];rfl
   | some p =>
    have l:j<sn.length:=by rw [<- hl];exact (List.getElem?_eq_some_iff.mp c).1
    have:=g j p _ c (List.getElem?_eq_getElem l)
    rw [List.getElem?_eq_getElem l]
    show some (if p.1=k then (k,n) else p).1=some (if (sn[j]).1=k then (k,a,b) else sn[j]).1
    rw [this]
    split
    .rfl
    .exact congrArg some this
  .rw [getElem?_map] at c d
   cases e:m[j]? with
   | none=>rw [e] at c;cases c
   | some p' =>
    cases f:sn[j]? with
    | none=>rw [f] at d;cases d
    | some q' =>
     have:=g j p' q' e f
     rw [e] at c
     rw [f] at d
     have c:(if p'.1=k then (k,n) else p')=p:=Option.some.inj c
     have d:(if q'.1=k then (k,a,b) else q')=q:=Option.some.inj d
     rw [this] at c
     by_cases w:q'.1=k
     .rw [if_pos w] at c d
      exact .inl ⟨c.symm,by rw [<- d]⟩
     .rw [if_neg w] at c d
      exact .inr ⟨by rw [c],by rw [d]⟩
 .refine ⟨by rw [map_append,map_append,h];rfl,fun j p q c d=>?_⟩
  by_cases l:j<m.length
  .rw [getElem?_append_left l] at c
   rw [getElem?_append_left (by omega)] at d
   exact .inr ⟨c,d⟩
  .rw [getElem?_append_right (by omega)] at c d
   rw [hl] at c
   cases z:j-sn.length with
   | zero=>rw [z] at c d;cases c;cases d;exact .inl ⟨rfl,rfl⟩
   | succ _=>rw [z] at c;cases c
theorem LI.gone {s':RS}(I:LI S es rs) (b:S.xs=xs1++x::xs2) (L:LR S.sp es xs1.length x last m) (st:stX x = "awake") (d:x.s.t<s'.t) (e:s'.sn=x.s.sn):LI ⟨S.bx,S.sp,S.en,xs1++{ x with s:=s' }::xs2⟩ es (rs.set xs1.length (x.s.t,m)) :=
 I.put b ⟨by rw [L.ks];exact congrArg _ e.symm,fun j p q ep c=>L.st j p q ep (by rw [<- e];exact c),fun _=>.inr ⟨by omega,by simp_all⟩,fun z=>by
  have z:stX x = "asleep":=z
  rw [st] at z
  exact absurd z (by rfl')⟩
theorem LI.slp (I:LI S es rs) (b:S.xs=xs1++x::xs2) (L:LR S.sp es xs1.length x last m) (st:stX x = "awake") (fr:stB x.s.sn S.sp=false):LI ⟨S.bx,S.sp,S.en,xs1++{ x with sl:=true }::xs2⟩ es (rs.set xs1.length (x.s.t,m)) :=
 I.put b ⟨L.ks,L.st,fun z=>by
  unfold stX at z st
  split at z
  .exact absurd z (by rfl')
  .rw [if_pos rfl] at z;exact absurd z (by rfl'),fun _=>fr⟩
theorem LI.seen {k:Nat}{v:Int}{hs:List Int}(I:LI S es rs) (f:S.xs=xs1++x::xs2) (L:LR S.sp es xs1.length x last m) (st:stX x = "awake") (c:k<S.sp.length):LI ⟨S.bx,S.sp,S.en,xs1++{ x with s:=⟨x.s.t+1,hs,x.s.sd,x.s.dd,ydW x.s.sn k v (S.sp.getD k 0)⟩ }::xs2⟩ es (rs.set xs1.length (x.s.t,yns m k es.length)):=by
 obtain ⟨b,d⟩:=yzg L.ks
 refine I.put f ⟨b,fun j p q ep g=>?_,fun _=>.inr ⟨by omega,by grind⟩,fun z=>by
  have z:stX x = "asleep":=z
  rw [st] at z
  exact absurd z (by rfl')⟩
 rcases d j p q ep g with ⟨rfl,h2⟩|⟨h1,h2⟩
 .refine ⟨Nat.le_refl _,?_,fun e h=>?_⟩
  .rw [h2,I.sp k c,List.take_length]
  simp_all
 .exact L.st j p q h1 h2
theorem LI.anew (I:LI S es rs) (n:S.xs=xs1++x::xs2) (L:LR S.sp es xs1.length x last m) (r:∀ p∈x.s.sn,p.1<S.sp.length) (fr:stB x.s.sn S.sp=true):LI ⟨S.bx,S.sp,S.en,xs1++{ x with sl:=false,s:=S0 x.bf }::xs2⟩ es (rs.set xs1.length (-1,[]))/\∃ p∈m,∃ e∈es.drop p.2,e.1≠xs1.length/\p.1∈e.2:=by
 refine ⟨I.put n (.new rfl rfl),?_⟩
 obtain ⟨b,c,a⟩:=List.any_eq_true.mp fr
 obtain ⟨q,g,rfl⟩:=List.mem_map.mp c
 obtain ⟨j,d⟩:=List.getElem?_of_mem g
 have l:j<m.length:=by
  have:=congrArg length L.ks
  rw [length_map,length_map] at this
  rw [this]
  exact (List.getElem?_eq_some_iff.mp d).1
 obtain ⟨h1,h2,t⟩:=L.st j _ q (List.getElem?_eq_getElem l) d
 have u:m[j].1=q.1:=by
  have:(m.map (·.1))[j]?=(x.s.sn.map (·.1))[j]?:=by rw [L.ks]
  rw [getElem?_map,getElem?_map,List.getElem?_eq_getElem l,d] at this
  exact Option.some.inj this
 have h:S.sp.getD q.1 0≠q.2.2:=by simpa using a
 rw [I.sp _ (r q g),h2,yCr m[j].2 q.1,<- u] at h
 obtain ⟨e,f,o⟩:=ywH (es:=es.drop m[j].2) (b:=m[j].1) (by omega)
 exact ⟨_,getElem_mem l,e,f,t e f,o⟩
end
def wkQ (l:List Nat) (y:HD) (m:List (Nat×Nat)):Bool:=decide (stX y = "asleep") && l.any fun b=>decide (b∈m.map (·.1))
def wkR (l:List Nat) (xs:List HD) (rs:List (Int×List (Nat×Nat))):List (Int×List (Nat×Nat)):=List.zipWith (fun y r=>if wkQ l y r.2=true then (-1,[]) else r) xs rs
section
variable {S:St}{es:Es}{rs:List (Int×List (Nat×Nat))}{xs1 xs2:List HD}{x x' y:HD}{sp:List Int}{i k:Nat}{last:Int}{m:List (Nat×Nat)}{lw:List (Nat×Int)}
theorem yky {b:Nat}:∀ lw sp,b<sp.length->(ygu sp lw).getD b 0=sp.getD b 0+(lw.map (·.1)).count b
 | [],sp,_=>by show sp.getD b 0=_+0;omega
 | p::lw,sp,h=>by
  show (ygu _ lw).getD b 0=_
  rw [yky lw _ (by simp_all),map_cons]
  by_cases e:p.1=b
  .subst e
   rw [getD_eq_getElem?_getD,getElem?_set_self h]
   simp
   omega
  simp_all
theorem ywI:asB y=decide (stX y = "asleep"):=by
 unfold asB stX
 by_cases e:y.nth=y.ds.length
 .rw [if_pos e,decide_eq_false fun z=>z e]
  rfl
 .rw [if_neg e,decide_eq_true e]
  cases y.sl<;>rfl
theorem yoA (L:LR sp es i y last m) (a:∀ p∈y.s.sn,p.1<sp.length):(asB y && stB y.s.sn (ygu sp lw))=wkQ (lw.map (·.1)) y m:=by
 unfold wkQ
 rw [ywI]
 by_cases z:stX y = "asleep"
 .rw [decide_eq_true z,Bool.true_and,Bool.true_and]
  have fr:=L.fr z
  unfold stB at fr ⊢
  rw [L.ks]
  have f:∀ p∈y.s.sn,sp.getD p.1 0=p.2.2:=fun p hp=>by
   have:=List.any_eq_false.mp fr _ (List.mem_map.mpr ⟨p,hp,rfl⟩)
   simpa using this
  rw [Bool.eq_iff_iff,List.any_eq_true,List.any_eq_true]
  constructor
  .rintro ⟨b,h1,h2⟩
   obtain ⟨p,hp,rfl⟩:=List.mem_map.mp h1
   have h2:(ygu sp lw).getD p.1 0≠p.2.2:=by simpa using h2
   rw [yky lw sp (a p hp),f p hp] at h2
   exact ⟨p.1,List.count_pos_iff.mp (by omega),decide_eq_true (List.mem_map.mpr ⟨p,hp,rfl⟩)⟩
  .rintro ⟨b,h1,h2⟩
   obtain ⟨p,hp,rfl⟩:=List.mem_map.mp (of_decide_eq_true h2)
   refine ⟨_,List.mem_map.mpr ⟨p,hp,rfl⟩,?_⟩
   have c:=List.count_pos_iff.mpr h1
   have:(ygu sp lw).getD p.1 0≠p.2.2:=by rw [yky lw sp (a p hp),f p hp];omega
   simpa using this
 .rw [decide_eq_false z]
  rfl
theorem LI.fell {h:PV}{a rows':List PV}(I:LI S es rs) (f:S.xs=xs1++x::xs2):LI ⟨S.bx,S.sp,S.en++[ypA xs1.length x h a [] x.bf],xs1++{ x with nth:=x.nth+1,rows:=rows',s:=S0 x.bf }::xs2⟩ (es++[(xs1.length,[])]) (rs.set xs1.length (-1,[])):=by
 refine ⟨I.en.snoc ⟨_,_,_,_,[],rfl,rfl,zero_le _⟩,fun b g=>by rw [ysC];exact I.sp b g,by rw [length_set,I.len,f];simp,fun i y q d c=>?_⟩
 by_cases z:xs1.length=i
 .subst z
  rw [getElem?_set_self (by rw [I.len,f];simp)] at c
  cases c
  have d:=d.symm.trans yiH
  cases d
  exact .new rfl rfl
 .rw [getElem?_set_ne z] at c
  have L:=I.r i y q (by rw [f,<- ypp fun e=>z e.symm];exact d) c
  exact L.ext z L.fr
theorem yoB (st:stX x = "awake") {n:Nat}{bf:List Int}{rows:List PV}{s:RS}{sp:List Int}:ycX sp { x with nth:=n,bf:=bf,rows:=rows,s:=s }={ x with nth:=n,bf:=bf,rows:=rows,s:=s }:=by
 have:x.sl=false:=by
  cases e:x.sl with
  | false=>rfl
  | true =>
   unfold stX at st
   split at st
   .exact absurd st (by rfl')
   .exact absurd st (by rfl')
 unfold ycX asB
 simp_all
theorem LI.done {a rows':List PV}{c:List Int}(I:LI S es rs) (j:S.xs=xs1++x::xs2) (st:stX x = "awake") (o:lw.length<=100) (g:∀ y∈S.xs,∀ p∈y.s.sn,p.1<S.sp.length) :
  LI ⟨ypz S.bx lw,ygu S.sp lw,S.en++[ypA xs1.length x (.tup [.str "done"]) a (lw.map ycc) c],(xs1++{ x with nth:=x.nth+1,bf:=c,rows:=rows',s:=S0 c }::xs2).map (ycX (ygu S.sp lw))⟩ (es++[(xs1.length,lw.map (·.1))]) (wkR (lw.map (·.1)) S.xs (rs.set xs1.length (-1,[]))):=by
 refine ⟨I.en.snoc ⟨_,_,_,_,lw,rfl,rfl,o⟩,fun b g=>?_,?_,fun i y q f d=>?_⟩
 .have g:b<S.sp.length:=by have:b<(ygu S.sp lw).length:=g;rwa [yhs] at this
  rw [yky lw _ g,ysC,I.sp b g]
  simp_all
 .unfold wkR
  rw [List.length_zipWith,length_set,I.len,Nat.min_self,j]
  simp
 .rw [getElem?_map] at f
  unfold wkR at d
  rw [List.getElem?_zipWith] at d
  by_cases z:xs1.length=i
  .subst z
   rw [yiH] at f
   have f:=Option.some.inj f
   rw [yoB st] at f
   subst f
   rw [j,yiH,getElem?_set_self (by rw [I.len,j];simp)] at d
   have d:=Option.some.inj d
   have w:wkQ (lw.map (·.1)) x []=false:=by unfold wkQ;rw [st];rfl
   rw [w,if_neg (by decide)] at d
   subst d
   exact .new rfl rfl
  .rw [getElem?_set_ne z] at d
   rw [ypp (x':=x) (fun e=>z e.symm),<- j] at f
   cases h:S.xs[i]? with
   | none=>rw [h] at f;cases f
   | some y0 =>
    cases l:rs[i]? with
    | none=>rw [h,l] at d;cases d
    | some q0 =>
     rw [h] at f d
     rw [l] at d
     have f:=Option.some.inj f
     have d:=Option.some.inj d
     have L:=I.r i y0 q0 h l
     have n:=yoA (lw:=lw) L (g y0 (mem_of_getElem? h))
     subst f d
     show LR (ygu S.sp lw) _ i (ycX _ y0) _ _
     unfold ycX
     rw [n]
     cases w:wkQ (lw.map (·.1)) y0 q0.2 with
     | true=>exact .new rfl rfl
     | false =>
      refine L.ext z fun r=>?_
      rw [w,ywI,decide_eq_true r,Bool.true_and] at n
      exact n
end
section
variable {h:AH}{W:Nat}{g:HC}{S:St}{as:List (Nat×Lc)}{own:List (Nat×Nd)}
theorem yoC (X:HH h g W S.bx S.sp S.en as S.xs own) {k:Nat}{y:HD}(e:S.xs[k]?=some y):ybq [.loc g.H,.int k] h=some (.str (stX y),h):=by
 obtain ⟨c,d⟩:=List.getElem?_eq_some_iff.mp e
 obtain ⟨xs1,x,xs2,b,rfl⟩:=yfd c
 have:=by
  rw [b,yiH] at e
  exact Option.some.inj e
 subst this
 obtain ⟨as1,a,as2,rfl,l⟩:=yfd (by rw [X.ly.len];exact c)
 rw [b] at X
 have:=yCb X l
 rwa [l] at this
theorem yCs (X:HH h g W S.bx S.sp S.en as S.xs own) {sts:List Str}{i:Nat}{mine:Str}:∀ l v4,(∀ k∈l,∃ y t,S.xs[k]?=some y/\sts[k]?=some t/\stX y=if k=i then mine else t) ->
  ∃ b,ydZ (yp 4) osB (nV l) [.val (.loc g.H),.val (.int i),.val (.lst (sts.map .str)),.val (.str mine),v4] h=some (.nx [.val (.loc g.H),.val (.int i),.val (.lst (sts.map .str)),.val (.str mine),b],h)
 | [],v4,_=>⟨v4,rfl⟩
 | k::l,v4,H=>by
  obtain ⟨b,q⟩:=yCs X l _ fun k h=>H k (mem_cons_of_mem _ h)
  refine ⟨b,?_⟩
  obtain ⟨y,t,p,o,d⟩:=H k mem_cons_self
  have s1:=yoC X p
  have j:=X.at_.get 0 rfl
  have f:ybC _ _ h=some (.str t,h):=ydl (by rw [getElem?_map,o];rfl)
  have r:osB [.val (.loc g.H),.val (.int i),.val (.lst (sts.map .str)),.val (.str mine),.val (.int k)] h=some (.nx [.val (.loc g.H),.val (.int i),.val (.lst (sts.map .str)),.val (.str mine),.val (.int k)],h):=by
   unfold osB
   by_cases e:k=i
   .subst e
    have c:ybC (.lst [.str t,.str mine]) (.int 1) h=some _:=ydl rfl
    simp_all? only [ycs,yH (m:="state") j (by rfl'),s1,d,f,c,-yeA]
   .rw [if_neg e] at d
    have c:ybC (.lst [.str t,.str mine]) (.int 0) h=some _:=ydl rfl
    have n:(k=(i:Int))=False:=eq_false (by omega)
    simp_all? only [ycs,yH (m:="state") j (by rfl'),s1,d,f,c,n,-yeA]
  show ydZ _ _ (PV.int k::nV l) _ h=_
  rw [yiE rfl (r),q]
theorem yzh (X:HH h g W S.bx S.sp S.en as S.xs own) {sts:List Str}{i:Nat}{mine:Str}(hl:sts.length=S.xs.length) (d:sts.length<=8) (H:∀ k y,S.xs[k]?=some y->∃ t,sts[k]?=some t/\stX y=if k=i then mine else t) :
  yG [.loc g.H,.int i,.lst (sts.map .str),.str mine] h=some (.bl true,h):=by
 obtain ⟨v4,q⟩:=yCs X (List.range sts.length) .no fun k a=>by
  have a:=List.mem_range.mp a
  obtain ⟨t,h1,h2⟩:=H k _ (List.getElem?_eq_getElem _)
  exact ⟨_,t,List.getElem?_eq_getElem (by omega),h1,h2⟩
 have b:yiT (yc (xCB yba (yc (yd 2) yh)) yh) [.val (.loc g.H),.val (.int i),.val (.lst (sts.map .str)),.val (.str mine),.no] h=some (nV (List.range sts.length),h):=by
  have c:yc (xCB yba (yc (yd 2) yh)) yh [.val (.loc g.H),.val (.int i),.val (.lst (sts.map .str)),.val (.str mine),.no] h=some ([.int sts.length],h):=by
   symm
   rw [length_map]
  rw [yjb c (by omega) (by omega)]
  exact congrArg (fun l=>some (l,h)) (List.map_congr_left fun k _=>by rw [zero_add])
 unfold yG
 rw [yo]
 show ob (yl _ _ [.val _,.val _,.val _,.val _,.no] h) fnK=_
 simp_all? only [b,q]
end
noncomputable def kM (m:List (Nat×Nat)):List Key:=m.map fun p=>.inl (p.1:Int)
noncomputable def aM (m:List (Nat×Nat)):List PV:=m.map fun p=>.int (p.2:Nat)
def lsF:XS:=yiS (xIL (xFz (yqk yoU (yd 0) (ygU (yfk (yd 2) (yd 3))) (ydT)))) (yp 4) lsB
noncomputable def lsS (en:List PV) (i d:Nat) (v3 v4:PVar):PSt:=[.val (.lst en),.val (.int (i:Nat)),.val (.loc d),v3,v4]
section
variable {h:AH}{en:List PV}{i d b:Nat}{es:Es}{m:List (Nat×Nat)}
theorem yCt {neg:Bool}{k:Nat}{l:List Nat}:ysQ neg (.int k) (.lst (l.map fun j:Nat=>.int j)) h=some (.bl (if neg then !decide (k∈l) else decide (k∈l)),h):=by
 have g:∀ l:List Nat,svs (l.map fun j:Nat=>PV.int j)=some (l.map fun j:Nat=>V.int j):=by
  intro l
  induction l with
  | nil=>rfl
  | cons a l ih =>
   show (match sv _,svs _ with|some v,some vs=>some _|_,_=>none)=_
   rw [ih]
   rfl
 have n:inV (.int k) (l.map fun j:Nat=>V.int j)=decide (k∈l):=by
  unfold inV
  rw [List.any_map,Bool.eq_iff_iff,List.any_eq_true,decide_eq_true_iff]
  constructor
  .rintro ⟨j,f,e⟩
   have:=by simpa [eqV] using e
   grind
  .intro c
   exact ⟨k,c,by simp [eqV]⟩
 show (match some _,some _ with|some v,some ys=>(match svs ys with|some us=>some (PV.bl (if neg then !inV v us else inV v us),h)|none=>none)|_,_=>none)=_
 simp_all
theorem yCu {G:XG}{S:XS}{x v:PV}{xs:List PV}{ρ ρ1:PSt}{h1:AH}(c:G x ρ=some ρ1) (a:S ρ1 h=some (.rt v,h1)):ydZ G S (x::xs) ρ h=some (.rt v,h1):=by
 show (G x ρ).bind _=_
 rw [c,bind_some,a]
 rfl
theorem firsts {ρ:PSt}(lw:List _):ygW (xOp yzx (yd 0) (xC (.int 0))) (yfP [] ρ) (lw.map ycc) h=some ((lw.map (·.1)).map fun j=>.int j,h):=by
 rw [map_map]
 exact ydU ycc _ fun p _=>rfl
theorem yFW {e:Nat×List Nat}{p:PV}(R:EnR e p):lsB (lsS en i d (.val (.int b)) (.val p)) h=if e.1≠i/\b∈e.2 then some (.rt (.bl true),h) else some (.nx (lsS en i d (.val (.int b)) (.val p)),h):=by
 obtain ⟨j,k,a,c,lw,rfl,t,hl⟩:=R
 rw [t]
 have o:ybc (.tup [.int e.1,.int j,k,.lst a,.lst (lw.map ycc),.lst c]) (.int 0) h=some _:=rfl
 have r:xIL (xOp ybc (yd 4) (xC (.int 4))) [.val (.lst en),.val (.int i),.val (.loc d),.val (.int b),.val (.tup [.int e.1,.int j,k,.lst a,.lst _,.lst c])] h=some (lw.map ycc,h):=rfl
 have s:((lw.map ycc).length<=100000)=True:=eq_true (by grind)
 have f:=fun ρ=>firsts (h:=h) (ρ:=ρ) lw
 have n:=yCt (h:=h) (neg:=false) (k:=b) (l:=lw.map (·.1))
 unfold lsB lsS
 by_cases z:e.1=i
 .rw [if_neg fun q=>q.1 z]
  have g:(e.1=(i:Int))=True:=eq_true (by omega)
  simp_all? only [o,g,-ydE]
 .have g:(e.1=(i:Int))=False:=eq_false (by omega)
  by_cases q:b∈lw.map (·.1)
  .rw [if_pos ⟨z,q⟩]
   rw [decide_eq_true q] at n
   simp_all? only [o,r,s,g,f,n,-ydE]
  .rw [if_neg fun w=>q w.2]
   rw [decide_eq_false q] at n
   simp_all? only [o,r,s,g,f,n,-ydE]
theorem yEK {ps:List PV}(E:EnL es ps):∀ v4,(∃ a,ydZ (yp 4) lsB ps (lsS en i d (.val (.int b)) v4) h=some (.nx (lsS en i d (.val (.int b)) a),h)/\∀ e∈es,¬(e.1≠i/\b∈e.2))\/ydZ (yp 4) lsB ps (lsS en i d (.val (.int b)) v4) h=some (.rt (.bl true),h):=by
 induction E with
 | nil=>exact fun v4=>.inl ⟨v4,rfl,fun _ h=>by cases h⟩
 | cons R E ih =>
  intro v4
  rename_i e p es ps
  have c:=yFW (h:=h) (en:=en) (i:=i) (d:=d) (b:=b) R
  by_cases q:e.1≠i/\b∈e.2
  .rw [if_pos q] at c
   exact .inr (yCu rfl c)
  .rw [if_neg q] at c
   rcases ih _ with ⟨a,h1,h2⟩|h1
   .exact .inl ⟨a,(yiE rfl c).trans h1,fun g f=>by
     rcases mem_cons.mp f with rfl|f
     .exact q
     .exact h2 g f⟩
   .exact .inr ((yiE rfl c).trans h1)
theorem yFv:∀ {m:List _},(m.map (·.1)).Nodup->∀ p∈m,yhI (kM m) (aM m) (.inl p.1)=some (.int p.2)
 | q::m,a,p,hp=>by
  show (if (Sum.inl _:Key)=.inl _ then some _ else yhI _ _ _)=_
  rw [map_cons,List.nodup_cons] at a
  rcases mem_cons.mp hp with rfl|hp
  .rw [if_pos rfl]
  .rw [if_neg fun z=>a.1 (by
    grind)]
   exact yFv a.2 p hp
theorem yFw (E:EnL es en) (g:(m.map (·.1)).Nodup) (hz:h[d]?=some (.fz (kM m) (aM m))) (hl:en.length<=1000):∀ l v3 v4,(∀ p∈l,p∈m)->(∃ p∈l,∃ e∈es.drop p.2,e.1≠i/\p.1∈e.2)->ydZ (yp 3) lsF ((kM l).map yhM) (lsS en i d v3 v4) h=some (.rt (.bl true),h)
 | [],_,_,_,⟨_,hp,_⟩=>by cases hp
 | p::l,v3,v4,H,⟨q,a,w⟩=>by
  have j:xIL (xFz (yqk yoU (yd 0) (ygU (yfk (yd 2) (yd 3))) ydT)) (lsS en i d (.val (.int p.1)) v4) h=some (en.drop p.2,h):=by
   have k:yfk (yd 2) (yd 3) (lsS en i d (.val (.int p.1)) v4) h=some (.int p.2,h):=by
    unfold yfk
    rw [show yd 2 _ h=some _ from rfl,ybL,show yd 3 _ h=some _ from rfl,ybL]
    unfold ywe
    simp only [hz,keyOf,yFv g p (H p mem_cons_self)]
   have n:=yCo en p.2
   unfold xIL
   unfold lsS at *
   simp_all? only [k,n]
  have f:lsF (lsS en i d (.val (.int p.1)) v4) h=ydZ (yp 4) lsB (en.drop p.2) (lsS en i d (.val (.int p.1)) v4) h:=by
   unfold lsF
   rw [ytY,j,ybL]
  rcases yEK (b:=p.1) (E.drop p.2) v4 with ⟨c,h1,h2⟩|h1
  .have a:q∈l:=by
    rcases mem_cons.mp a with rfl|a
    .obtain ⟨e,o,w⟩:=w
     exact absurd w (h2 e o)
    .exact a
   exact (yiE rfl (f.trans h1)).trans (yFw E g hz hl l _ c (fun p h=>H p (mem_cons_of_mem _ h)) ⟨q,a,w⟩)
  .exact yCu rfl (f.trans h1)
theorem yzi (E:EnL es en) (a:(m.map (·.1)).Nodup) (e:h[d]?=some (.dct (kM m) (aM m))) (hl:en.length<=1000) (w:∃ p∈m,∃ e∈es.drop p.2,e.1≠i/\p.1∈e.2) :
  ybR [.lst en,.int i,.loc d] h=some (.bl true,h.set d (.fz (kM m) (aM m))):=by
 have f:=yFw E a (getElem?_set_self (List.getElem?_eq_some_iff.mp e).1) hl m .no .no (fun _ h=>h) w
 have s1:yjg (yd 2) (yp 3) lsF (lsS en i d .no .no) h=some (.rt (.bl true),h.set d (.fz (kM m) (aM m))):=by
  unfold yjg
  rw [show yd 2 _ h=some _ from rfl,ybL]
  simp only [e]
  rw [f,ybL]
 unfold ybR
 rw [yo]
 show ob (yl (yjg _ _ lsF) _ (lsS en i d .no .no) h) fnK=_
 rw [yhG,s1]
 rfl
end
def hC (g:HC) (W:Nat) (S:St) (as:List (Nat×Lc)):List (Nat×Nd):=H5 g S.bx S.sp S.en (as.map (·.1))++CR W as S.xs []
noncomputable abbrev Lr:=Int×Nat×List (Nat×Nat)
def rV (r:Lr):PV:=.lst [.int r.1,.loc r.2.1]
def rD (r:Lr):Nat×Nd:=(r.2.1,.dct (kM r.2.2) (aM r.2.2))
def rC (R:Nat) (rs:List Lr):List (Nat×Nd):=(R,.lst (rs.map rV))::rs.map rD
section
variable {h h':AH}{W R d:Nat}{g:HC}{S:St}{as:List (Nat×Lc)}{own rest:List (Nat×Nd)}{rs r1 r2:List Lr}{t last:Int}{m m':List (Nat×Nat)}
theorem HH.c (X:HH h g W S.bx S.sp S.en as S.xs own):At h (hC g W S as++own):=by
 have:=X.at_
 rw [yig] at this
 exact this
theorem HH.of (A:At h (hC g W S as++own)) (l:LyOk as S.xs):HH h g W S.bx S.sp S.en as S.xs own:=⟨by
 rw [yig]
 exact A,l⟩
theorem At.mem {l:List _}{a:Nat}{d:Nd}(A:At h l) (b:(a,d)∈l):h[a]?=some d:=A.2 _ b
theorem yCP (X:HH h g W S.bx S.sp S.en as S.xs (rC R rs++rest)):h[R]?=some (.lst (rs.map rV)):=X.c.mem (mem_append_right _ (mem_append_left _ mem_cons_self))
theorem yFx (X:HH h g W S.bx S.sp S.en as S.xs (rC R rs++rest)) {r:Lr}(a:r∈rs):h[r.2.1]?=some (.dct (kM r.2.2) (aM r.2.2)):=X.c.mem (mem_append_right _ (mem_append_left _ (mem_cons_of_mem _ (List.mem_map.mpr ⟨r,a,rfl⟩))))
theorem yoD (X:HH h g W S.bx S.sp S.en as S.xs (rC R (r1++(last,d,m)::r2)++rest)):HH (h.set R (.lst ((r1++(t,d,m)::r2).map rV))) g W S.bx S.sp S.en as S.xs (rC R (r1++(t,d,m)::r2)++rest):=by
 refine HH.of ?_ X.ly
 have:=At.upd (.lst ((r1++(t,d,m)::r2).map rV)) X.c
 unfold rC
 rw [map_append,map_append,map_cons] at this ⊢
 exact this
theorem yCv (X:HH h g W S.bx S.sp S.en as S.xs (rC R (r1++(last,d,m)::r2)++rest)):HH (h.set d (.dct (kM m') (aM m'))) g W S.bx S.sp S.en as S.xs (rC R (r1++(last,d,m')::r2)++rest):=by
 refine HH.of ?_ X.ly
 have e:∀ m,hC g W S as++(rC R (r1++(last,d,m)::r2)++rest)=(hC g W S as++(R,.lst ((r1++(last,d,m')::r2).map rV))::r1.map rD)++(d,.dct (kM m) (aM m))::(r2.map rD++rest):=fun m=>by
  unfold rC
  simp [rD,rV]
 have A:=X.c
 rw [e] at A ⊢
 exact At.upd _ A
theorem ysD (X:HH h g W S.bx S.sp S.en as S.xs (rC R (r1++(last,d,m)::r2)++rest)):HH ((h++[Nd.dct [] []]).set R (.lst ((r1++(-1,h.length,[])::r2).map rV))) g W S.bx S.sp S.en as S.xs (rC R (r1++(-1,h.length,[])::r2)++(d,.dct (kM m) (aM m))::rest):=by
 refine HH.of ?_ X.ly
 have A:=At.new (Nd.dct [] []) (a:=hC g W S as++[(R,.lst _)]) (by
  have:=X.c
  unfold rC at this
  simpa using this)
 have A:At (h++[Nd.dct [] []]) (hC g W S as++(R,.lst ((r1++(last,d,m)::r2).map rV))::(h.length,.dct [] [])::((r1++(last,d,m)::r2).map rD++rest)):=by simpa using A
 have A:=At.upd (.lst ((r1++(-1,h.length,[])::r2).map rV)) A
 refine A.perm ?_
 refine List.Perm.append_left _ (List.Perm.cons _ ?_)
 rw [map_append,map_append,map_cons,map_cons]
 show (r1.map rD++(h.length,Nd.dct [] [])::r2.map rD++(d,.dct _ _)::rest).Perm _
 rw [append_assoc,append_assoc,List.cons_append]
 exact List.perm_middle.trans (List.Perm.cons _ (List.Perm.append_left _ List.perm_middle))
theorem ynt {c:Nat×Nd}(X:HH h g W S.bx S.sp S.en as S.xs (own++c::rest)):HH h g W S.bx S.sp S.en as S.xs (own++rest):=HH.of (X.c.sub ((List.Sublist.refl _).append ((List.Sublist.refl _).append (List.sublist_cons_self _ _)))) X.ly
theorem yEL {c c':Nd}(X:HH h g W S.bx S.sp S.en as S.xs (own++(d,c)::rest)):HH (h.set d c') g W S.bx S.sp S.en as S.xs (own++rest):=by
 have A:=X.c
 rw [<- append_assoc] at A
 have A:=At.upd c' A
 rw [append_assoc] at A
 exact ynt (HH.of A X.ly)
theorem yEM {k n:Nat}:ycK (kM m) (aM m) (.inl k) (.int n)=(kM (yns m k n),aM (yns m k n)):=by
 have e:=yvj (m:=m.map fun p=>(p.1,(p.2:Nat),0)) (k:=k) (a:=n) (b:=0) (f:=fun p=>.int p.2.1) rfl
 have j:∀ m,sK (m.map fun p=>(p.1,(p.2:Nat),0))=kM m/\sA (m.map fun p=>(p.1,(p.2:Nat),0))=aM m:=fun m=>⟨by unfold sK kM;rw [map_map];rfl,by unfold sA aM;rw [map_map];rfl⟩
 have p:ydW (m.map fun p=>(p.1,(p.2:Int),0)) k n 0=(yns m k n).map fun p=>(p.1,(p.2:Int),0):=by
  unfold ydW yns
  rw [map_map,show ((fun p=>p.1) ∘ fun p:Nat×Nat=>(p.1,(p.2:Int),(0:Int)))=(·.1) from rfl]
  split
  .rw [map_map,map_map]
   refine List.map_congr_left fun q _=>?_
   show (if q.1=k then _ else _)=_
   show _=(fun p:Nat×Nat=>(p.1,(p.2:Int),0)) (if q.1=k then _ else _)
   split<;>rfl
  .rw [map_append];rfl
 have e:ycK _ (sA _) _ _=(sK _,sA _):=e
 simp_all
end
def edI:XS:=ybD (yr (yd 7)) (yea (yd 1) (yd 6) nwE) (yM)
def edB:XS:=yl edW (yl edI edC)
noncomputable def edS (H R i:Nat) (sts:List Str) (en:List PV) (v5 v6 v7:PVar):PSt:=[.val (.loc H),.val (.loc R),.val (.int (i:Nat)),.val (.lst (sts.map .str)),.val (.lst en),v5,v6,v7]
def ab (r:Lr):Int×List (Nat×Nat):=(r.1,r.2.2)
section
variable {h h1:AH}{W R d i:Nat}{g:HC}{S:St}{as:List (Nat×Lc)}{own rest:List (Nat×Nd)}{rs r1 r2:List Lr}{r:Lr}{t last:Int}{m m':List (Nat×Nat)}{sts:List Str}{en:List PV}{lb:List Nat}{y:HD}
theorem yCQ {v:PV}{eo ei ev:XE}{ρ:PSt}(c:ev ρ h=some (v,h1)) (hR:h1[R]?=some (.lst ((r1++r::r2).map rV))) (e:eo ρ h1=some (.loc R,h1)) (a:ei ρ h1=some (.int r1.length,h1)):yea eo ei ev ρ h=some (.nx ρ,h1.set R (.lst (r1.map rV++v::r2.map rV))):=by
 have b:ixN ((r1++r::r2).map rV).length r1.length=some r1.length:=by
  unfold ixN
  simp
  omega
 unfold yea
 rw [c,ybL,e,ybL,a,ybL]
 simp only [hR,b]
 simp_all
theorem yvx {ρ:PSt}:nwE ρ h=some (.lst [.int (-1),.loc h.length],h++[Nd.dct [] []]):=rfl
theorem ywJ {b:Nat}:∀ m,(yhI (kM m) (aM m) (.inl b)).isSome=decide (b∈m.map (·.1))
 | []=>rfl
 | q::m=>by
  show (if (Sum.inl _:Key)=.inl _ then some _ else yhI (kM m) (aM m) _).isSome=_
  by_cases e:q.1=b
  .simp_all
  .rw [if_neg fun z=>e (by grind),ywJ m,map_cons]
   by_cases w:b∈m.map (·.1)
   .simp_all
   .rw [decide_eq_false w,decide_eq_false fun z=>(mem_cons.mp z).elim (fun z=>e z.symm) w]
theorem yFX (hR:h[R]?=some (.lst ((r1++r::r2).map rV))) (q:h[r.2.1]?=some (.dct (kM r.2.2) (aM r.2.2))) (es:sts[r1.length]?=some (stX y)) (hl:lb.length<=100) {v7:PVar} :
  edW (edS g.H R i sts en (.val (.lst (nV lb))) (.val (.int (r1.length:Nat))) v7) h=some (.nx (edS g.H R i sts en (.val (.lst (nV lb))) (.val (.int (r1.length:Nat))) (.val (.bl (wkQ lb y r.2.2)))),h):=by
 have a:ybC _ _ h=some (.str (stX y),h):=ydl (by rw [getElem?_map,es];rfl)
 have f:=ysA hR (by rw [map_append,getElem?_append_right (by rw [length_map];exact Nat.le_refl _),length_map,sub_self];rfl)
 have l:ybC (rV r) (.int 1) h=some _:=ydl (i:=1) rfl
 have p:∀ ρ,yfP [1,6] ρ=(fun x=>[.val x,.val (.loc R),.val (.int (r1.length:Nat))])->ygW (yuh false (yd 0) (xOp (ybC) (xOp (ybC) (yd 1) (yd 2)) (xC (.int 1)))) (yfP [1,6] ρ) (nV lb) h=some (lb.map _,h):=fun ρ c=>by
  rw [c]
  unfold nV
  refine ydU _ _ fun b _=>?_
  rw [yrH rfl (by
   simp_all? only [f,l,-yeA]) q,ywJ]
 unfold edW wkQ
 unfold edS
 by_cases z:stX y = "asleep"
 .have o:=p [.val (.loc g.H),.val (.loc R),.val (.int (i:Nat)),.val (.lst (sts.map .str)),.val (.lst en),.val (.lst (nV lb)),.val _,v7] rfl
  have k:yri [.lst (lb.map fun b=>PV.bl (decide (b∈r.2.2.map (·.1))))] h=some (.bl (lb.any fun b=>decide (b∈r.2.2.map (·.1))),h):=by
   unfold yri ybE
   simp only [yku _]
   simp_all
  have j:((nV lb).length<=100000)=True:=eq_true (by unfold nV;rw [length_map];omega)
  have n:xIL (yd 5) [.val (.loc g.H),.val (.loc R),.val (.int (i:Nat)),.val (.lst (sts.map .str)),.val (.lst en),.val (.lst (nV lb)),.val (.int (r1.length:Nat)),v7] h=some (nV lb,h):=rfl
  rw [decide_eq_true z,Bool.true_and]
  rw [z] at a
  simp_all? only [a,n,j,o,k,-yeA]
 .rw [decide_eq_false z,Bool.false_and]
  have e:=eq_false z
  simp_all? only [a,e,-yeA]
end
section
variable {h:AH}{W R i:Nat}{g:HC}{S:St}{as:List (Nat×Lc)}{rest:List (Nat×Nd)}{sts:List Str}{en:List PV}{lb:List Nat}
theorem yFY {k:Nat}{d:HD}{v5:PVar}{w:Bool}{s:Str}(X:HH h g W S.bx S.sp S.en as S.xs rest) (l:S.xs[k]?=some d) (es:sts[k]?=some s) (e:k≠i->stX d=if w=true then ("awake":Str) else s) :
  edC (edS g.H R i sts en v5 (.val (.int k)) (.val (.bl w))) h=some (.nx (edS g.H R i sts en v5 (.val (.int k)) (.val (.bl w))),h):=by
 unfold edC edS
 by_cases z:k=i
 .have b:(k=(i:Int))=True:=eq_true (by omega)
  simp_all? only [b]
 .have b:(k=(i:Int))=False:=eq_false (by omega)
  have s1:=yoC X l
  have j:=X.at_.get 0 rfl
  have e:=e z
  have f:ybC _ _ h=some (.str s,h):=ydl (by rw [getElem?_map,es];rfl)
  cases w with
  | true =>
   have c:ybC (.lst [.str s,.str "awake"]) (.int 1) h=some _:=ydl rfl
   simp_all? only [b,ycs,yH (m:="state") j (by rfl'),s1,e,f,c,-yeA]
  | false =>
   have c:ybC (.lst [.str s,.str "awake"]) (.int 0) h=some _:=ydl rfl
   simp_all? only [b,ycs,yH (m:="state") j (by rfl'),s1,e,f,c,-yeA]
theorem yCw (hl:lb.length<=100):∀ (ys:List HD) (r2 a:List Lr) (h:AH) (v6 v7:PVar),ys.length=r2.length->HH h g W S.bx S.sp S.en as S.xs (rC R (a++r2)++rest)->S.xs.length=a.length+r2.length ->
  (∀ (k:Nat) (y:HD),ys[k]?=some y->sts[a.length+k]?=some (stX y)) ->
  (∀ (k:Nat) (y:HD) (r:Lr) (j:HD),ys[k]?=some y->r2[k]?=some r->S.xs[a.length+k]?=some j->a.length+k≠i->stX j=if wkQ lb y r.2.2=true then ("awake":Str) else stX y) ->
  ∃ h' b e f,ydZ (yp 6) edB (nV ((List.range r2.length).map (a.length + ·))) (edS g.H R i sts en (.val (.lst (nV lb))) v6 v7) h=some (.nx (edS g.H R i sts en (.val (.lst (nV lb))) e f),h')/\HH h' g W S.bx S.sp S.en as S.xs (rC R (a++b)++rest)/\b.map ab=wkR lb ys (r2.map ab)
 | [],[],a,h,v6,v7,_,X,_,_,_=>⟨h,[],v6,v7,rfl,X,rfl⟩
 | y::ys,r::r2,a,h,v6,v7,I,X,t,o,A=>by
  have hR:=yCP X
  have C:=yFx X (r:=r) (by simp)
  have u:=o 0 y rfl
  obtain ⟨j,n⟩:∃ j,S.xs[a.length]?=some j:=⟨_,List.getElem?_eq_getElem (by rw [t,length_cons];omega)⟩
  have D:=A 0 y r j rfl rfl n
  have K:=yFX (g:=g) (i:=i) (en:=en) hR C u hl (v7:=v7)
  have st:∃ h1 c,edI (edS g.H R i sts en (.val (.lst (nV lb))) (.val (.int (a.length:Nat))) (.val (.bl (wkQ lb y r.2.2)))) h=some (.nx (edS g.H R i sts en (.val (.lst (nV lb))) (.val (.int (a.length:Nat))) (.val (.bl (wkQ lb y r.2.2)))),h1)/\HH h1 g W S.bx S.sp S.en as S.xs (rC R (a++c::r2)++rest)/\ab c=if wkQ lb y r.2.2=true then (-1,[]) else ab r:=by
   cases w:wkQ lb y r.2.2 with
   | false =>
    refine ⟨h,r,?_,X,by rw [if_neg (by decide)]⟩
    unfold edI edS
    symm
   | true =>
    obtain ⟨q,d,m⟩:=r
    refine ⟨_,(-1,h.length,[]),?_,ynt (ysD X),by rw [if_pos rfl];rfl⟩
    have s:=yCQ (eo:=yd 1) (ei:=yd 6) (ρ:=edS g.H R i sts en (.val (.lst (nV lb))) (.val (.int (a.length:Nat))) (.val (.bl true))) (yvx (h:=h)) (by rw [getElem?_append_left (List.getElem?_eq_some_iff.mp hR).1];exact hR) rfl rfl
    rw [map_append,map_cons]
    refine Eq.trans ?_ s
    rfl
  obtain ⟨h1,c,H,v,B⟩:=st
  have G:=yFY (R:=R) (i:=i) (en:=en) (v5:=.val (.lst (nV lb))) v n u D
  obtain ⟨h',b,e,f,k1,k2,k3⟩:=yCw hl ys r2 (a++[c]) h1 (.val (.int (a.length:Nat))) (.val (.bl (wkQ lb y r.2.2))) (by simpa using I) (by simpa using v) (by rw [t];simp;omega) (fun k z hz=>by
   have:=o (k+1) z hz
   rwa [show a.length+(k+1)=(a++[c]).length+k by simp;omega] at this) fun k z r l hz E x p=>by
   rw [show (a++[c]).length+k=a.length+(k+1) by simp;omega] at x p
   exact A (k+1) z r l hz E x p
  refine ⟨h',c::b,e,f,?_,by simpa using k2,?_⟩
  .have F:edB (edS g.H R i sts en (.val (.lst (nV lb))) (.val (.int (a.length:Nat))) v7) h=some (.nx (edS g.H R i sts en (.val (.lst (nV lb))) (.val (.int (a.length:Nat))) (.val (.bl (wkQ lb y r.2.2)))),h1):=by
    unfold edB
    rw [yhG,K,ybL,yoY,yhG,H,ybL,yoY,G]
   have J:(List.range (r::r2).length).map (a.length + ·)=a.length::(List.range r2.length).map ((a++[c]).length + ·):=by
    rw [length_cons,List.range_succ_eq_map,map_cons,map_map]
    refine congrArg (_::·) (List.map_congr_left fun k _=>?_)
    show a.length+(k+1)=_
    simp
    omega
   rw [J]
   exact (yiE rfl F).trans k1
  .rw [map_cons,k3,B]
   rfl
end
section
variable {h:AH}{W R i:Nat}{g:HC}{S:St}{as:List (Nat×Lc)}{rest:List (Nat×Nd)}{rs:List Lr}{ys:List HD}{en0:List PV}{p:PV}{lb:List Nat}{x x':HD}
theorem yzj:ybC (.lst (en0++[p])) (.int (-1)) h=some (p,h):=by
 have e:atI (en0++[p]) (-1)=some p:=by
  unfold atI ixN
  simp
  rw [if_pos (by omega),show (-1+((en0.length:Int)+1)).toNat=en0.length by omega]
  simp
 rw [yeA,e]
 rfl
theorem yoE (X:HH h g W S.bx S.sp S.en as S.xs (rC R rs++rest)) (O:i<rs.length) (Z:S.xs.length=rs.length) (J:ys.length=rs.length) (h8:rs.length<=8) (P:EnR (i,lb) p) (K:S.xs[i]?=some x') (ss:stX x' = "awake"\/stX x' = "ended")
  (H:∀ (k:Nat) (y:HD) (r:Lr) (u:HD),ys[k]?=some y->rs[k]?=some r->S.xs[k]?=some u->k≠i->stX u=if wkQ lb y r.2.2=true then ("awake":Str) else stX y) :
  ∃ h' rs',ycB [.loc g.H,.loc R,.int (i:Nat),.lst ((ys.map stX).map .str),.lst (en0++[p])] h=some (.bl true,h')/\HH h' g W S.bx S.sp S.en as S.xs (rC R rs'++rest)/\rs'.map ab=wkR lb ys ((rs.map ab).set i (-1,[])):=by
 obtain ⟨b,r,r2,rfl,rfl⟩:=yfd O
 obtain ⟨o,d,m⟩:=r
 have hR:=yCP X
 have C:=ynt (ysD X)
 have M:lb.length<=100:=by
  obtain ⟨_,_,_,_,lw,_,e,l⟩:=P
  have e:lb=lw.map (·.1):=e
  rw [e,length_map]
  exact l
 have w:(b++(-1,h.length,([]:List (Nat×Nat)))::r2).length=(b++(o,d,m)::r2).length:=by simp
 obtain ⟨h',rs',v6,v7,I,E,F⟩:=yCw (i:=b.length) (sts:=ys.map stX) (en:=en0++[p]) (lb:=lb) M ys (b++(-1,h.length,[])::r2) [] _ .no .no (J.trans w.symm) C (by rw [Z,w];simp) (fun k y e=>by rw [length_nil,Nat.zero_add,getElem?_map,e];rfl) fun k y r u z q B s=>by
  rw [length_nil,Nat.zero_add] at B s
  refine H k y r u z ?_ B s
  by_cases l:k<b.length
  .rw [getElem?_append_left l] at q ⊢;exact q
  .rw [getElem?_append_right (by omega)] at q ⊢
   rw [show k-b.length=(k-b.length-1)+1 by omega] at q ⊢
   exact q
 refine ⟨h',rs',?_,E,?_⟩
 .have st:=yoC X K
  have U:=X.at_.get 0 rfl
  have n:ysQ true (.str (stX x')) (.tup [.str "awake",.str "ended"]) h=some (.bl false,h):=by
   rcases ss with e|e<;>rw [e]<;>rfl
  have T:yba [.lst (en0++[p])] h=some (.int ((en0.length+1:Nat):Int),h):=by rw [yds,length_append];rfl
  have s:(((en0.length+1:Nat):Int)=0)=False:=eq_false (by omega)
  have D:=yzj (h:=h) (en0:=en0) (p:=p)
  obtain ⟨j,k,a,c,lw,ep,A,hl⟩:=P
  have A:lb=lw.map (·.1):=A
  have Y:ybc p (.int 0) h=some (.int (b.length:Nat),h):=by rw [ep];rfl
  have L:ybc p (.int 4) h=some (.lst (lw.map ycc),h):=by rw [ep];rfl
  have v:((lw.map ycc).length<=100000)=True:=eq_true (by rw [length_map];omega)
  have f:∀ ρ,ygW (xOp (yzx) (yd 0) (xC (.int 0))) (yfP [] ρ) (lw.map ycc) h=some (nV lb,h):=fun ρ=>by rw [A];exact firsts (h:=h) (ρ:=ρ) lw
  have N:xIL (xOp (ybc) (xOp (ybC) (yd 4) (xUn ytL (xC (.int 1)))) (xC (.int 4))) (edS g.H R b.length (ys.map stX) (en0++[p]) .no .no .no) h=some (lw.map ycc,h):=by
   unfold xIL edS
   simp_all? only [D,L,-yeA,-ydE]
  have s3:=yCQ (eo:=yd 1) (ei:=yd 2) (ρ:=edS g.H R b.length (ys.map stX) (en0++[p]) (.val (.lst (nV lb))) .no .no) (yvx (h:=h)) (by rw [getElem?_append_left (List.getElem?_eq_some_iff.mp hR).1];exact hR) rfl rfl
  have s3:yea (yd 1) (yd 2) nwE (edS g.H R b.length (ys.map stX) (en0++[p]) (.val (.lst (nV lb))) .no .no) h=some (.nx (edS g.H R b.length (ys.map stX) (en0++[p]) (.val (.lst (nV lb))) .no .no),(h++[Nd.dct [] []]).set R (.lst ((b++(-1,h.length,[])::r2).map rV))):=by
   rw [map_append,map_cons]
   exact s3
  generalize (h++[Nd.dct [] []]).set R (.lst ((b++(-1,h.length,[])::r2).map rV))=h1 at *
  have G:yiT (yc (xCB (yba) (yc (yd 3) (yh))) (yh)) (edS g.H R b.length (ys.map stX) (en0++[p]) (.val (.lst (nV lb))) .no .no) h1=some (nV ((List.range (b++(-1,h.length,([]:List (Nat×Nat)))::r2).length).map (([]:List Lr).length + ·)),h1):=by
   have z:yc (xCB (yba) (yc (yd 3) (yh))) (yh) (edS g.H R b.length (ys.map stX) (en0++[p]) (.val (.lst (nV lb))) .no .no) h1=some ([.int (ys.length:Nat)],h1):=by
    unfold edS
    symm
    rw [length_map,length_map]
   rw [yjb z (by omega) (by omega),Int.toNat_natCast,J,w]
   unfold ygJ nV
   simp_all
  have s4:yiS (yiT (yc (xCB (yba) (yc (yd 3) (yh))) (yh))) (yp 6) edB (edS g.H R b.length (ys.map stX) (en0++[p]) (.val (.lst (nV lb))) .no .no) h1=some (.nx (edS g.H R b.length (ys.map stX) (en0++[p]) (.val (.lst (nV lb))) v6 v7),h'):=by
   rw [ytY,G,ybL]
   exact I
  clear I E F C X H G
  unfold ycB
  rw [yo]
  show ob (yl _ (yl _ (yl (yea (yd 1) (yd 2) nwE) (yl (yiS _ (yp 6) edB) _))) (edS g.H R b.length (ys.map stX) (en0++[p]) .no .no .no) h) fnK=_
  unfold edS at *
  simp_all? only [T,s,D,Y,ycs,yH (m:="state") U (by rfl'),st,n,N,v,f,s3,s4,-yeA,-ydE,-yds,-ytY]
 .rw [F,map_append,map_append,map_cons,map_cons,List.set_append_right _ _ (by rw [length_map];exact Nat.le_refl _),length_map,sub_self]
  rfl
end
def wq7:XS:=yl (yea (yd 1) (yd 2) (xFz (ydY (yc (xOp (ybc) (yd 3) (xC (.int 1))) (yc (yd 8) (yh)))))) (wq8)
def wq6:XS:=yl (ybD (yr (xOp (oNe) (xCB (yba) (yc (yd 6) (yh))) (yd 5))) (yQ (xC (.bl false))) (yM)) (wq7)
def wq5:XS:=yl (ybD (xOr (yr (xOp (oEq) (xOp (ybc) (yd 3) (xC (.int 0))) (xC (.str "done")))) (yr (xOp (oEq) (xOp (ybc) (yd 3) (xC (.int 0))) (xC (.str "fell"))))) (yQ (yfh (xOp (oEq) (xCB (yba) (yc (yd 6) (yh))) (xOp yfi (yd 5) (xC (.int 1)))) (yW ycB (yc (yd 0) (yc (yd 1) (yc (yd 2) (yc (yd 4) (yc (yd 6) (yh))))))))) (yM)) (wq6)
def wq3:XS:=yl (ybs (xOp (ybC) (yd 1) (yd 2)) (yyu 2 (yjJ (yp 7) (yjJ (yp 8) (yzu))))) (yl (ybD (xOr (yr (xOp (oLe) (xOp (ybc) (yd 3) (xC (.int 1))) (yd 7))) (yqj (yr (xOp (oLt) (yd 7) (xC (.int 0)))) (yr (xOp (oNe) (xOp (ybc) (yd 3) (xC (.int 1))) (xC (.int 0)))))) (yQ (xC (.bl false))) (yM)) (wq5))
noncomputable def wnS (H R i:Nat) (told:PV) (sts:List Str) (n0:Nat) (en:List PV) (v7 v8:PVar):PSt:=[.val (.loc H),.val (.loc R),.val (.int (i:Nat)),.val told,.val (.lst (sts.map .str)),.val (.int (n0:Nat)),.val (.lst en),v7,v8]
section
variable {h:AH}{W R d:Nat}{g:HC}{S:St}{as:List (Nat×Lc)}{rest:List (Nat×Nd)}{rs r1 r2:List Lr}{last:Int}{m:List (Nat×Nat)}{sts:List Str}{en:List PV}{k:Str}{t n0:Nat}{tl:List PV}
theorem yzk:yzy (.tup (.str k::.int t::tl)) (.tup [.str "idle"]) h=some (.bl false,h):=by
 unfold yzy pairE
 dsimp only
 have a:yjX (eqP 40 h) (.str k::.int t::tl) [.str "idle"]=some (decide (k = "idle")):=by
  show (match eqP 40 h (.str k) (.str _),yjX (eqP 40 h) (.int t::tl) [] with|some b,some c=>some _|_,_=>none)=_
  rw [show yjX _ _ []=some true from rfl,show eqP 40 h _ _=some (decide _) by show some _=_;rfl]
  simp
 rw [a]
 simp
theorem yvy {t:Int}:yeP [.int t] h=some (.bl true,h):=by kernel_rfl!
theorem yfe (es:sts[r1.length]?=some "awake") (hR:h[R]?=some (.lst ((r1++(last,d,m)::r2).map rV))) (s:(last=-1/\t=0)\/(0<=last/\last<(t:Nat))) :
  ycV [.loc g.H,.loc R,.int (r1.length:Nat),.tup (.str k::.int (t:Nat)::tl),.lst (sts.map .str),.int (n0:Nat),.lst en] h=ob (wq5 (wnS g.H R r1.length (.tup (.str k::.int (t:Nat)::tl)) sts n0 en (.val (.int last)) (.val (.loc d))) h) fnK:=by
 have p:=yzk (h:=h) (k:=k) (t:=t) (tl:=tl)
 have n:ybC (.lst (sts.map .str)) (.int (r1.length:Nat)) h=some (.str "awake",h):=ydl (by rw [getElem?_map,es];rfl)
 have i:=yvy (h:=h) (t:=(t:Nat))
 have b:ybc (.tup (.str k::.int (t:Nat)::tl)) (.int 1) h=some (.int (t:Nat),h):=by
  have e:atI (PV.str k::.int (t:Nat)::tl) 1=some (.int (t:Nat)):=by
   unfold atI ixN
   rw [if_pos (by decide),if_pos (by rw [length_cons,length_cons];omega),bind_some]
   rfl
  rw [ydE,e]
  rfl
 have q:yiZ yeo [.tup (.str k::.int (t:Nat)::tl),.ty "tuple"] h=some (.bl true,h):=rfl
 have f:yba [.tup (.str k::.int (t:Nat)::tl)] h=some (.int ((tl.length+2:Nat):Int),h):=rfl
 have j:(((tl.length+2:Nat):Int)<2)=False:=eq_false (by omega)
 have o:ybC (.loc R) (.int (r1.length:Nat)) h=some (.lst [.int last,.loc d],h):=ysA hR (by rw [map_append,getElem?_append_right (by rw [length_map];exact Nat.le_refl _),length_map,sub_self];rfl)
 have c:((t:Int)<=last)=False:=eq_false (by omega)
 have a1:ybs (xOp (ybC) (yd 1) (yd 2)) (yyu 2 (yjJ (yp 7) (yjJ (yp 8) (yzu)))) (wnS g.H R r1.length (.tup (.str k::.int (t:Nat)::tl)) sts n0 en .no .no) h=some (.nx (wnS g.H R r1.length (.tup (.str k::.int (t:Nat)::tl)) sts n0 en (.val (.int last)) (.val (.loc d))),h):=by
  unfold wnS
  simp_all? only [o,yBu,-yeA]
 have r:ob (wq3 (wnS g.H R r1.length (.tup (.str k::.int (t:Nat)::tl)) sts n0 en .no .no) h) fnK=ob (wq5 (wnS g.H R r1.length (.tup (.str k::.int (t:Nat)::tl)) sts n0 en (.val (.int last)) (.val (.loc d))) h) fnK:=by
  unfold wq3
  rw [yhG,a1,ybL,yoY]
  unfold wnS
  by_cases z:last<0
  .have a:(last<0)=True:=eq_true z
   have l:((t:Int)=0)=True:=eq_true (by omega)
   simp_all? only [b,c,a,l,-ydE]
  .have a:(last<0)=False:=eq_false z
   simp_all? only [b,c,a,-ydE]
 refine .trans ?_ r
 unfold ycV
 rw [yo]
 show ob (yl _ (yl _ wq3) (wnS g.H R r1.length (.tup (.str k::.int (t:Nat)::tl)) sts n0 en .no .no) h) fnK=_
 unfold wnS
 simp_all? only [p,n,q,f,j,b,i,-yeA,-ydE,-yds]
end
section
variable {h:AH}{W R d:Nat}{g:HC}{S:St}{as:List (Nat×Lc)}{rest:List (Nat×Nd)}{rs r1 r2:List Lr}{last:Int}{m:List (Nat×Nat)}{sts:List Str}{en:List PV}{k:Str}{t n0:Nat}{tl:List PV}
theorem yzD {x:PV}:ybc (.tup (x::tl)) (.int 0) h=some (x,h):=by
 have e:atI (x::tl) 0=some x:=by
  unfold atI ixN
  simp_all
 rw [ydE,e]
 rfl
theorem yFZ {x y:PV}:ybc (.tup (x::y::tl)) (.int 1) h=some (y,h):=by
 have e:atI (x::y::tl) 1=some y:=by
  unfold atI ixN
  rw [if_pos (by decide),if_pos (by rw [length_cons,length_cons];omega)]
  rfl
 rw [ydE,e]
 rfl
theorem yht (a:k≠"done") (b:k≠"fell") (i:en.length=n0) (hR:h[R]?=some (.lst ((r1++(last,d,m)::r2).map rV))) {v7:PVar} :
  ob (wq5 (wnS g.H R r1.length (.tup (.str k::.int t::tl)) sts n0 en v7 (.val (.loc d))) h) fnK=ob (wq8 (wnS g.H R r1.length (.tup (.str k::.int t::tl)) sts n0 en v7 (.val (.loc d))) (h.set R (.lst ((r1++((t:Int),d,m)::r2).map rV)))) fnK:=by
 have j:=fun h=>yzD (h:=h) (x:=.str k) (tl:=.int t::tl)
 have e:=fun h=>yFZ (h:=h) (x:=.str k) (y:=.int t) (tl:=tl)
 have f:=eq_false a
 have c:=eq_false b
 have l:yba [.lst en] h=some (.int n0,h):=by rw [yds,i]
 have ev:xFz (ydY (yc (xOp ybc (yd 3) (xC (.int 1))) (yc (yd 8) yh))) (wnS g.H R r1.length (.tup (.str k::.int t::tl)) sts n0 en v7 (.val (.loc d))) h=some (.lst [.int t,.loc d],h):=by
  unfold wnS
  simp_all? only [e,-ydE]
 have s:=yCQ (eo:=yd 1) (ei:=yd 2) ev hR rfl rfl
 have s:yea (yd 1) (yd 2) (xFz (ydY (yc (xOp ybc (yd 3) (xC (.int 1))) (yc (yd 8) yh)))) (wnS g.H R r1.length (.tup (.str k::.int t::tl)) sts n0 en v7 (.val (.loc d))) h=some (.nx (wnS g.H R r1.length (.tup (.str k::.int t::tl)) sts n0 en v7 (.val (.loc d))),h.set R (.lst ((r1++((t:Int),d,m)::r2).map rV))):=by
  rw [map_append]
  exact s
 have n:wq7 (wnS g.H R r1.length (.tup (.str k::.int t::tl)) sts n0 en v7 (.val (.loc d))) h=wq8 (wnS g.H R r1.length (.tup (.str k::.int t::tl)) sts n0 en v7 (.val (.loc d))) (h.set R (.lst ((r1++((t:Int),d,m)::r2).map rV))):=by
  unfold wq7
  rw [yhG,s,ybL,yoY]
 rw [<- n]
 unfold wq5 wq6 wnS
 simp_all? only [j,f,c,l,-ydE,-yds]
theorem yoF {en0:List PV}{p:PV}{b:Bool}{h':AH}(i:k = "done"\/k = "fell") (q:ycB [.loc g.H,.loc R,.int r1.length,.lst (sts.map .str),.lst (en0++[p])] h=some (.bl b,h')) {v7 v8:PVar} :
  ob (wq5 (wnS g.H R r1.length (.tup (.str k::.int t::tl)) sts en0.length (en0++[p]) v7 v8) h) fnK=some (.bl b,h'):=by
 have f:=yzD (h:=h) (x:=.str k) (tl:=.int t::tl)
 have c:yba [.lst (en0++[p])] h=some (.int (en0.length+1),h):=by rw [yds,length_append];rfl
 have a1:yfi (.int en0.length) (.int 1) h=some (.int (en0.length+1),h):=by symm
 have j:(("fell":Str) = "done")=False:=eq_false (by rfl')
 unfold wq5 wnS
 rcases i with e|e
 .subst e
  simp_all? only [f,c,a1,q,-ydE,-yds,-yzw,-x_i]
 .subst e
  simp_all? only [f,j,c,a1,q,-ydE,-yds,-yzw,-x_i]
end
section
variable {h h1 h2:AH}{W R d i:Nat}{g:HC}{rs r1 r2:List Lr}{last:Int}{m:List (Nat×Nat)}{sts:List Str}{en:List PV}{t n0:Nat}{tl:List PV}{v7:PVar}
theorem yzl (q:yG [.loc g.H,.int i,.lst (sts.map .str),.str "awake"] h=some (.bl true,h)) :
  ob (wq8 (wnS g.H R i (.tup [.str "gone",.int t]) sts n0 en v7 (.val (.loc d))) h) fnK=some (.bl true,h):=by
 have b:=yzD (h:=h) (x:=.str "gone") (tl:=[.int t])
 have c:(("gone":Str) = "anew")=False:=eq_false (by rfl')
 have e:(("gone":Str) = "seen")=False:=eq_false (by rfl')
 have f:(("gone":Str) = "asleep")=False:=eq_false (by rfl')
 have n:ysQ false (.str "gone") (.tup [.str "gone",.str "seen"]) h=some (.bl true,h):=rfl
 unfold wq8 wq9 wnS
 simp_all? only [b,c,e,f,n,q,-ydE]
theorem yCx (q:yG [.loc g.H,.int i,.lst (sts.map .str),.str "asleep"] h=some (.bl true,h)) :
  ob (wq8 (wnS g.H R i (.tup [.str "asleep",.int t]) sts n0 en v7 (.val (.loc d))) h) fnK=some (.bl true,h):=by
 have b:=yzD (h:=h) (x:=.str "asleep") (tl:=[.int t])
 have c:(("asleep":Str) = "anew")=False:=eq_false (by rfl')
 have e:(("asleep":Str) = "seen")=False:=eq_false (by rfl')
 unfold wq8 wq9 wnS
 simp_all? only [b,c,e,q,-ydE]
theorem yzm (hR:h[R]?=some (.lst ((r1++(last,d,m)::r2).map rV))) (b:ybR [.lst en,.int r1.length,.loc d] ((h++[Nd.dct [] []]).set R (.lst ((r1++(-1,h.length,[])::r2).map rV)))=some (.bl true,h2)) (c:yG [.loc g.H,.int r1.length,.lst (sts.map .str),.str "awake"] h2=some (.bl true,h2)) :
  ob (wq8 (wnS g.H R r1.length (.tup [.str "anew",.int t]) sts n0 en v7 (.val (.loc d))) h) fnK=some (.bl true,h2):=by
 have a:=yzD (h:=h) (x:=.str "anew") (tl:=[.int t])
 have s:=yCQ (eo:=yd 1) (ei:=yd 2) (ρ:=wnS g.H R r1.length (.tup [.str "anew",.int t]) sts n0 en v7 (.val (.loc d))) (yvx) (by rw [getElem?_append_left (List.getElem?_eq_some_iff.mp hR).1];exact hR) rfl rfl
 have s:yea (yd 1) (yd 2) nwE (wnS g.H R r1.length (.tup [.str "anew",.int t]) sts n0 en v7 (.val (.loc d))) h=some (.nx (wnS g.H R r1.length (.tup [.str "anew",.int t]) sts n0 en v7 (.val (.loc d))),(h++[Nd.dct [] []]).set R (.lst ((r1++(-1,h.length,[])::r2).map rV))):=by
  rw [map_append]
  exact s
 unfold wq8
 unfold wnS at *
 simp_all? only [a,s,b,c,-ydE]
theorem yzn {k:Nat}{v:Int}(b:h[d]?=some (.dct (kM m) (aM m))) (j:m.length<1000) (q:yG [.loc g.H,.int i,.lst (sts.map .str),.str "awake"] (h.set d (.dct (kM (yns m k en.length)) (aM (yns m k en.length))))=some (.bl true,h.set d (.dct (kM (yns m k en.length)) (aM (yns m k en.length))))) :
  ob (wq8 (wnS g.H R i (.tup [.str "seen",.int t,.int k,.int v]) sts n0 en v7 (.val (.loc d))) h) fnK=some (.bl true,h.set d (.dct (kM (yns m k en.length)) (aM (yns m k en.length)))):=by
 have f:=fun h=>yzD (h:=h) (x:=.str "seen") (tl:=[.int t,.int k,.int v])
 have c:(("seen":Str) = "anew")=False:=eq_false (by rfl')
 have e:(("seen":Str) = "asleep")=False:=eq_false (by rfl')
 have n:∀ h,ysQ false (.str "seen") (.tup [.str "gone",.str "seen"]) h=some (.bl true,h):=fun _=>rfl
 have p:=yhr (ed:=yd 8) (ek:=xOp ybc (yd 3) (xC (.int 2))) (ev:=xCB yba (yc (yd 6) yh)) (ρ:=wnS g.H R i (.tup [.str "seen",.int t,.int k,.int v]) sts n0 en v7 (.val _)) rfl rfl rfl b (by unfold kM;simp_all)
 rw [yEM] at p
 unfold wq8 wq9
 unfold wnS at *
 simp_all? only [f,c,e,n,p,q,-ydE]
 rfl
end
section
variable {h:AH}{W R n:Nat}{g:HC}{S S':St}{as:List (Nat×Lc)}{rest:List (Nat×Nd)}{rs:List Lr}{es:Es}{xs1 xs2:List HD}{x:HD}{told:PV}
theorem ysE {k:Nat}{y:HD}(e:S.xs[k]?=some y):(S.xs.map stX)[k]?=some (stX y):=by simp_all
theorem yih {x':HD}{mine:Str}{bx sp:List Int}{en:List PV}(X:HH h g W bx sp en as (xs1++x'::xs2) rest) (a:S.xs=xs1++x::xs2) (c:S.xs.length<=8) (e:stX x'=mine):yG [.loc g.H,.int xs1.length,.lst ((S.xs.map stX).map .str),.str mine] h=some (.bl true,h):=by
 refine yzh (S:=⟨bx,sp,en,_⟩) X (by rw [length_map,a];simp) (by rw [length_map];exact c) fun k y b=>?_
 by_cases z:k=xs1.length
 .subst z
  rw [yiH] at b
  exact ⟨_,ysE (by rw [a];exact yiH),by simp_all⟩
 .refine ⟨_,ysE ?_,by rw [if_neg z]⟩
  rw [a,<- ypp z]
  exact b
theorem ysF (st:stX x = "awake") {n:Nat}{bf:List Int}{rows:List PV}{s:RS}:stX { x with nth:=n,bf:=bf,rows:=rows,s:=s } = "awake"\/stX { x with nth:=n,bf:=bf,rows:=rows,s:=s } = "ended":=by
 have:x.sl=false:=by
  cases e:x.sl with
  | false=>rfl
  | true =>
   unfold stX at st
   split at st
   .exact absurd st (by rfl')
   .exact absurd st (by rfl')
 unfold stX
 rw [this]
 by_cases e:n=x.ds.length
 .exact .inr (if_pos e)
 .exact .inl (by rw [if_neg e];rfl)
theorem yzo {y:HD}{sp:List Int}{b:Bool}(e:(asB y && stB y.s.sn sp)=b):stX (ycX sp y)=if b=true then ("awake":Str) else stX y:=by
 unfold ycX
 rw [e]
 cases b with
 | false=>simp_all
 | true =>
  rw [if_pos rfl,if_pos rfl]
  rw [Bool.and_eq_true_iff] at e
  have n:=e.1
  unfold asB at n
  rw [Bool.and_eq_true_iff] at n
  unfold stX
  rw [if_neg (of_decide_eq_true n.1)]
  rfl
theorem ysG:∀ {xs:List HD}{rs:List _},rs.length=xs.length->wkR [] xs rs=rs
 | [],[],_=>rfl
 | y::xs,r::rs,h=>by
  show (if wkQ [] y r.2=true then (-1,[]) else r)::wkR [] xs rs=_
  rw [ysG (by simpa using h),if_neg (by unfold wkQ;simp_all)]
theorem yzp (T:Tc S xs1 x xs2 told S') (j:S.xs=xs1++x::xs2) (w:SW W n S) (I:LI S es (rs.map ab)) (X:HH h g W S'.bx S'.sp S'.en as S'.xs (rC R rs++rest)) (K:S.xs.length<=8) (O:S'.en.length<=1000) :
  ∃ h' rs' es',ycV [.loc g.H,.loc R,.int (xs1.length:Nat),told,.lst ((S.xs.map stX).map .str),.int (S.en.length:Nat),.lst S'.en] h=some (.bl true,h')/\HH h' g W S'.bx S'.sp S'.en as S'.xs (rC R rs'++rest)/\LI S' es' (rs'.map ab):=by
 have E:rs.length=S.xs.length:=by have:=I.len;rwa [length_map] at this
 obtain ⟨M,⟨u,d,m⟩,r2,rfl,D⟩:=yfd (l:=rs) (i:=xs1.length) (by rw [E,j];simp)
 have wX:=w.x x (by rw [j];simp)
 have U:∀ y∈S.xs,∀ p∈y.s.sn,p.1<S.sp.length:=fun y hy p hp=>by rw [w.p];exact (w.x y hy).nf.hb p hp
 have L:LR S.sp es xs1.length x u m:=by
  obtain ⟨r,C,L⟩:=I.at_ j
  rw [getElem?_map,<- D,getElem?_append_right (Nat.le_refl _),sub_self] at C
  cases C
  exact L
 have f:=ysE (S:=S) (k:=xs1.length) (y:=x) (by rw [j];exact yiH)
 have o:∀ r:Lr,((M++(u,d,m)::r2).map ab).set xs1.length (ab r)=(M++r::r2).map ab:=fun r=>by
  rw [map_append,map_append,map_cons,map_cons,<- D,List.set_append_right _ _ (by rw [length_map];exact Nat.le_refl _),length_map,sub_self]
  rfl
 have nd:(m.map (·.1)).Nodup:=by rw [L.ks];exact wX.nf.nd
 have hR:=yCP X
 cases T with
 | idle st =>
  refine ⟨h,_,es,?_,X,I⟩
  have q:=yih (S:=S) (x:=x) (x':=x) (mine:=stX x) (by rw [<- j];exact X) j K rfl
  have i1:ybC (.lst ((S.xs.map stX).map .str)) (.int (xs1.length:Nat)) h=some (.str (stX x),h):=ydl (by rw [getElem?_map,f];rfl)
  have C:yzy (.tup [.str "idle"]) (.tup [.str "idle"]) h=some (.bl true,h):=rfl
  have G:(stX x = "awake")=False:=eq_false st
  have l1:yba [.lst S.en] h=some (.int (S.en.length:Nat),h):=by rw [yds]
  clear X I hR L
  unfold ycV
  rw [yo]
  show ob (yl _ _ (wnS g.H R xs1.length (.tup [.str "idle"]) (S.xs.map stX) S.en.length S.en .no .no) h) fnK=_
  unfold wnS
  simp_all? only [C,i1,G,l1,q,-yeA,-yds]
 | gone s' st ht e =>
  have B:=yoD (S:=⟨S.bx,S.sp,S.en,xs1++{ x with s:=s' }::xs2⟩) (t:=(x.s.t:Nat)) X
  have q:=yih (S:=S) (x:=x) (mine:="awake") B j K st
  rw [st] at f
  rw [<- D] at f q ⊢
  refine ⟨_,_,es,(yfe f hR (L.la st)).trans ((yht (by rfl') (by rfl') rfl hR).trans (yzl q)),B,?_⟩
  rw [<- o]
  exact I.gone j L st ht e
 | anew st fr =>
  obtain ⟨I1,Z⟩:=I.anew j L (U x (by rw [j];simp)) fr
  have B:=yoD (S:=⟨S.bx,S.sp,S.en,xs1++{ x with sl:=false,s:=S0 x.bf }::xs2⟩) (t:=(x.s.t:Nat)) X
  have J:=ysD B
  have hd:=J.c.mem (mem_append_right _ (mem_append_right _ mem_cons_self))
  have la:=yzi (i:=xs1.length) I.en nd hd O Z
  have X3:=yEL (c':=.fz (kM m) (aM m)) J
  have sx:stX { x with sl:=false,s:=S0 x.bf } = "awake":=by
   have:x.sl=false:=by
    cases e:x.sl with
    | false=>rfl
    | true =>
     unfold stX at st
     split at st
     .exact absurd st (by rfl')
     .exact absurd st (by rfl')
   have e:stX { x with sl:=false,s:=S0 x.bf }=stX x:=by unfold stX;rw [this]
   rw [e]
   exact st
  have q:=yih (S:=S) (x:=x) (mine:="awake") X3 j K sx
  rw [st] at f
  rw [<- D] at f q la ⊢
  refine ⟨_,_,es,(yfe f hR (L.la st)).trans ((yht (by rfl') (by rfl') rfl hR).trans (yzm (yCP B) la q)),X3,?_⟩
  rw [<- o]
  exact I1
 | seen k v hs st hk =>
  have B:=yoD (S:=⟨S.bx,S.sp,S.en,xs1++{ x with s:=⟨x.s.t+1,hs,x.s.sd,x.s.dd,ydW x.s.sn k v (S.sp.getD k 0)⟩ }::xs2⟩) (t:=(x.s.t:Nat)) X
  have J:=yCv (m':=yns m k S.en.length) B
  have q:=yih (S:=S) (x:=x) (mine:="awake") J j K st
  have hm:m.length<1000:=by
   have:=congrArg length L.ks
   rw [length_map,length_map] at this
   have:=wX.nf.hl
   omega
  rw [st] at f
  rw [<- D] at f q ⊢
  refine ⟨_,_,es,(yfe f hR (L.la st)).trans ((yht (by rfl') (by rfl') rfl hR).trans (yzn (yFx B (r:=(((x.s.t:Nat):Int),d,m)) (by simp)) hm q)),J,?_⟩
  rw [<- o,<- I.en.len]
  exact I.seen j L st hk
 | slp st fr =>
  have B:=yoD (S:=⟨S.bx,S.sp,S.en,xs1++{ x with sl:=true }::xs2⟩) (t:=(x.s.t:Nat)) X
  have sx:stX { x with sl:=true } = "asleep":=by
   unfold stX at st ⊢
   split at st
   .exact absurd st (by rfl')
   .rename_i z
    rw [if_neg z,if_pos rfl]
  have q:=yih (S:=S) (x:=x) (mine:="asleep") B j K sx
  rw [st] at f
  rw [<- D] at f q ⊢
  refine ⟨_,_,es,(yfe f hR (L.la st)).trans ((yht (by rfl') (by rfl') rfl hR).trans (yCx q)),B,?_⟩
  rw [<- o]
  exact I.slp j L st fr
 | fell kk a rows' st =>
  have F:(xs1++{ x with nth:=x.nth+1,rows:=rows',s:=S0 x.bf }::xs2).length=(M++(u,d,m)::r2).length:=by rw [E,j];simp
  have sx:=ysF st (n:=x.nth+1) (bf:=x.bf) (rows:=rows') (s:=S0 x.bf)
  obtain ⟨h',rs',H,P,N⟩:=yoE (S:=⟨S.bx,S.sp,S.en++[ypA xs1.length x kk a [] x.bf],xs1++{ x with nth:=x.nth+1,rows:=rows',s:=S0 x.bf }::xs2⟩) (ys:=S.xs) (i:=xs1.length) (en0:=S.en) (p:=ypA xs1.length x kk a [] x.bf) (lb:=[]) X (by rw [E,j];simp) F E.symm (by omega) ⟨_,_,_,_,[],rfl,rfl,zero_le _⟩ yiH sx fun k y r Y C _ A G=>by
   rw [if_neg (by unfold wkQ;rw [List.any_nil,Bool.and_false];decide)]
   have A:(xs1++{ x with nth:=x.nth+1,rows:=rows',s:=S0 x.bf }::xs2)[k]?=some Y:=A
   rw [ypp G (x':=x),<- j,C] at A
   cases A
   rfl
  rw [st] at f
  refine ⟨h',rs',es++[(xs1.length,[])],?_,P,?_⟩
  .rw [<- D] at f H ⊢
   exact (yfe f hR (L.la st)).trans (yoF (.inr rfl) H)
  .rw [N,ysG (by rw [length_set,I.len])]
   exact I.fell j
 | done lw a rows' c st hlw =>
  have F:((xs1++{ x with nth:=x.nth+1,bf:=c,rows:=rows',s:=S0 c }::xs2).map (ycX (ygu S.sp lw))).length=(M++(u,d,m)::r2).length:=by rw [E,j];simp
  have sx:=ysF st (n:=x.nth+1) (bf:=c) (rows:=rows') (s:=S0 c)
  obtain ⟨h',rs',H,P,N⟩:=yoE (S:=⟨ypz S.bx lw,ygu S.sp lw,S.en++[ypA xs1.length x (.tup [.str "done"]) a (lw.map ycc) c],(xs1++{ x with nth:=x.nth+1,bf:=c,rows:=rows',s:=S0 c }::xs2).map (ycX (ygu S.sp lw))⟩) (ys:=S.xs) (i:=xs1.length) (en0:=S.en) (p:=ypA xs1.length x (.tup [.str "done"]) a (lw.map ycc) c) (lb:=lw.map (·.1)) X (by rw [E,j];simp) F E.symm (by omega) ⟨_,_,_,_,lw,rfl,rfl,hlw⟩ (by
   show ((xs1++{ x with nth:=x.nth+1,bf:=c,rows:=rows',s:=S0 c }::xs2).map (ycX (ygu S.sp lw)))[xs1.length]?=some { x with nth:=x.nth+1,bf:=c,rows:=rows',s:=S0 c }
   rw [getElem?_map,yiH]
   exact congrArg some (yoB st)) sx fun k y r Y C e2 A G=>by
   have A:((xs1++{ x with nth:=x.nth+1,bf:=c,rows:=rows',s:=S0 c }::xs2).map (ycX (ygu S.sp lw)))[k]?=some Y:=A
   rw [getElem?_map,ypp G (x':=x),<- j,C] at A
   have A:=Option.some.inj A
   subst A
   exact yzo (yoA (I.r k y (ab r) C (by rw [getElem?_map,e2];rfl)) (U y (mem_of_getElem? C)))
  rw [st] at f
  refine ⟨h',rs',es++[(xs1.length,lw.map (·.1))],?_,P,?_⟩
  .rw [<- D] at f H ⊢
   exact (yfe f hR (L.la st)).trans (yoF (.inl rfl) H)
  .rw [N]
   exact I.done j st hlw U
end
noncomputable def lwS (ns:List Int) (H:Int) (nn G R:Nat) (v5 v6 v7 v8 v9:PVar):PSt:=[.val (.scr ns),.val (.int H),.val (.loc nn),.val (.loc G),.val (.loc R),v5,v6,v7,v8,v9]
section
variable {W R nn:Nat}{ns:List Int}{H:Int}{g:HC}{rest:List (Nat×Nd)}{hl:List PV}
theorem yzq {h:AH}{S:St}{r:List (Nat×Lc)}{u:List Lr}{es:Es}{n i:Nat}{v6 v7 v8 v9:PVar}(h1:1<=W) (Z:W<=3) (w:SW W n S) (Y:n<900) (C:S.xs.length<=8) (E:hl.length=S.xs.length) (J:i<S.xs.length) (I:LI S es (u.map ab)) (X:HH h g W S.bx S.sp S.en r S.xs (rC R u++(nn,.lst hl)::rest)) :
  ∃ h' b S' rs' c K z D,lwB (lwS ns H nn g.H R (.val (.lst S.en)) (.val (.int (i:Nat))) v7 v8 v9) h=some (.nx (lwS ns H nn g.H R (.val (.lst S'.en)) (.val (.int (i:Nat))) K z D),h')/\SW W (n+1) S'/\S'.xs.length=S.xs.length/\LI S' c (rs'.map ab)/\HH h' g W S'.bx S'.sp S'.en b S'.xs (rC R rs'++(nn,.lst hl)::rest):=by
 obtain ⟨d,S',T⟩:=yzb w h1 Z Y J
 obtain ⟨ht,b,P,f⟩:=T.t h g r _ X
 obtain ⟨xs1,x,xs2,B,rfl,tc⟩:=T.c
 obtain ⟨h',rs',c,G,p,t⟩:=yzp tc B w I f C (by have:=T.w.n;omega)
 have N:=yvo f (fun e A=>by
  obtain ⟨_,_,_,_,_,_,_,rfl,_⟩:=T.w.e e A
  exact ⟨_,_,_,_,_,_,rfl⟩) (by have:=T.w.n;omega)
 have q:=X.at_.get 0 rfl
 have o:=f.at_.get 0 rfl
 have F:yba [.loc nn] h=some (.int (S.xs.length:Nat),h):=by rw [<- E];exact yfD (X.c.mem (mem_append_right _ (mem_append_right _ mem_cons_self)))
 have O:yba [.lst S.en] h=some (.int (S.en.length:Nat),h):=by rw [yds]
 have U:yiT (yc (xCB (yba) (yc (yd 2) (yh))) (yh)) (lwS ns H nn g.H R (.val (.lst S.en)) (.val (.int (xs1.length:Nat))) v7 v8 v9) h=some (ygJ 0 S.xs.length,h):=by
  have v:yc (xCB (yba) (yc (yd 2) (yh))) (yh) (lwS ns H nn g.H R (.val (.lst S.en)) (.val (.int (xs1.length:Nat))) v7 v8 v9) h=some ([.int (S.xs.length:Nat)],h):=by
   unfold lwS
   simp_all? only [F,-yds]
  rw [yjb v (by omega) (by omega),Int.toNat_natCast]
 have L:ygW (yj 15 "state" ybq (yd 1) (yc (yd 0) (yh))) (yfP [3] (lwS ns H nn g.H R (.val (.lst S.en)) (.val (.int (xs1.length:Nat))) v7 v8 v9)) (ygJ 0 S.xs.length) h=some ((S.xs.map stX).map .str,h):=by
  have e:(S.xs.map stX).map PV.str=(List.range S.xs.length).map fun k=>PV.str (stX (S.xs.getD k x)):=by
   apply List.ext_getElem?
   intro k
   rw [getElem?_map,getElem?_map,getElem?_map]
   by_cases l:k<S.xs.length
   .rw [List.getElem?_range l,List.getElem?_eq_getElem l]
    show _=some (PV.str (stX (S.xs.getD k x)))
    rw [getD_eq_getElem?_getD,List.getElem?_eq_getElem l]
    rfl
   simp_all
  rw [e]
  unfold ygJ
  refine ydU (fun k:Nat=>PV.int (0+(k:Int))) _ fun k j=>?_
  have j:=List.mem_range.mp j
  have s:=yoC X (k:=k) (y:=S.xs.getD k x) (by rw [getD_eq_getElem?_getD,List.getElem?_eq_getElem j];rfl)
  show yj 15 "state" ybq (yd 1) (yc (yd 0) (yh)) [.val (.int (0+(k:Int))),.val (.loc g.H)] h=_
  rw [zero_add]
  simp_all? only [ycs,yH (m:="state") q (by rfl'),s]
 have M:((ygJ 0 S.xs.length).length<=100000)=True:=eq_true (by unfold ygJ;rw [length_map,List.length_range];omega)
 refine ⟨h',b,S',rs',c,.val (.lst ((S.xs.map stX).map .str)),.val (.int (S.en.length:Nat)),.val d,?_,T.w,T.l,t,p⟩
 clear I t X f p tc T w
 unfold lwB
 unfold lwS at *
 simp_all? only [U,M,L,O,ycs,yH (m:="turn") q (by rfl'),P,yH (m:="journal") o (by rfl'),N,G,-yds]
theorem ysH (h1:1<=W) (p:W<=3):∀ a n h S r m es v6 v7 v8 v9,SW W n S->n+a.length<=900->S.xs.length<=8->hl.length=S.xs.length->(∀ i∈a,i<S.xs.length)->LI S es (m.map ab)->HH h g W S.bx S.sp S.en r S.xs (rC R m++(nn,.lst hl)::rest) ->
  ∃ h' o l c f b,ydZ (yp 6) lwB (nV a) (lwS ns H nn g.H R (.val (.lst S.en)) v6 v7 v8 v9) h=some (.nx (lwS ns H nn g.H R o l c f b),h')
 | [],_,h,S,_,_,_,v6,v7,v8,v9,_,_,_,_,_,_,_=>⟨h,_,v6,v7,v8,v9,rfl⟩
 | i::a,n,h,S,r,m,es,v6,v7,v8,v9,w,B,y,x,u,I,X=>by
  rw [length_cons] at B
  obtain ⟨h',e,S',rs',d,C,s,z,q,E,l',A,D⟩:=yzq (v6:=v6) h1 p w (by omega) y x (u i mem_cons_self) I X
  obtain ⟨h2,a5,a6,a7,v,t,k⟩:=ysH h1 p a _ h' S' e rs' d _ C s z E (by omega) (by omega) (by omega) (fun j F=>by simp_all) A D
  exact ⟨h2,a5,a6,a7,v,t,(yiE rfl (q)).trans k⟩
end
section
variable {h h':AH}{m:List (Nat×Nd)}
theorem At.ext {e:List _}(A:At h m) (a:∀ i,i<h.length->h'[i]?=h[i]?) (d:(e.map (·.1)).Nodup) (j:∀ p∈e,h.length<=p.1) (c:∀ p∈e,h'[p.1]?=some p.2):At h' (e++m):=by
 have lt:∀ p∈m,p.1<h.length:=fun p hp=>A.lt hp
 refine ⟨?_,fun p hp=>?_⟩
 .rw [map_append,List.nodup_append]
  refine ⟨d,A.1,fun x b y f z=>?_⟩
  obtain ⟨p,hp,rfl⟩:=List.mem_map.mp b
  obtain ⟨q,g,rfl⟩:=List.mem_map.mp f
  grind
 .rcases List.mem_append.mp hp with hp|hp
  .exact c p hp
  .rw [a _ (lt p hp)]
   exact A.2 p hp
end
def dsV (cs:List Int) (m j:Nat):List (Str×List Rw):=(hnd cs m cs.length j).map fun ps=>(dTx ps,DR (dSg ps) 0)
def S00 (H:Int) (cs:List Int) (m:Nat):St:=⟨bxV H,replicate (bW H) 0,[],(List.range m).map fun j=>hd0 (dsV cs m j)⟩
theorem sw0 {H:Int}{cs:List Int}{m:Nat}:SW (bW H) 0 (S00 H cs m):=by
 obtain ⟨n,o,p,g⟩:=yoz
 refine ⟨n,by simp [S00],g,fun x k=>?_,(fun _ h=>by cases h),Nat.le_refl _⟩
 obtain ⟨j,_,rfl⟩:=List.mem_map.mp k
 have e:GV Z8:=⟨rfl,fun v hv=>by
  rw [show v=0 by simpa [Z8] using hv]
  exact in0⟩
 have c:∀ d∈dsV cs m j,∃ P,ywx d.2 P:=fun d l=>by
  obtain ⟨ps,hp,rfl⟩:=List.mem_map.mp l
  exact ⟨_,yyZ (ysz ps hp).1⟩
 generalize dsV cs m j=ds at *
 refine ⟨fun i b=>?_,zero_le _,e,NF0,yFs ds,fun f=>?_⟩
 .have b:=by simpa [hd0] using b
  obtain ⟨P,G⟩:=c _ (getElem_mem b)
  refine ⟨_,P,?_,G⟩
  show (ds.map ysR)[i]?=_
  rw [getElem?_map,List.getElem?_eq_getElem b]
  rfl
 .cases ds with
  | nil=>exact absurd f (by decide)
  | cons d r =>
   obtain ⟨P,G⟩:=c d mem_cons_self
   exact ⟨_,P,rfl,G,.start G e⟩
section
variable {h:AH}{ns:List Int}
theorem ysI {α:Type}{n:Nat}{l:List α}{f g:α->PV}{E:XE}{inn:PV->PSt}(e:h[n]?=some (.lst (l.map f))) (d:∀ a∈l,E (inn (f a)) h=some (g a,h)):∀ k i,i+k=l.length->ynh n E inn k i h=some ((l.drop i).map g,h)
 | 0,i,j=>by
  unfold ynh
  grind
 | k+1,i,j=>by
  have c:i<l.length:=by omega
  unfold ynh
  simp only [e,getElem?_map,List.getElem?_eq_getElem c,map_some]
  rw [d _ (getElem_mem c),ybL,ysI e d k _ (by omega),List.drop_eq_getElem_cons c]
  rfl
theorem ysJ {n:Nat}{xs:List PV}{ρ:PSt}:∀ k i h,h[n]?=some (.lst xs)->i+k=xs.length->ynh n nwE (yfP [] ρ) k i h=some ((List.range k).map fun j=>.lst [.int (-1),.loc (h.length+j)],h++replicate k (Nd.dct [] []))
 | 0,i,h,e,c=>by
  unfold ynh
  simp_all
 | k+1,i,h,e,c=>by
  have b:i<xs.length:=by omega
  unfold ynh
  simp only [e,List.getElem?_eq_getElem b]
  rw [yvx,ybL,ysJ k _ _ (by rw [getElem?_append_left (List.getElem?_eq_some_iff.mp e).1];exact e) (by omega),List.range_succ_eq_map,map_cons,map_map,append_assoc]
  refine congrArg some (Prod.ext (congrArg (_::·) (List.map_congr_left fun j _=>?_)) rfl)
  show PV.lst _=.lst _
  rw [length_append,List.length_singleton,Nat.add_assoc,Nat.add_comm 1 j]
theorem yCy (ns:List Int) (hl:ns.length<=63):∃ h',yuN [.scr ns] h=some (.bl true,h'):=by
 obtain ⟨H,hH⟩:∃ H:Int,ns.getD 0 0%1000000000000000000000000000000=H:=⟨_,rfl⟩
 have P:2<=yeB H/\yeB H<=4:=by unfold yeB;omega
 have hc:=ysx (ns:=ns)
 obtain ⟨b1,b2,b3,b4⟩:=yoz (H:=H)
 have c0:ycv [.scr ns,.int 0] h=some (.int (ns.getD 0 0),h):=ypo 0
 have hh:=ysB (h:=h) (ns:=ns) (H:=H)
 have en:=yEJ (h:=h) (cs:=hcs ns) (m:=yeB H) (k:=(hcs ns).length)
 have ej:=fun j=>yFt (h:=h) (cs:=hcs ns) (m:=yeB H) (k:=(hcs ns).length) (j:=j)
 generalize hcs ns=cs at *
 generalize hK h cs (yeB H) cs.length=h1 at *
 generalize yeB H=m at *
 have bx:=yvv (h:=h1) (H:=H)
 obtain ⟨h2,g,O,q2,qg,X0⟩:=ysp (h:=h1) (bx:=bxV H) (hs:=(List.range m).map (dsV cs m)) (by omega) (by omega) b4 (fun p hp=>by
  obtain ⟨t,ht,rfl⟩:=List.mem_map.mp hp
  refine ⟨by show (dsV cs m t).length<=6;unfold dsV;rw [length_map];exact ysy P.1 P.2 hc (List.mem_range.mp ht),fun d hd=>?_⟩
  obtain ⟨ps,I,rfl⟩:=List.mem_map.mp hd
  exact (ywC (ysz ps I).1 (ysz ps I).2).1) (by simp;omega) (by simp;omega)
 have X:HH h2 g (bW H) (S00 H cs m).bx (S00 H cs m).sp (S00 H cs m).en O (S00 H cs m).xs [(h.length+m,.lst ((List.range m).map fun j=>.loc (h.length+j)))]:=by
  have:=X0 _ (⟨by simp,fun p hp=>by rw [List.mem_singleton.mp hp];exact en⟩:At h1 [(h.length+m,.lst ((List.range m).map fun j=>.loc (h.length+j)))])
  rw [b1,map_map] at this
  exact this
 have S:∀ ρ,yd 2 ρ h1=some (.loc (h.length+m),h1)->yew (yd 2) [] (xFz (yhm (yX) (yc (yd 0) (yh)))) ρ h1=some (.lst (hsV ((List.range m).map (dsV cs m))),h1):=fun ρ D=>by
  have c:=ysI (h:=h1) (n:=h.length+m) (l:=List.range m) (f:=fun j=>.loc (h.length+j)) (g:=fun j=>.lst ((dsV cs m j).map txV)) (E:=xFz (yhm (yX) (yc (yd 0) (yh)))) (inn:=yfP [] ρ) en (fun j C=>by
   have l:=yjW (ej j (List.mem_range.mp C))
   show xFz (yhm (yX) (yc (yd 0) (yh))) [.val (.loc (h.length+j))] h1=_
   simp_all? only [l]
   unfold dsV
   rw [map_map]
   rfl) m 0 (by rw [List.length_range];omega)
  unfold yew
  rw [D,ybL]
  simp only [en]
  rw [if_pos (by simp;omega),length_map,List.length_range,c]
  unfold hsV
  rw [map_map]
  rfl
 obtain ⟨R,w⟩:∃ R,R=h2.length+m:=⟨_,rfl⟩
 obtain ⟨u,q⟩:∃ u:List Lr,u=(List.range m).map fun j=>(-1,h2.length+j,[]):=⟨_,rfl⟩
 obtain ⟨k2,v⟩:∃ k2,k2=h2++replicate m (Nd.dct [] []):=⟨_,rfl⟩
 have kl:k2.length=R:=by rw [v,w];simp
 obtain ⟨s,F⟩:∃ s,k2++[Nd.lst (u.map rV)]=s:=⟨_,rfl⟩
 have B:s=h2++replicate m (Nd.dct [] [])++[Nd.lst (u.map rV)]:=by rw [<- F,v]
 have T:∀ ρ,yd 2 ρ h2=some (.loc (h.length+m),h2)->yew (yd 2) [] nwE ρ h2=some (.lst (u.map rV),k2):=fun ρ D=>by
  have J:=X.c.mem (a:=h.length+m) (d:=.lst ((List.range m).map fun j=>.loc (h.length+j))) (by simp)
  have c:=ysJ (n:=h.length+m) (ρ:=ρ) m 0 h2 J (by simp)
  unfold yew
  rw [D,ybL]
  simp only [J]
  rw [if_pos (by simp;omega),length_map,List.length_range,c,ybL,v,q,map_map]
  rfl
 have M:HH s g (bW H) (S00 H cs m).bx (S00 H cs m).sp (S00 H cs m).en O (S00 H cs m).xs (rC R u++[(h.length+m,.lst ((List.range m).map fun j=>.loc (h.length+j)))]):=by
  refine HH.of ?_ X.ly
  have A:=X.c.ext (h':=s) (e:=rC R u) (fun i Z=>by rw [B,append_assoc,getElem?_append_left Z]) (by
   have e:(u.map rD).map (·.1)=(List.range m).map fun j=>h2.length+j:=by rw [q,map_map,map_map];rfl
   unfold rC
   rw [map_cons,e,w]
   refine List.nodup_cons.2 ⟨fun z=>?_,(List.nodup_range).map (f:=fun j=>h2.length+j) fun x y e=>by omega⟩
   obtain ⟨j,C,e⟩:=List.mem_map.mp z
   have e:h2.length+j=h2.length+m:=e
   have:=List.mem_range.mp C
   omega) (fun p hp=>by
   rcases mem_cons.mp hp with rfl|hp
   .show h2.length<=R;omega
   .obtain ⟨r,G,rfl⟩:=List.mem_map.mp hp
    rw [q] at G
    obtain ⟨j,_,rfl⟩:=List.mem_map.mp G
    show h2.length<=h2.length+j;omega) fun p hp=>by
   rcases mem_cons.mp hp with rfl|hp
   .show s[R]?=_
    rw [B,w,show h2.length+m=(h2++replicate m (Nd.dct [] [])).length by simp]
    simp
   .obtain ⟨r,G,rfl⟩:=List.mem_map.mp hp
    rw [q] at G
    obtain ⟨j,C,rfl⟩:=List.mem_map.mp G
    have C:=List.mem_range.mp C
    show s[h2.length+j]?=some (Nd.dct [] [])
    rw [B,append_assoc,getElem?_append_right (by omega),Nat.add_sub_cancel_left,getElem?_append_left (by rw [List.length_replicate];exact C),getElem?_replicate,if_pos C]
  refine A.perm ?_
  exact List.perm_append_comm_assoc _ _ _
 have L:(S00 H cs m).xs.length=m:=by unfold S00;simp
 have Y:LI (S00 H cs m) [] (u.map ab):=by
  refine ⟨.nil,fun b hb=>?_,by rw [q,L];simp,fun i x r ex W=>?_⟩
  .show (replicate (bW H) (0:Int)).getD b 0=0
   rw [getD_eq_getElem?_getD,getElem?_replicate]
   split<;>rfl
  .rw [q,map_map] at W
   obtain ⟨j,_,rfl⟩:=List.mem_map.mp (mem_of_getElem? W)
   obtain ⟨j',_,rfl⟩:=List.mem_map.mp (show x∈(List.range m).map fun j=>hd0 (dsV cs m j) from mem_of_getElem? ex)
   exact .new rfl rfl
 obtain ⟨N,q5,Z,U⟩:=yvw (h:=s) (ns:=ns) (m:=m) (by omega) P.2
 obtain ⟨h',v5,v6,v7,v8,v9,K⟩:=ysH (ns:=ns) (H:=H) (hl:=(List.range m).map fun j=>.loc (h.length+j)) b2 b3 N 0 s (S00 H cs m) O u [] .no .no .no .no sw0 (by omega) (by omega) (by rw [L];simp) (by rw [L];exact U) Y M
 refine ⟨h',?_⟩
 have pw:PX.PowOk 10 30=True:=eq_true (by unfold PX.PowOk;decide)
 have lm:yba [.loc (h.length+m)] s=some (.int (m:Nat),s):=by
  have:=yfD (M.c.mem (a:=h.length+m) (d:=.lst ((List.range m).map fun j=>.loc (h.length+j))) (by simp))
  rwa [length_map,List.length_range] at this
 have K:ydZ (yp 6) lwB (nV N) [.val (.scr ns),.val (.int H),.val (.loc (h.length+m)),.val (.loc h1.length),.val (.loc R),.val (.lst []),.no,.no,.no,.no] s=some (.nx [.val (.scr ns),.val (.int H),.val (.loc (h.length+m)),.val (.loc h1.length),.val (.loc R),v5,v6,v7,v8,v9],h'):=by rw [<- qg];exact K
 have S:=S [.val (.scr ns),.val (.int H),.val (.loc (h.length+m)),.no,.no,.no,.no,.no,.no,.no] rfl
 have T:=T [.val (.scr ns),.val (.int H),.val (.loc (h.length+m)),.val (.loc h1.length),.no,.no,.no,.no,.no,.no] rfl
 clear X X0 M Y en ej B q w v
 have il:xIL (yW ydg (yc (yd 0) (yc (xCB (yba) (yc (yd 2) (yh))) (yh)))) [.val (.scr ns),.val (.int H),.val (.loc (h.length+m)),.val (.loc h1.length),.val (.loc R),.val (.lst []),.no,.no,.no,.no] s=some (nV N,s):=by
  unfold xIL
  simp_all? only [lm,q5,-yds]
 unfold yuN
 rw [yo]
 show ob (yl _ (yl _ (yl _ (yl (ybs (ygI (yew (yd 2) [] nwE)) (yp 4)) (yl _ (yl (yiS _ (yp 6) lwB) _))))) [.val (.scr ns),.no,.no,.no,.no,.no,.no,.no,.no,.no] h) fnK=_
 simp_all? only [c0,pw,hH,hh,bx,S,yrg,q2,T,kl,F,il,K]
end
end
noncomputable def top (i:Nat):Stmt:=PySem.Challenge.pw_retryhall_k66_whole_begun_anew.main.body.getD i (.Pass ⟨0,0,0,0⟩)
noncomputable abbrev FR:=Str×Str×Stmt×Nat×List Str
abbrev fRw (x q:Str) (s:Stmt) (k:Nat) (n:List Str):FR:=(x,q,s,k,n)
noncomputable abbrev mRw (k:Nat) (x:Str) (n:Nat):Nat×Str×Nat:=(k,x,n)
def r0:FR:=fRw "__init__" "Log.__init__" (inClass (top 8) 0) 1 ["self"]
def r1:FR:=fRw "write" "Log.write" (inClass (top 8) 1) 3 ["self","box","number","top"]
def r2:FR:=fRw "own" "Log.own" (inClass (top 8) 2) 2 ["self","box","layer"]
def r3:FR:=fRw "begin" "Log.begin" (inClass (top 8) 3) 1 ["self"]
def r4:FR:=fRw "settle" "Log.settle" (inClass (top 8) 4) 1 ["self","top","beneath"]
def r5:FR:=fRw "drop" "Log.drop" (inClass (top 8) 5) 1 ["self"]
def r6:FR:=fRw "see" "Log.see" (inClass (top 8) 7) 3 ["self","box","number"]
def r7:FR:=fRw "saw" "Log.saw" (inClass (top 8) 8) 1 ["self"]
def r8:FR:=fRw "wrote" "Log.wrote" (inClass (top 8) 9) 1 ["self","lowest"]
def r9:FR:=fRw "reckon" "reckon" (top 15) 3 ["word","one","other"]
def r10:FR:=fRw "is_whole" "is_whole" (top 16) 1 ["value"]
def r11:FR:=fRw "is_number" "is_number" (top 17) 1 ["value"]
def r12:FR:=fRw "is_made_of" "is_made_of" (top 23) 2 ["text","signs"]
def r13:FR:=fRw "number_of" "number_of" (top 18) 1 ["text","number"]
def r14:FR:=fRw "is_word" "is_word" (top 19) 1 ["text"]
def r15:FR:=fRw "is_slot" "is_slot" (top 20) 1 ["text"]
def r16:FR:=fRw "slot_index" "slot_index" (top 21) 1 ["slot"]
def r17:FR:=fRw "is_name" "is_name" (top 22) 1 ["text"]
def r18:FR:=fRw "__init__" "Doer.__init__" (inClass (top 25) 0) 3 ["self","slots","width"]
def r19:FR:=fRw "held_in" "Doer.held_in" (inClass (top 25) 1) 2 ["self","slot"]
def r20:FR:=fRw "hold" "Doer.hold" (inClass (top 25) 2) 3 ["self","slot","number"]
def r21:FR:=fRw "box_at" "Doer.box_at" (inClass (top 25) 3) 2 ["self","place"]
def r22:FR:=fRw "do_reckon" "Doer.do_reckon" (inClass (top 25) 4) 5 ["self","word","slot","one","other"]
def r23:FR:=fRw "do_put" "Doer.do_put" (inClass (top 25) 5) 3 ["self","place","slot"]
def r24:FR:=fRw "sees_at" "Doer.sees_at" (inClass (top 25) 6) 2 ["self","place"]
def r25:FR:=fRw "take_own" "Doer.take_own" (inClass (top 25) 7) 3 ["self","slot","place"]
def r26:FR:=fRw "take_seen" "Doer.take_seen" (inClass (top 25) 8) 4 ["self","slot","place","numbers","box"]
def r27:FR:=fRw "takes" "takes" (top 27) 2 ["begun_by","row"]
def r28:FR:=fRw "__init__" "Run.__init__" (inClass (top 28) 0) 4 ["self","rows","slots","width"]
def r29:FR:=fRw "row" "Run.row" (inClass (top 28) 1) 1 ["self"]
def r30:FR:=fRw "is_stale" "Run.is_stale" (inClass (top 28) 2) 2 ["self","stamps"]
def r31:FR:=fRw "taker_layer" "Run.taker_layer" (inClass (top 28) 3) 2 ["self","row","layer"]
def r32:FR:=fRw "is_looked_over" "Run.is_looked_over" (inClass (top 28) 4) 1 ["self","row"]
def r33:FR:=fRw "see_next" "Run.see_next" (inClass (top 28) 5) 3 ["self","numbers","stamps","row","box"]
def r34:FR:=fRw "go_plain" "Run.go_plain" (inClass (top 28) 7) 2 ["self","row"]
def r35:FR:=fRw "lead" "Run.lead" (inClass (top 28) 8) 2 ["self","row"]
def r36:FR:=fRw "leave" "Run.leave" (inClass (top 28) 10) 2 ["self","row","layer","side","begun_by"]
def r37:FR:=fRw "throw" "Run.throw" (inClass (top 28) 9) 2 ["self","row","number","begun_by"]
def r38:FR:=fRw "go" "Run.go" (inClass (top 28) 6) 1 ["self","row"]
def r39:FR:=fRw "state" "Hand.state" (inClass (top 29) 1) 1 ["self"]
def r40:FR:=fRw "new_run" "Hand.new_run" (inClass (top 29) 2) 1 ["self","rows"]
def r41:FR:=fRw "begin_anew" "Hand.begin_anew" (inClass (top 29) 3) 1 ["self"]
def r42:FR:=fRw "fall_asleep" "Hand.fall_asleep" (inClass (top 29) 4) 1 ["self"]
def r43:FR:=fRw "go_on" "Hand.go_on" (inClass (top 29) 5) 2 ["self","slots"]
def r44:FR:=fRw "__init__" "Hand.__init__" (inClass (top 29) 0) 3 ["self","deeds","width"]
def r45:FR:=fRw "__init__" "Let.__init__" (inClass (top 33) 0) 3 ["self","slot","number"]
def r46:FR:=fRw "__init__" "Reckon.__init__" (inClass (top 34) 0) 5 ["self","word","slot","one","other"]
def r47:FR:=fRw "__init__" "Take.__init__" (inClass (top 35) 0) 3 ["self","slot","place"]
def r48:FR:=fRw "__init__" "Put.__init__" (inClass (top 36) 0) 3 ["self","place","slot"]
def r49:FR:=fRw "__init__" "If.__init__" (inClass (top 37) 0) 4 ["self","slot","parts","others"]
def r50:FR:=fRw "__init__" "Either.__init__" (inClass (top 38) 0) 3 ["self","parts","others"]
def r51:FR:=fRw "__init__" "Try.__init__" (inClass (top 39) 0) 5 ["self","parts","name","slot","others"]
def r52:FR:=fRw "__init__" "Throw.__init__" (inClass (top 40) 0) 3 ["self","name","slot"]
def r53:FR:=fRw "long" "Let.long" (inClass (top 33) 2) 1 ["self"]
def r54:FR:=fRw "long" "Reckon.long" (inClass (top 34) 2) 1 ["self"]
def r55:FR:=fRw "long" "Take.long" (inClass (top 35) 2) 1 ["self"]
def r56:FR:=fRw "long" "Put.long" (inClass (top 36) 2) 1 ["self"]
def r57:FR:=fRw "long" "Throw.long" (inClass (top 40) 2) 1 ["self"]
def r58:FR:=fRw "long" "Wait.long" (inClass (top 41) 1) 1 ["self"]
def r59:FR:=fRw "list_long" "list_long" (top 31) 1 ["parts"]
def r60:FR:=fRw "long" "If.long" (inClass (top 37) 2) 1 ["self"]
def r61:FR:=fRw "long" "Either.long" (inClass (top 38) 2) 1 ["self"]
def r62:FR:=fRw "long" "Try.long" (inClass (top 39) 2) 1 ["self"]
def r63:FR:=fRw "plain_rows" "plain_rows" (top 46) 1 ["part"]
def r64:FR:=fRw "first_row" "first_row" (top 48) 2 ["part","second"]
def r65:FR:=fRw "rows_between" "rows_between" (top 49) 2 ["part","behind"]
def r66:FR:=fRw "list_rows" "list_rows" (top 44) 2 ["parts","first","rows","part"]
def r67:FR:=fRw "part_rows" "part_rows" (top 45) 2 ["part","first"]
def r68:FR:=fRw "sided_rows" "sided_rows" (top 47) 2 ["part","first","behind","second","inner","outer"]
def r69:FR:=fRw "rows_of" "rows_of" (top 43) 1 ["deed"]
def r70:FR:=fRw "__init__" "Reader.__init__" (inClass (top 55) 0) 2 ["self","words"]
def r71:FR:=fRw "words_of" "words_of" (top 54) 1 ["text"]
def r72:FR:=fRw "ahead" "Reader.ahead" (inClass (top 55) 1) 1 ["self"]
def r73:FR:=fRw "taken" "Reader.taken" (inClass (top 55) 2) 1 ["self","word"]
def r74:FR:=fRw "pass_over" "Reader.pass_over" (inClass (top 55) 3) 2 ["self","wanted","word"]
def r75:FR:=fRw "slot_taken" "Reader.slot_taken" (inClass (top 55) 4) 1 ["self","word"]
def r76:FR:=fRw "name_taken" "Reader.name_taken" (inClass (top 55) 5) 1 ["self","word"]
def r77:FR:=fRw "number_taken" "Reader.number_taken" (inClass (top 55) 6) 1 ["self","word","number"]
def r78:FR:=fRw "reckon_taken" "Reader.reckon_taken" (inClass (top 55) 14) 2 ["self","word","slot","one","other"]
def r79:FR:=fRw "plain_taken" "Reader.plain_taken" (inClass (top 55) 13) 2 ["self","word","slot","place","name"]
def r80:FR:=fRw "list_taken" "Reader.list_taken" (inClass (top 55) 7) 2 ["self","around","parts"]
def r81:FR:=fRw "side_taken" "Reader.side_taken" (inClass (top 55) 8) 2 ["self","around","parts"]
def r82:FR:=fRw "part_taken" "Reader.part_taken" (inClass (top 55) 9) 2 ["self","around","word"]
def r83:FR:=fRw "if_taken" "Reader.if_taken" (inClass (top 55) 10) 2 ["self","around","slot","parts","others"]
def r84:FR:=fRw "either_taken" "Reader.either_taken" (inClass (top 55) 11) 2 ["self","around","parts","others"]
def r85:FR:=fRw "try_taken" "Reader.try_taken" (inClass (top 55) 12) 2 ["self","around","parts","name","slot","others"]
def r86:FR:=fRw "read" "read" (top 53) 1 ["text","reader","deed"]
def r87:FR:=fRw "check_boxes" "check_boxes" (top 60) 1 ["boxes"]
def r88:FR:=fRw "rows_of_deeds" "rows_of_deeds" (top 62) 1 ["texts"]
def r89:FR:=fRw "rows_of_hands" "rows_of_hands" (top 61) 1 ["hands"]
def r90:FR:=fRw "__init__" "Hall.__init__" (inClass (top 63) 0) 3 ["self","boxes","hands"]
def r91:FR:=fRw "hand_at" "Hall.hand_at" (inClass (top 63) 4) 2 ["self","hand"]
def r92:FR:=fRw "state" "Hall.state" (inClass (top 63) 5) 2 ["self","hand"]
def r93:FR:=fRw "journal" "Hall.journal" (inClass (top 63) 9) 1 ["self"]
def r94:FR:=fRw "wake_stale" "Hall.wake_stale" (inClass (top 63) 13) 1 ["self","member"]
def r95:FR:=fRw "end_deed" "Hall.end_deed" (inClass (top 63) 14) 5 ["self","hand","end","laid","slots","member"]
def r96:FR:=fRw "lay_down" "Hall.lay_down" (inClass (top 63) 12) 2 ["self","hand","run","laid","pair","box"]
def r97:FR:=fRw "looked_over_told" "Hall.looked_over_told" (inClass (top 63) 11) 3 ["self","hand","row_number","member","row","box"]
def r98:FR:=fRw "turn" "Hall.turn" (inClass (top 63) 10) 2 ["self","hand","member","row_number"]
def r99:FR:=fRw "_law_cell_at" "_law_cell_at" (top 65) 2 ["_law_script","_law_k"]
def r100:FR:=fRw "_law_whole" "_law_whole" (top 66) 1 ["_law_found"]
def r101:FR:=fRw "_law_piece" "_law_piece" (top 67) 1 ["_law_cell","_law_mixed","_law_one","_law_two","_law_number","_law_pieces","_law_some"]
def r102:FR:=fRw "_law_deed" "_law_deed" (top 68) 1 ["_law_cell","_law_cells"]
def r103:FR:=fRw "_law_boxes" "_law_boxes" (top 69) 1 ["_law_head"]
def r104:FR:=fRw "_law_hands" "_law_hands" (top 70) 2 ["_law_script","_law_head","_law_hands_here","_law_cells","_law_k"]
def r105:FR:=fRw "_law_turns" "_law_turns" (top 71) 2 ["_law_script","_law_many","_law_turns_here","_law_cell","_law_mixed","_law_run","_law_k"]
def r106:FR:=fRw "_law_laid_since" "_law_laid_since" (top 72) 3 ["_law_book","_law_hand","_law_seen","_law_box","_law_entry"]
def r107:FR:=fRw "_law_ended" "_law_ended" (top 73) 5 ["_law_hall","_law_runs","_law_hand","_law_states","_law_book","_law_laid","_law_k","_law_woken"]
def r108:FR:=fRw "_law_others_stay" "_law_others_stay" (top 74) 4 ["_law_hall","_law_hand","_law_states","_law_mine","_law_k"]
def r109:FR:=fRw "_law_went" "_law_went" (top 75) 7 ["_law_hall","_law_runs","_law_hand","_law_told","_law_states","_law_ahead","_law_book","_law_last","_law_seen"]
def r110:FR:=fRw "law" "law" (top 76) 1 ["_law_script","_law_head","_law_hands_here","_law_hall","_law_runs","_law_book","_law_hand","_law_states","_law_ahead","_law_told"]
def fT:List FR:=[r0,r1,r2,r3,r4,r5,r6,r7,r8,r9,r10,r11,r12,r13,r14,r15,r16,r17,r18,r19,r20,r21,r22,r23,r24,r25,r26,r27,r28,r29,r30,r31,r32,r33,r34,r35,r36,r37,r38,r39,r40,r41,r42,r43,r44,r45,r46,r47,r48,r49,r50,r51,r52,r53,r54,r55,r56,r57,r58,r59,r60,r61,r62,r63,r64,r65,r66,r67,r68,r69,r70,r71,r72,r73,r74,r75,r76,r77,r78,r79,r80,r81,r82,r83,r84,r85,r86,r87,r88,r89,r90,r91,r92,r93,r94,r95,r96,r97,r98,r99,r100,r101,r102,r103,r104,r105,r106,r107,r108,r109,r110]
def fR (n:Nat):FR:=fT.getD n r0
def FR.ps (r:FR):List Str:=r.2.2.2.2.take r.2.2.2.1
abbrev fP (n:Nat):List Str:=FR.ps (fR n)
noncomputable def AllP {α:Type}(p:α->Prop):List α->Prop
 | []=>True
 | c::cs=>p c/\AllP p cs
theorem AllP.get {α:Type}{p:α->Prop}{d:α}(hd:p d):∀ {cs:List α},AllP p cs->∀ k:Nat,p (cs.getD k d)
 | [],_,_=>hd
 | _::_,a,0=>a.1
 | _::_,a,k+1=>AllP.get hd a.2 k
theorem AllP.mem {α:Type}{p:α->Prop}:∀ {cs:List α},AllP p cs->∀ i∈cs,p i
 | c::cs,a,i,hi=>by
  rcases mem_cons.mp hi with rfl|hi
  .exact a.1
  .exact AllP.mem a.2 i hi
theorem ywK:AllP (fun r:FR=>yek r.2.2.2.2 r.ps (ybA r.2.2.1)) fT:=by
 repeat' first|exact True.intro|refine And.intro ?_ ?_|exact ⟨rfl,rfl,rfl,by rfl',rfl,by rfl',by rfl'⟩
theorem sc (n:Nat) {r:FR}(h:fR n=r:=by rfl):yek r.2.2.2.2 r.ps (ybA r.2.2.1):=h ▸ AllP.get (p:=fun r:FR=>yek r.2.2.2.2 r.ps (ybA r.2.2.1)) ywK.1 ywK n
def mT:List (Nat×Str×Nat):=[mRw 1 "long" 53,mRw 2 "long" 54,mRw 3 "long" 55,mRw 4 "long" 56,mRw 5 "long" 60,mRw 6 "long" 61,mRw 7 "long" 62,mRw 8 "long" 57,mRw 9 "long" 58,mRw 11 "write" 1,mRw 11 "own" 2,mRw 11 "begin" 3,mRw 11 "settle" 4,mRw 11 "drop" 5,mRw 11 "see" 6,mRw 11 "saw" 7,mRw 11 "wrote" 8,mRw 12 "held_in" 19,mRw 12 "hold" 20,mRw 12 "box_at" 21,mRw 12 "do_put" 23,mRw 12 "do_reckon" 22,mRw 12 "sees_at" 24,mRw 12 "take_own" 25,mRw 12 "take_seen" 26,mRw 12 "row" 29,mRw 12 "is_stale" 30,mRw 12 "taker_layer" 31,mRw 12 "is_looked_over" 32,mRw 12 "see_next" 33,mRw 12 "go" 38,mRw 12 "go_plain" 34,mRw 12 "lead" 35,mRw 12 "throw" 37,mRw 12 "leave" 36,mRw 14 "state" 39,mRw 14 "new_run" 40,mRw 14 "begin_anew" 41,mRw 14 "fall_asleep" 42,mRw 14 "go_on" 43,mRw 15 "hand_at" 91,mRw 15 "state" 92,mRw 15 "journal" 93,mRw 15 "wake_stale" 94,mRw 15 "end_deed" 95,mRw 15 "lay_down" 96,mRw 15 "looked_over_told" 97,mRw 15 "turn" 98,mRw 10 "ahead" 72,mRw 10 "taken" 73,mRw 10 "pass_over" 74,mRw 10 "slot_taken" 75,mRw 10 "name_taken" 76,mRw 10 "number_taken" 77,mRw 10 "list_taken" 80,mRw 10 "side_taken" 81,mRw 10 "part_taken" 82,mRw 10 "if_taken" 83,mRw 10 "either_taken" 84,mRw 10 "try_taken" 85,mRw 10 "plain_taken" 79,mRw 10 "reckon_taken" 78]
noncomputable abbrev gRw (x:Str) (n:Nat):Str×Nat:=(x,n)
def gT:List (Str×Nat):=[gRw "reckon" 9,gRw "is_whole" 10,gRw "is_number" 11,gRw "is_made_of" 12,gRw "number_of" 13,gRw "is_word" 14,gRw "is_slot" 15,gRw "slot_index" 16,gRw "is_name" 17,gRw "takes" 27,gRw "list_long" 59,gRw "plain_rows" 63,gRw "first_row" 64,gRw "rows_between" 65,gRw "list_rows" 66,gRw "part_rows" 67,gRw "sided_rows" 68,gRw "rows_of" 69,gRw "words_of" 71,gRw "read" 86,gRw "check_boxes" 87,gRw "rows_of_deeds" 88,gRw "rows_of_hands" 89,gRw "_law_cell_at" 99,gRw "_law_whole" 100,gRw "_law_piece" 101,gRw "_law_deed" 102,gRw "_law_boxes" 103,gRw "_law_hands" 104,gRw "_law_turns" 105,gRw "_law_laid_since" 106,gRw "_law_ended" 107,gRw "_law_others_stay" 108,gRw "_law_went" 109,gRw "law" 110]
noncomputable def kT:List (Nat×Nat):=[(1,45),(2,46),(3,47),(4,48),(5,49),(6,50),(7,51),(8,52),(10,70),(11,0),(12,28),(13,18),(14,44),(15,90)]
def cT:List Str:=["Part","Let","Reckon","Take","Put","If","Either","Try","Throw","Wait","Reader","Log","Run","Doer","Hand","Hall"]
noncomputable def zT:List Str:=["all","any","bool","int","isinstance","len","list","range","reversed","sorted","str","sum","tuple"]
def nT:List (Str×List Nat):=[("stack",[11]),("last_seen",[11]),("held",[12]),("width",[12,14]),("log",[12]),("rows",[12]),("at",[10,12]),("seen_stamps",[12]),("sides",[12]),("deeds",[14]),("nth",[14]),("sleeps",[14]),("before",[14]),("run",[14]),("numbers",[15]),("marks",[15]),("crew",[15]),("entries",[15]),("words",[10]),("slot",[1,2,3,4,5,7,8]),("number",[1]),("place",[3,4]),("parts",[5,6,7]),("others",[5,6,7]),("name",[7,8]),("word",[2]),("one",[2]),("other",[2])]
theorem ml1 {α:Type}{P:List α->Prop}(h:∀ a,P [a]):∀ us:List α,us.length=1->P us
 | [_],_=>h _
theorem ml2 {α:Type}{P:List α->Prop}(h:∀ a b,P [a,b]):∀ us:List α,us.length=2->P us
 | [_,_],_=>h _ _
theorem ml3 {α:Type}{P:List α->Prop}(h:∀ a b c,P [a,b,c]):∀ us:List α,us.length=3->P us
 | [_,_,_],_=>h _ _ _
theorem ml4 {α:Type}{P:List α->Prop}(h:∀ a b c d,P [a,b,c,d]):∀ us:List α,us.length=4->P us
 | [_,_,_,_],_=>h _ _ _ _
theorem ml5 {α:Type}{P:List α->Prop}(h:∀ a b c d e,P [a,b,c,d,e]):∀ us:List α,us.length=5->P us
 | [_,_,_,_,_],_=>h _ _ _ _ _
theorem ml7 {α:Type}{P:List α->Prop}(h:∀ a b c d e f g,P [a,b,c,d,e,f,g]):∀ us:List α,us.length=7->P us
 | [_,_,_,_,_,_,_],_=>h _ _ _ _ _ _ _
set_option genInjectivity false in
set_option genSizeOf false in
structure Ads where
 A:Nat->Addr
 fl:Nat->Addr×FuncData
 k_FIGURES:Tok
 k_LETTERS:Tok
 k_MOST_AROUND:Tok
 k_MOST_BOXES:Tok
 k_MOST_DEEDS:Tok
 k_MOST_HANDS:Tok
 k_MOST_ROWS:Tok
 k_SLOTS:Tok
 k_WIDE:Tok
 k_WORDS:Addr
noncomputable abbrev Ads.a (t:Ads) (n:Nat):Addr:=(t.fl n).1
noncomputable abbrev Ads.d (t:Ads) (n:Nat):FuncData:=(t.fl n).2
noncomputable abbrev yoG (K:PySem.W.Frag) (t:Ads):Ck:=⟨K,t.A⟩
structure Txt (K:PySem.W.Frag) (mg:Str->Option Value) (t:Ads):Prop where
 f:∀ n,Fun K (fR n).1 (fR n).2.1 (fR n).2.2.1 (t.a n) (t.d n)
 b:∀ n,Binds K (t.d n) (fP n) []
 G:∀ n,mg (gT.getD n ("reckon",9)).1=some (.ref (t.a (gT.getD n ("reckon",9)).2))
 C:∀ n,mg (cT.getD n "Part")=some (.ref (t.A n))
 J:∀ n,Mk K (t.A (kT.getD n (1,45)).1) (t.a (kT.getD n (1,45)).2)
 M:∀ n,Meth K (t.A (mT.getD n (mRw 1 "long" 53)).1) (mT.getD n (mRw 1 "long" 53)).2.1 (t.a (mT.getD n (mRw 1 "long" 53)).2.2)
 mk_Part:makesIn K (t.A 0)=true
 io_Part:findIn K (.ref (t.A 0)) "__init__" = some (some (.builtin "object.__init__"))
 kp_Part:keepIn K (.ref (t.A 0))=true
 mk_Wait:makesIn K (t.A 9)=true
 io_Wait:findIn K (.ref (t.A 9)) "__init__" = some (some (.builtin "object.__init__"))
 kp_Wait:keepIn K (.ref (t.A 9))=true
 cf_Doer:yuJ K (t.A 13) "__init__" (t.a 18)
 cl:∀ k,Cls K (t.A k)
 N:∀ n,∀ k∈(nT.getD n ("stack",[11])).2,Cls K (t.A k)/\NoAttr K (t.A k) (nT.getD n ("stack",[11])).1
 isa:∀ r∈yeo,∀ (H:Hp) (a dx:Addr) (fs:List (Str×V)),H a=some (.ins (t.A r.1) dx fs)->IsI K H (.ref a) (.ref (t.A r.2.1)) r.2.2
 Z:∀ n,mg (zT.getD n "all")=none
 m_FIGURES:mg "FIGURES" = some (.str "0123456789" t.k_FIGURES)
 m_LETTERS:mg "LETTERS" = some (.str "abcdefghijklmnopqrstuvwxyz" t.k_LETTERS)
 m_MOST_AROUND:mg "MOST_AROUND" = some (.int 8 t.k_MOST_AROUND)
 m_MOST_BOXES:mg "MOST_BOXES" = some (.int 16 t.k_MOST_BOXES)
 m_MOST_DEEDS:mg "MOST_DEEDS" = some (.int 6 t.k_MOST_DEEDS)
 m_MOST_HANDS:mg "MOST_HANDS" = some (.int 8 t.k_MOST_HANDS)
 m_MOST_ROWS:mg "MOST_ROWS" = some (.int 80 t.k_MOST_ROWS)
 m_SLOTS:mg "SLOTS" = some (.str "abcdefgh" t.k_SLOTS)
 m_WIDE:mg "WIDE" = some (.int 18446744073709551616 t.k_WIDE)
 m_WORDS:mg "WORDS" = some (.ref t.k_WORDS)
 kt_WORDS:KTp K t.k_WORDS ((["plus","minus","times","less","same"]:List Str).map V.str)
theorem Txt.F {K:PySem.W.Frag}{mg:Str->Option Value}{t:Ads}(T:Txt K mg t) (n:Nat) (r:FR) (h:fR n=r:=by rfl):Fun K r.1 r.2.1 r.2.2.1 (t.a n) (t.d n):=h ▸ T.f n
theorem Txt.k {K:PySem.W.Frag}{mg:Str->Option Value}{t:Ads}(T:Txt K mg t) (n:Nat):keepIn K (.ref (t.a n))=true:=(T.f n).kp
section
variable {P:Program}{w:World}{K:PySem.W.Frag}{mg:Str->Option Value}{base:Heap}{t:Ads}
theorem ydA {n:Nat}{ck:Ck}{vs:List V}{H:Hp}{Q:VK}{E:XK}(h:spE ck n (fun _ _=>none) vs H Q E):False:=by
 obtain ⟨_,_,_,_,_,_,_,_,q,_⟩:=h
 cases q
theorem ycY {f:Addr}{fd:FuncData}{ps:List Str}{k n:Nat}{ck:Ck}:FnOk P w K mg base CX0 k f fd ps (spE ck n fun _ _=>none):=⟨fun vs H Q E h=>(ydA h).elim,fun A outer s H args us vs Q E _ _ _ _ h=>(ydA h).elim⟩
local macro_rules | `(‹($n,$i,$r,$k,$p)›)=>`(FnOk $(Lean.mkIdent `P) $(Lean.mkIdent `w) $(Lean.mkIdent `K) $(Lean.mkIdent `mg) $(Lean.mkIdent `base) CX0 $n ($(Lean.mkIdent `t).a $i) ($(Lean.mkIdent `t).d $i) (FR.ps $r) (spE (yoG $(Lean.mkIdent `K) $(Lean.mkIdent `t)) $k $p))
structure yGa (P:Program) (w:World) (K:PySem.W.Frag) (mg:Str->Option Value) (base:Heap) (t:Ads) (n:Nat):Prop where
 yfK:‹(n+1,59,r59,1,(ybw n))›
 ylZ:‹(n+1,60,r60,1,(ylN n))›
 ygk:‹(n+1,61,r61,1,(ygf n))›
 yjq:‹(n+1,62,r62,1,(yjj n))›
 m_long:ymI P w K mg base (n+1) t.A "long" (fun k=>spE (yoG K t) 1 (ylM n k))
structure yGb (P:Program) (w:World) (K:PySem.W.Frag) (mg:Str->Option Value) (base:Heap) (t:Ads) (n:Nat):Prop where
 yii:‹(n+47,66,r66,2,(ycT n))›
 ynu:‹(n+47,67,r67,2,(ydw n))›
 yma:‹(n+47,68,r68,2,(ygN n))›
structure yGc (P:Program) (w:World) (K:PySem.W.Frag) (mg:Str->Option Value) (base:Heap) (t:Ads) (n:Nat):Prop where
 ydB:‹(n+6,80,r80,2,(yby n))›
 yfL:‹(n+6,81,r81,2,(yq n))›
 yfM:‹(n+6,82,r82,2,(yD n))›
 ygD:‹(n+6,83,r83,2,(ybQ n))›
 yeU:‹(n+6,84,r84,2,(ybi n))›
 ygl:‹(n+6,85,r85,2,(ybK n))›
variable (T:Txt K mg t)
include T
theorem yij:FnOk P w K mg base CX0 (0+1) (t.a 45) (t.d 45) (FR.ps r45) (spI (yoG K t) 2 1 yft):=zin (T.F 45 r45) (sc 45) rfl (by decide) fun cdv Ar outer sh H E hr=>(ybh (ybn (T.N 19) z_v) (ydk (ybn (T.N 20) z_v)))
theorem ygm:FnOk P w K mg base CX0 (0+1) (t.a 46) (t.d 46) (FR.ps r46) (spI (yoG K t) 4 2 yee):=zin (T.F 46 r46) (sc 46) rfl (by decide) fun cdv Ar outer sh H E hr=>(ybh (ybn (T.N 25) z_v) (ybh (ybn (T.N 19) z_v) (ybh (ybn (T.N 26) z_v) (ydk (ybn (T.N 27) z_v)))))
theorem yhe:FnOk P w K mg base CX0 (0+1) (t.a 47) (t.d 47) (FR.ps r47) (spI (yoG K t) 2 3 yeO):=zin (T.F 47 r47) (sc 47) rfl (by decide) fun cdv Ar outer sh H E hr=>(ybh (ybn (T.N 19) z_v) (ydk (ybn (T.N 21) z_v)))
theorem yik:FnOk P w K mg base CX0 (0+1) (t.a 48) (t.d 48) (FR.ps r48) (spI (yoG K t) 2 4 yfu):=zin (T.F 48 r48) (sc 48) rfl (by decide) fun cdv Ar outer sh H E hr=>(ybh (ybn (T.N 21) z_v) (ydk (ybn (T.N 19) z_v)))
theorem yiI:FnOk P w K mg base CX0 (0+1) (t.a 49) (t.d 49) (FR.ps r49) (spI (yoG K t) 3 5 ygd):=zin (T.F 49 r49) (sc 49) rfl (by decide) fun cdv Ar outer sh H E hr=>(ybh (ybn (T.N 19) z_v) (ybh (ybn (T.N 22) (ybV (ycN yK ybB (T.Z 6) (ya z_v ye)))) (ydk (ybn (T.N 23) (ybV (ycN yK ybB (T.Z 6) (ya z_v ye)))))))
theorem ygn:FnOk P w K mg base CX0 (0+1) (t.a 50) (t.d 50) (FR.ps r50) (spI (yoG K t) 2 6 yef):=zin (T.F 50 r50) (sc 50) rfl (by decide) fun cdv Ar outer sh H E hr=>(ybh (ybn (T.N 22) (ybV (ycN yK ybB (T.Z 6) (ya z_v ye)))) (ydk (ybn (T.N 23) (ybV (ycN yK ybB (T.Z 6) (ya z_v ye))))))
theorem yil:FnOk P w K mg base CX0 (0+1) (t.a 51) (t.d 51) (FR.ps r51) (spI (yoG K t) 4 7 yfv):=zin (T.F 51 r51) (sc 51) rfl (by decide) fun cdv Ar outer sh H E hr=>(ybh (ybn (T.N 22) (ybV (ycN yK ybB (T.Z 6) (ya z_v ye)))) (ybh (ybn (T.N 24) z_v) (ybh (ybn (T.N 19) z_v) (ydk (ybn (T.N 23) (ybV (ycN yK ybB (T.Z 6) (ya z_v ye))))))))
theorem ygE:FnOk P w K mg base CX0 (0+1) (t.a 52) (t.d 52) (FR.ps r52) (spI (yoG K t) 2 8 yey):=zin (T.F 52 r52) (sc 52) rfl (by decide) fun cdv Ar outer sh H E hr=>(ybh (ybn (T.N 24) z_v) (ydk (ybn (T.N 19) z_v)))
theorem ynv:‹(0+1,53,r53,1,yjh)›:=zfn (T.F 53 r53) (sc 53) fun cdv Ar outer sh H E hr=>(yf (yi yk))
theorem yiJ:‹(0+1,54,r54,1,yge)›:=zfn (T.F 54 r54) (sc 54) fun cdv Ar outer sh H E hr=>(yf (yi yk))
theorem ymb:‹(0+1,55,r55,1,yhX)›:=zfn (T.F 55 r55) (sc 55) fun cdv Ar outer sh H E hr=>(yf (yi yk))
theorem ynw:‹(0+1,56,r56,1,yji)›:=zfn (T.F 56 r56) (sc 56) fun cdv Ar outer sh H E hr=>(yf (yi yk))
theorem ykz:‹(0+1,57,r57,1,ygL)›:=zfn (T.F 57 r57) (sc 57) fun cdv Ar outer sh H E hr=>(yf (yi yk))
theorem ymc:‹(0+1,58,r58,1,yhY)›:=zfn (T.F 58 r58) (sc 58) fun cdv Ar outer sh H E hr=>(yf (yi yk))
theorem ykA:∀ n,yGa P w K mg base t n
 | 0=>⟨ycY,ycY,ycY,ycY,fun c=>⟨T.cl c,.inl fun _ _ _ _ h=>ydA h⟩⟩
 | n+1=>by
  have I:=ykA n
  have ycZ:=I.yfK
  have yCz:=I.ylZ
  have yvz:=I.ygk
  have yzE:=I.yjq
  have G_long:=I.m_long
  exact ⟨zfn (T.F 59 r59) (sc 59) fun cdv Ar outer sh H E hr=>(yf (yi (ydd (ytp rfl) yDy (T.Z 11) (ya (ybV (yeL [] (ycz z_v) (fun _ _ _ _ _ _=>(yro z_v G_long)))) ye)))),
   zfn (T.F 60 r60) (sc 60) fun cdv Ar outer sh H E hr=>(yf (yi (ybF ycd ydn (ybF ycd ydn yk (yR ycZ (T.G 10) (T.k 59) (T.b 59) (ya (yA (T.N 22) z_v) ye))) (yR ycZ (T.G 10) (T.k 59) (T.b 59) (ya (yA (T.N 23) z_v) ye))))),
   zfn (T.F 61 r61) (sc 61) fun cdv Ar outer sh H E hr=>(yf (yi (ybF ycd ydn (ybF ycd ydn yk (yR ycZ (T.G 10) (T.k 59) (T.b 59) (ya (yA (T.N 22) z_v) ye))) (yR ycZ (T.G 10) (T.k 59) (T.b 59) (ya (yA (T.N 23) z_v) ye))))),
   zfn (T.F 62 r62) (sc 62) fun cdv Ar outer sh H E hr=>(yf (yi (ybF ycd ydn (ybF ycd ydn yk (yR ycZ (T.G 10) (T.k 59) (T.b 59) (ya (yA (T.N 22) z_v) ye))) (yR ycZ (T.G 10) (T.k 59) (T.b 59) (ya (yA (T.N 23) z_v) ye))))),
   fun c=>⟨T.cl c,match c with|0=>.inl fun _ _ _ _ h=>ydA h|1=>.inr ⟨_,_,_,(T.M 0),(ynv T).mono (by omega),(T.b 53)⟩|2=>.inr ⟨_,_,_,(T.M 1),(yiJ T).mono (by omega),(T.b 54)⟩|3=>.inr ⟨_,_,_,(T.M 2),(ymb T).mono (by omega),(T.b 55)⟩|4=>.inr ⟨_,_,_,(T.M 3),(ynw T).mono (by omega),(T.b 56)⟩|5=>.inr ⟨_,_,_,(T.M 4),I.ylZ.mono (by omega),(T.b 60)⟩|6=>.inr ⟨_,_,_,(T.M 5),I.ygk.mono (by omega),(T.b 61)⟩|7=>.inr ⟨_,_,_,(T.M 6),I.yjq.mono (by omega),(T.b 62)⟩|8=>.inr ⟨_,_,_,(T.M 7),(ykz T).mono (by omega),(T.b 57)⟩|9=>.inr ⟨_,_,_,(T.M 8),(ymc T).mono (by omega),(T.b 58)⟩|10=>.inl fun _ _ _ _ h=>ydA h|11=>.inl fun _ _ _ _ h=>ydA h|12=>.inl fun _ _ _ _ h=>ydA h|13=>.inl fun _ _ _ _ h=>ydA h|14=>.inl fun _ _ _ _ h=>ydA h|15=>.inl fun _ _ _ _ h=>ydA h|c+16=>.inl fun _ _ _ _ h=>ydA h⟩⟩
theorem ykB:‹(0+1,63,r63,1,ygM)›:=zfn (T.F 63 r63) (sc 63) fun cdv Ar outer sh H E hr=>(yb (yN (ybG (ydd yT (yeI (K:=ckX _ _) T.isa) (T.Z 4) (ya z_v (ya (yex (T.C 1)) ye)))) (yf (yi (ybV (ycb (ya (ycL (ya yz (ya (yA (T.N 19) z_v) (ya (yA (T.N 20) z_v) ye)))) ye))))) ym) (yb (yN (ybG (ydd yT (yeI (K:=ckX _ _) T.isa) (T.Z 4) (ya z_v (ya (yex (T.C 2)) ye)))) (yf (yi (ybV (ycb (ya (ycL (ya (yA (T.N 25) z_v) (ya (yA (T.N 19) z_v) (ya (yA (T.N 26) z_v) (ya (yA (T.N 27) z_v) ye))))) ye))))) ym) (yb (yN (ybG (ydd yT (yeI (K:=ckX _ _) T.isa) (T.Z 4) (ya z_v (ya (yex (T.C 3)) ye)))) (yf (yi (ybV (ycb (ya (ycL (ya yz (ya (yA (T.N 19) z_v) (ya (yA (T.N 21) z_v) ye)))) ye))))) ym) (yb (yN (ybG (ydd yT (yeI (K:=ckX _ _) T.isa) (T.Z 4) (ya z_v (ya (yex (T.C 4)) ye)))) (yf (yi (ybV (ycb (ya (ycL (ya yz (ya (yA (T.N 21) z_v) (ya (yA (T.N 19) z_v) ye)))) ye))))) ym) (yb (yN (ybG (ydd yT (yeI (K:=ckX _ _) T.isa) (T.Z 4) (ya z_v (ya (yex (T.C 8)) ye)))) (yf (yi (ybV (ycb (ya (ycL (ya yz (ya (yA (T.N 24) z_v) (ya (yA (T.N 19) z_v) ye)))) ye))))) ym) (yb (yN (ybG (ydd yT (yeI (K:=ckX _ _) T.isa) (T.Z 4) (ya z_v (ya (yex (T.C 9)) ye)))) (yf (yi (ybV (ycb (ya (ycL (ya yz ye)) ye))))) ym) (yf (yi (ybV (ycb ye))))))))))
theorem ymd:‹(0+1,64,r64,2,yhZ)›:=zfn (T.F 64 r64) (sc 64) fun cdv Ar outer sh H E hr=>(yb (yN (ybG (ydd yT (yeI (K:=ckX _ _) T.isa) (T.Z 4) (ya z_v (ya (yex (T.C 5)) ye)))) (yf (yi (ycL (ya yz (ya (yA (T.N 19) z_v) (ya z_v ye)))))) ym) (yb (yN (ybG (ydd yT (yeI (K:=ckX _ _) T.isa) (T.Z 4) (ya z_v (ya (yex (T.C 6)) ye)))) (yf (yi (ycL (ya yz (ya z_v ye))))) ym) (yf (yi (ycL (ya yz (ya (yA (T.N 24) z_v) (ya (yA (T.N 19) z_v) (ya z_v ye)))))))))
theorem yim:‹(0+1,65,r65,2,yfw)›:=zfn (T.F 65 r65) (sc 65) fun cdv Ar outer sh H E hr=>(yb (yN (ybG (ydd yT (yeI (K:=ckX _ _) T.isa) (T.Z 4) (ya z_v (ya (yex (T.C 5)) ye)))) (yf (yi (ybV (ycb (ya (ycL (ya yz (ya z_v ye))) ye))))) ym) (yf (yi (ybV (ycb (ya (ycL (ya yz ye)) (ya (ycL (ya yz (ya z_v ye))) ye)))))))
theorem ysK:∀ n,yGb P w K mg base t n
 | 0=>⟨ycY,ycY,ycY⟩
 | n+1=>by
  have I:=ysK n
  have yin:=I.yii
  have ynx:=I.ynu
  have yme:=I.yma
  exact ⟨zfn (T.F 66 r66) (sc 66) fun cdv Ar outer sh H E hr=>have nd:=(sc 66 (r:=r66)).nd;(yb (yhR (ycb ye)) (yb (yga (ycz z_v) ycF (yf (yBk (yR ynx (T.G 15) (T.k 67) (T.b 67) (ya z_v (ya (ybF ycd ydn z_v (yBl (T.Z 5))) ye)))))) (yhS (yf (yi z_v))))),
   zfn (T.F 67 r67) (sc 67) fun cdv Ar outer sh H E hr=>(yb (yN (ylK (yfE (ybG (ydd yT (yeI (K:=ckX _ _) T.isa) (T.Z 4) (ya z_v (ya (yex (T.C 5)) ye)))) (yfE (ybG (ydd yT (yeI (K:=ckX _ _) T.isa) (T.Z 4) (ya z_v (ya (yex (T.C 6)) ye)))) (yeK (ybG (ydd yT (yeI (K:=ckX _ _) T.isa) (T.Z 4) (ya z_v (ya (yex (T.C 7)) ye)))))))) (yf (yi (yR yme (T.G 16) (T.k 68) (T.b 68) (ya z_v (ya z_v ye))))) ym) (yf (yi (yR (ykB T) (T.G 11) (T.k 63) (T.b 63) (ya z_v ye))))),
   zfn (T.F 68 r68) (sc 68) fun cdv Ar outer sh H E hr=>have nd:=(sc 68 (r:=r68)).nd;(yb (yw (ybF ycd ydn z_v (yro z_v (ykA T 45).m_long))) (yb (yw (ybF ykL yqx z_v (yR (ykA T 45).yfK (T.G 10) (T.k 59) (T.b 59) (ya (yA (T.N 23) z_v) ye)))) (yb (yw (yR yin (T.G 14) (T.k 66) (T.b 66) (ya (yA (T.N 22) z_v) (ya (ybF ycd ydn z_v yk) ye)))) (yb (yw (yR yin (T.G 14) (T.k 66) (T.b 66) (ya (yA (T.N 23) z_v) (ya z_v ye)))) (yf (yi (ybV (ylJ yiQ yoV (ybV (ylJ yiQ yoV (ybV (ylJ yiQ yoV (ybV (ycb (ya (yR (ymd T) (T.G 12) (T.k 64) (T.b 64) (ya z_v (ya z_v ye))) ye))) z_v)) (yR (yim T) (T.G 13) (T.k 65) (T.b 65) (ya z_v (ya z_v ye))))) z_v))))))))⟩
theorem ypq:‹(92+1,69,r69,1,yeg)›:=zfn (T.F 69 r69) (sc 69) fun cdv Ar outer sh H E hr=>(yf (yi (ybV (ylJ yiQ yoV (yR (ysK T 45).yii (T.G 14) (T.k 66) (T.b 66) (ya z_v (ya yk ye))) (ybV (ycb (ya (ycL (ya yz ye)) ye)))))))
theorem ygo:‹(0+1,12,r12,2,yde)›:=zfn (T.F 12 r12) (sc 12) fun cdv Ar outer sh H E hr=>(yf (yi (ydd (ynN rfl) yAC (T.Z 0) (ya (ybV (yeL ["signs"] (yBh z_v) (fun _ _ _ _ _ _=>(yem yla yAw z_v z_v)))) ye))))
theorem ymf:‹(1+1,13,r13,1,yes)›:=zfn (T.F 13 r13) (sc 13) fun cdv Ar outer sh H E hr=>have nd:=(sc 13 (r:=r13)).nd;(yb (yN (ylK (yfE (ydu (yho yhv yhv yqz yqz yk (ydd ydG ynR (T.Z 5) (ya z_v ye)) yk)) (yeK (ydu (ybG (yR (ygo T) (T.G 3) (T.k 12) (T.b 12) (ya z_v (ya (ylI T.m_FIGURES) ye)))))))) (yf (yi yiA)) ym) (yb (yN (ylK (yjf (yy ybd ycP (ybe yvL yDx z_v yk) yz) (ygB (yy yfS ynQ z_v yz)))) (yf (yi yiA)) ym) (yb (yw (ypd ylb yAB (T.Z 3) (ya z_v ye))) (yf (yi (yrn (yy yju ytN z_v (yfq T.m_WIDE)) z_v yiA))))))
theorem ypr:‹(0+1,14,r14,1,yhT)›:=zfn (T.F 14 r14) (sc 14) fun cdv Ar outer sh H E hr=>(yf (yi (yem yhA yuk z_v (yBs (ss:=["plus","minus","times","less","same"]) T.m_WORDS T.kt_WORDS))))
theorem yps:‹(0+1,15,r15,1,yhU)›:=zfn (T.F 15 r15) (sc 15) fun cdv Ar outer sh H E hr=>(yf (yi (ygZ (yem ybd ycP (ydd ydG ynR (T.Z 5) (ya z_v ye)) yk) (yhO (yem yla yAw z_v (ylI T.m_SLOTS))))))
theorem ypt:‹(1+1,17,r17,1,yhV)›:=zfn (T.F 17 r17) (sc 17) fun cdv Ar outer sh H E hr=>(yf (yi (ygZ (yrm yhv yhv yqz yqz yk (ydd ydG ynR (T.Z 5) (ya z_v ye)) yk) (yhO (yR (ygo T) (T.G 3) (T.k 12) (T.b 12) (ya z_v (ya (ylI T.m_LETTERS) ye)))))))
theorem yio:‹(0+1,10,r10,1,yed)›:=zfn (T.F 10 r10) (sc 10) fun cdv Ar outer sh H E hr=>(yf (yi (ygZ (ydd yT (yeI (K:=ckX _ _) T.isa) (T.Z 4) (ya z_v (ya (yrl (T.Z 3)) ye))) (yhO (yBg (ydd yT (yeI (K:=ckX _ _) T.isa) (T.Z 4) (ya z_v (ya (yrl (T.Z 2)) ye))))))))
theorem ymg:‹(1+1,11,r11,1,ycS)›:=zfn (T.F 11 r11) (sc 11) fun cdv Ar outer sh H E hr=>(yf (yi (ygZ (yR (yio T) (T.G 1) (T.k 10) (T.b 10) (ya z_v ye)) (yhO (yrm yhv yju yqz ytN yk z_v (yfq T.m_WIDE))))))
theorem ygp:FnOk P w K mg base CX0 (0+1) (t.a 70) (t.d 70) (FR.ps r70) (spI (yoG K t) 1 10 ycU):=zin (T.F 70 r70) (sc 70) rfl (by decide) fun cdv Ar outer sh H E hr=>(ybh (ybn (T.N 18) (ybV (ycN yK ybB (T.Z 6) (ya z_v ye)))) (ydk (ybn (T.N 6) yk)))
theorem yny:‹(0+1,71,r71,1,yfb)›:=zfn (T.F 71 r71) (sc 71) fun cdv Ar outer sh H E hr=>(yb (yN (yy ybd ycP z_v yz) (yf (yi (ybV (ycb ye)))) ym) (yf (yi (ywm PySem.F.plainAttrs_str PySem.F.slot_str_split PySem.F.type_str_split yuK m_split z_v (ya yz ye)))))
theorem ycp:‹(0+1,72,r72,1,ybo)›:=zfn (T.F 72 r72) (sc 72) fun cdv Ar outer sh H E hr=>(yb (yN (yy yju ytN (yA (T.N 6) z_v) (ydd yt ybS (T.Z 5) (ya (yA (T.N 18) z_v) ye))) (yf (yi (ybe ix_list ybW (yA (T.N 18) z_v) (yA (T.N 6) z_v)))) ym) (yf (yi yiA)))
theorem ycq:‹(1+1,73,r73,1,ybp)›:=zfn (T.F 73 r73) (sc 73) fun cdv Ar outer sh H E hr=>have nd:=(sc 73 (r:=r73)).nd;(yb (yw (yx z_v (T.M 48) (ycp T) (T.b 72))) (yb (yN (yy ynH ytP z_v yiA) (yf yce) ym) (yb (ybv (T.N 6) z_v (ybF ycd ydn (yA (T.N 6) z_v) yk)) (yf (yi z_v)))))
theorem ybf:‹(2+1,74,r74,2,yL)›:=zfn (T.F 74 r74) (sc 74) fun cdv Ar outer sh H E hr=>have nd:=(sc 74 (r:=r74)).nd;(yb (yw (yx z_v (T.M 49) (ycq T) (T.b 73))) (yf (yN (yy yfS ynQ z_v z_v) (yf yce) ym)))
theorem yE:‹(2+1,75,r75,1,yu)›:=zfn (T.F 75 r75) (sc 75) fun cdv Ar outer sh H E hr=>have nd:=(sc 75 (r:=r75)).nd;(yb (yw (yx z_v (T.M 49) (ycq T) (T.b 73))) (yb (yN (ydu (ybG (yR (yps T) (T.G 6) (T.k 15) (T.b 15) (ya z_v ye)))) (yf yce) ym) (yf (yi z_v))))
theorem ydm:‹(2+1,76,r76,1,ybx)›:=zfn (T.F 76 r76) (sc 76) fun cdv Ar outer sh H E hr=>have nd:=(sc 76 (r:=r76)).nd;(yb (yw (yx z_v (T.M 49) (ycq T) (T.b 73))) (yb (yN (ydu (ybG (yR (ypt T) (T.G 8) (T.k 17) (T.b 17) (ya z_v ye)))) (yf yce) ym) (yf (yi z_v))))
theorem yeC:‹(2+1,77,r77,1,ybI)›:=zfn (T.F 77 r77) (sc 77) fun cdv Ar outer sh H E hr=>have nd:=(sc 77 (r:=r77)).nd;(yb (yw (yx z_v (T.M 49) (ycq T) (T.b 73))) (yb (yw (yR (ymf T) (T.G 4) (T.k 13) (T.b 13) (ya z_v ye))) (yb (yN (yy ynH ytP z_v yiA) (yf yce) ym) (yf (yi z_v)))))
theorem yeD:‹(3+1,78,r78,2,ybJ)›:=zfn (T.F 78 r78) (sc 78) fun cdv Ar outer sh H E hr=>have nd:=(sc 78 (r:=r78)).nd;(yb (yw (yx z_v (T.M 51) (yE T) (T.b 75))) (yb (yw (yx z_v (T.M 51) (yE T) (T.b 75))) (yb (yw (yx z_v (T.M 51) (yE T) (T.b 75))) (yf (yi (ybV (yfr (T.J 1) (ygm T) (T.C 2) (T.b 46) (ya z_v (ya z_v (ya z_v (ya z_v ye)))))))))))
theorem yeV:‹(4+1,79,r79,2,yv)›:=zfn (T.F 79 r79) (sc 79) fun cdv Ar outer sh H E hr=>have nd:=(sc 79 (r:=r79)).nd;(yb (yN (yy ybd ycP z_v yz) (yb (yw (yx z_v (T.M 51) (yE T) (T.b 75))) (yf (yi (ybV (yfr (T.J 0) (yij T) (T.C 1) (T.b 45) (ya z_v (ya (yx z_v (T.M 53) (yeC T) (T.b 77)) ye))))))) ym) (yb (yN (yy ybd ycP z_v yz) (yb (yw (yx z_v (T.M 51) (yE T) (T.b 75))) (yf (yi (ybV (yfr (T.J 2) (yhe T) (T.C 3) (T.b 47) (ya z_v (ya (yx z_v (T.M 51) (yE T) (T.b 75)) ye))))))) ym) (yb (yN (yy ybd ycP z_v yz) (yb (yw (yx z_v (T.M 51) (yE T) (T.b 75))) (yf (yi (ybV (yfr (T.J 3) (yik T) (T.C 4) (T.b 48) (ya z_v (ya (yx z_v (T.M 51) (yE T) (T.b 75)) ye))))))) ym) (yb (yN (yy ybd ycP z_v yz) (yb (yw (yx z_v (T.M 52) (ydm T) (T.b 76))) (yf (yi (ybV (yfr (T.J 7) (ygE T) (T.C 8) (T.b 52) (ya z_v (ya (yx z_v (T.M 51) (yE T) (T.b 75)) ye))))))) ym) (yb (yN (yy ybd ycP z_v yz) (yf (yi (ybV (yyi T.mk_Wait T.io_Wait T.kp_Wait (T.C 9))))) ym) (yb (yN (ybG (yR (ypr T) (T.G 5) (T.k 14) (T.b 14) (ya z_v ye))) (yf (yi (yn z_v (T.M 61) (yeD T) (T.b 78) (ya z_v ye)))) ym) (yf yce)))))))
theorem ysL:∀ n,yGc P w K mg base t n
 | 0=>⟨ycY,ycY,ycY,ycY,ycY,ycY⟩
 | n+1=>by
  have I:=ysL n
  have yfN:=I.ydB
  have ybg:=I.yfL
  have ydC:=I.yfM
  have ygF:=I.ygD
  have yeW:=I.yeU
  have ygq:=I.ygl
  exact ⟨zfn (T.F 80 r80) (sc 80) fun cdv Ar outer sh H E hr=>have nd:=(sc 80 (r:=r80)).nd;(yb (yN (ylK (yfE (yy ynH ytP (yx z_v (T.M 48) (ycp T) (T.b 72)) yiA) (yeK (yy ybd ycP (yx z_v (T.M 48) (ycp T) (T.b 72)) yz)))) (yf (yi (ybV (ycb ye)))) ym) (yb (yhR (ycb (ya (yn z_v (T.M 56) ydC (T.b 82) (ya z_v ye)) ye))) (yb (ykd (yy ybd ycP (yx z_v (T.M 48) (ycp T) (T.b 72)) yz) (yb (yJ (yn z_v (T.M 50) (ybf T) (T.b 74) (ya yz ye))) (yf (yhQ (yn z_v (T.M 56) ydC (T.b 82) (ya z_v ye)))))) (yhS (yf (yi z_v)))))),
   zfn (T.F 81 r81) (sc 81) fun cdv Ar outer sh H E hr=>have nd:=(sc 81 (r:=r81)).nd;(yb (yJ (yn z_v (T.M 50) (ybf T) (T.b 74) (ya yz ye))) (yb (yw (yn z_v (T.M 54) yfN (T.b 80) (ya z_v ye))) (yb (yJ (yn z_v (T.M 50) (ybf T) (T.b 74) (ya yz ye))) (yf (yi z_v))))),
   zfn (T.F 82 r82) (sc 82) fun cdv Ar outer sh H E hr=>have nd:=(sc 82 (r:=r82)).nd;(yb (yN (yy ytb yCG z_v (yfq T.m_MOST_AROUND)) (yf yce) ym) (yb (yw (yx z_v (T.M 49) (ycq T) (T.b 73))) (yb (yN (yy ybd ycP z_v yz) (yf (yi (yn z_v (T.M 57) ygF (T.b 83) (ya (ybF ycd ydn z_v yk) ye)))) ym) (yb (yN (yy ybd ycP z_v yz) (yf (yi (yn z_v (T.M 58) yeW (T.b 84) (ya (ybF ycd ydn z_v yk) ye)))) ym) (yb (yN (yy ybd ycP z_v yz) (yf (yi (yn z_v (T.M 59) ygq (T.b 85) (ya (ybF ycd ydn z_v yk) ye)))) ym) (yf (yi (yn z_v (T.M 60) (yeV T) (T.b 79) (ya z_v ye))))))))),
   zfn (T.F 83 r83) (sc 83) fun cdv Ar outer sh H E hr=>have nd:=(sc 83 (r:=r83)).nd;(yb (yw (yx z_v (T.M 51) (yE T) (T.b 75))) (yb (yw (yn z_v (T.M 55) ybg (T.b 81) (ya z_v ye))) (yb (yJ (yn z_v (T.M 50) (ybf T) (T.b 74) (ya yz ye))) (yb (yw (yn z_v (T.M 55) ybg (T.b 81) (ya z_v ye))) (yf (yi (ybV (yfr (T.J 4) (yiI T) (T.C 5) (T.b 49) (ya z_v (ya z_v (ya z_v ye))))))))))),
   zfn (T.F 84 r84) (sc 84) fun cdv Ar outer sh H E hr=>have nd:=(sc 84 (r:=r84)).nd;(yb (yw (yn z_v (T.M 55) ybg (T.b 81) (ya z_v ye))) (yb (yJ (yn z_v (T.M 50) (ybf T) (T.b 74) (ya yz ye))) (yb (yw (yn z_v (T.M 55) ybg (T.b 81) (ya z_v ye))) (yf (yi (ybV (yfr (T.J 5) (ygn T) (T.C 6) (T.b 50) (ya z_v (ya z_v ye))))))))),
   zfn (T.F 85 r85) (sc 85) fun cdv Ar outer sh H E hr=>have nd:=(sc 85 (r:=r85)).nd;(yb (yw (yn z_v (T.M 55) ybg (T.b 81) (ya z_v ye))) (yb (yJ (yn z_v (T.M 50) (ybf T) (T.b 74) (ya yz ye))) (yb (yw (yx z_v (T.M 52) (ydm T) (T.b 76))) (yb (yw (yx z_v (T.M 51) (yE T) (T.b 75))) (yb (yw (yn z_v (T.M 55) ybg (T.b 81) (ya z_v ye))) (yf (yi (ybV (yfr (T.J 6) (yil T) (T.C 7) (T.b 51) (ya z_v (ya z_v (ya z_v (ya z_v ye)))))))))))))⟩
theorem yzr:‹(51+1,86,r86,1,ylO)›:=zfn (T.F 86 r86) (sc 86) fun cdv Ar outer sh H E hr=>have nd:=(sc 86 (r:=r86)).nd;(yb (yw (yeb (yfr (T.J 8) (ygp T) (T.C 10) (T.b 70) (ya (yR (yny T) (T.G 18) (T.k 71) (T.b 71) (ya z_v ye)) ye)))) (yb (yw (yn z_v (T.M 54) (ysL T 45).ydB (T.b 80) (ya yk ye))) (yb (yN (yy ywR yAv (yx z_v (T.M 48) (ycp T) (T.b 72)) yiA) (yf yce) ym) (yb (yN (yy ytb yCG (ybF ycd ydn (yR (ykA T 45).yfK (T.G 10) (T.k 59) (T.b 59) (ya z_v ye)) yk) (yfq T.m_MOST_ROWS)) (yf yce) ym) (yf (yi z_v))))))
theorem yip:FnOk P w K mg base CX0 (0+1) (t.a 0) (t.d 0) (FR.ps r0) (spI (yoG K t) 0 11 yfs):=zin (T.F 0 r0) (sc 0) rfl (by decide) fun cdv Ar outer sh H E hr=>(ybh (ybn (T.N 0) (yeb (ycb (ya (yeb ygK) ye)))) (ydk (ybn (T.N 1) (yeb ygK))))
theorem ymh:‹(0+1,1,r1,3,yep)›:=zfn (T.F 1 r1) (sc 1) fun cdv Ar outer sh H E hr=>have nd:=(sc 1 (r:=r1)).nd;(yb (yw (ybe ix_list ybW (yA (T.N 0) z_v) (yuz yfR yjO yk))) (yf (yke z_v z_v z_v)))
theorem yjr:‹(0+1,2,r2,2,yec)›:=zfn (T.F 2 r2) (sc 2) fun cdv Ar outer sh H E hr=>have nd:=(sc 2 (r:=r2)).nd;(yb (yyn (T.Z 8) (yA (T.N 0) z_v) ycF (yf (yN (yBj z_v z_v) (yf (yi (yrp z_v z_v))) ym))) (yf (yi yiA)))
theorem ymi:‹(0+1,3,r3,1,yeq)›:=zfn (T.F 3 r3) (sc 3) fun cdv Ar outer sh H E hr=>(yf (yJ (ywm plainAttrs_list PySem.F.slot_list_append PySem.F.type_list_append ydX ynX (yA (T.N 0) z_v) (ya (yeb ygK) ye))))
theorem ykC:‹(0+1,4,r4,1,ydI)›:=zfn (T.F 4 r4) (sc 4) fun cdv Ar outer sh H E hr=>have nd:=(sc 4 (r:=r4)).nd;(yb (yw (yuB plainAttrs_list slot_list_pop type_list_pop ynM ynY (yA (T.N 0) z_v))) (yb (yw (ybe ix_list ybW (yA (T.N 0) z_v) (yuz yfR yjO yk))) (yf (yJ (ywm PySem.F.plainAttrs_dict PySem.F.slot_dict_update PySem.F.type_dict_update yBr yEm z_v (ya z_v ye))))))
theorem ynz:‹(0+1,5,r5,1,yfa)›:=zfn (T.F 5 r5) (sc 5) fun cdv Ar outer sh H E hr=>(yf (yJ (yuB plainAttrs_list slot_list_pop type_list_pop ynM ynY (yA (T.N 0) z_v))))
theorem ypu:‹(0+1,6,r6,3,ygb)›:=zfn (T.F 6 r6) (sc 6) fun cdv Ar outer sh H E hr=>(yf (yke (yA (T.N 1) z_v) z_v z_v))
theorem ypv:‹(0+1,7,r7,1,ygc)›:=zfn (T.F 7 r7) (sc 7) fun cdv Ar outer sh H E hr=>(yf (yi (ybV (PXS.z_sortI (yA (T.N 1) z_v) (T.Z 9)))))
theorem ymj:‹(0+1,8,r8,1,yer)›:=zfn (T.F 8 r8) (sc 8) fun cdv Ar outer sh H E hr=>have nd:=(sc 8 (r:=r8)).nd;(yb (yw (ybe ix_list ybW (yA (T.N 0) z_v) yk)) (yf (yi (ybV (PXS.z_sortI z_v (T.Z 9))))))
theorem ygr:‹(0+1,16,r16,1,ydJ)›:=zfn (T.F 16 r16) (sc 16) fun cdv Ar outer sh H E hr=>(yf (yi (ywm PySem.F.plainAttrs_str PySem.F.slot_str_find PySem.F.type_str_find yyq ytR (ylI T.m_SLOTS) (ya z_v ye))))
theorem ybz:‹(1+1,19,r19,2,yY)›:=zfn (T.F 19 r19) (sc 19) fun cdv Ar outer sh H E hr=>(yf (yi (ybe ix_list ybW (yA (T.N 2) z_v) (yR (ygr T) (T.G 7) (T.k 16) (T.b 16) (ya z_v ye)))))
theorem ydh:‹(1+1,20,r20,3,ybT)›:=zfn (T.F 20 r20) (sc 20) fun cdv Ar outer sh H E hr=>(yf (yfG z_v (yA (T.N 2) z_v) (yR (ygr T) (T.G 7) (T.k 16) (T.b 16) (ya z_v ye))))
theorem ycw:‹(2+1,21,r21,2,ybH)›:=zfn (T.F 21 r21) (sc 21) fun cdv Ar outer sh H E hr=>(yf (yi (ybF ych ydq (yn z_v (T.M 17) (ybz T) (T.b 19) (ya z_v ye)) (yA (T.N 3) z_v))))
theorem yhf:FnOk P w K mg base CX0 (2+1) (t.a 18) (t.d 18) (FR.ps r18) (spJ (yoG K t) 2 12 yeN):=yFO (T.F 18 r18) (sc 18) rfl (by decide) fun cdv Ar outer sh H E hr=>(ybh (ybn (T.N 2) (yeb (ycN yK ybB (T.Z 6) (ya z_v ye)))) (ybh (ybn (T.N 3) z_v) (ydk (ybn (T.N 4) (yeb (yyo (T.J 9) (yip T) (T.C 11) (T.b 0)))))))
theorem ysM:‹(0+1,9,r9,3,yhp)›:=zfn (T.F 9 r9) (sc 9) fun cdv Ar outer sh H E hr=>(yb (yN (yy ybd ycP z_v yz) (yf (yi (ybF ych ydq (ybF ycd ydn z_v z_v) (yfq T.m_WIDE)))) ym) (yb (yN (yy ybd ycP z_v yz) (yf (yi (ybF ych ydq (ybF ykL yqx z_v z_v) (yfq T.m_WIDE)))) ym) (yb (yN (yy ybd ycP z_v yz) (yf (yi (ybF ych ydq (ybF ykM yqy z_v z_v) (yfq T.m_WIDE)))) ym) (yb (yN (yy ybd ycP z_v yz) (yf (yi (yrn (yy yju ytN z_v z_v) yk yk))) ym) (yf (yi (yrn (yy ybd ycP z_v z_v) yk yk)))))))
theorem ygG:‹(2+1,22,r22,5,ybX)›:=zfn (T.F 22 r22) (sc 22) fun cdv Ar outer sh H E hr=>(yf (yJ (yn z_v (T.M 18) (ydh T) (T.b 20) (ya z_v (ya (yR (ysM T) (T.G 0) (T.k 9) (T.b 9) (ya z_v (ya (yn z_v (T.M 17) (ybz T) (T.b 19) (ya z_v ye)) (ya (yn z_v (T.M 17) (ybz T) (T.b 19) (ya z_v ye)) ye)))) ye)))))
theorem yiK:‹(3+1,23,r23,3,ycG)›:=zfn (T.F 23 r23) (sc 23) fun cdv Ar outer sh H E hr=>(yf (yJ (yn (yA (T.N 4) z_v) (T.M 9) (ymh T) (T.b 1) (ya (yn z_v (T.M 19) (ycw T) (T.b 21) (ya z_v ye)) (ya (yn z_v (T.M 17) (ybz T) (T.b 19) (ya z_v ye)) ye)))))
theorem yiq:‹(3+1,24,r24,2,yda)›:=zfn (T.F 24 r24) (sc 24) fun cdv Ar outer sh H E hr=>(yf (yi (yem ynH ytP (yn (yA (T.N 4) z_v) (T.M 10) (yjr T) (T.b 2) (ya (yn z_v (T.M 19) (ycw T) (T.b 21) (ya z_v ye)) ye)) yiA)))
theorem yhg:‹(3+1,25,r25,3,ycj)›:=zfn (T.F 25 r25) (sc 25) fun cdv Ar outer sh H E hr=>(yf (yJ (yn z_v (T.M 18) (ydh T) (T.b 20) (ya z_v (ya (yn (yA (T.N 4) z_v) (T.M 10) (yjr T) (T.b 2) (ya (yn z_v (T.M 19) (ycw T) (T.b 21) (ya z_v ye)) ye)) ye)))))
theorem ygH:‹(3+1,26,r26,4,ycx)›:=zfn (T.F 26 r26) (sc 26) fun cdv Ar outer sh H E hr=>have nd:=(sc 26 (r:=r26)).nd;(yb (yw (yn z_v (T.M 19) (ycw T) (T.b 21) (ya z_v ye))) (yb (yJ (yn (yA (T.N 4) z_v) (T.M 14) (ypu T) (T.b 6) (ya z_v (ya (ybe ix_list ybW z_v z_v) ye)))) (yf (yJ (yn z_v (T.M 18) (ydh T) (T.b 20) (ya z_v (ya (ybe ix_list ybW z_v z_v) ye)))))))
theorem yvA:‹(0+1,27,r27,2,yhW)›:=zfn (T.F 27 r27) (sc 27) fun cdv Ar outer sh H E hr=>(yb (yN (yy ybd ycP (ybe ix_tup yS z_v yk) yz) (yf (yi (yem ybd ycP (ybe ix_tup yS z_v yk) yz))) ym) (yf (yi (ygZ (yem ybd ycP (ybe ix_tup yS z_v yk) yz) (yhO (yem ybd ycP (ybe ix_tup yS z_v yk) (ybe ix_tup yS z_v yk)))))))
theorem yir:FnOk P w K mg base CX0 (4+1) (t.a 28) (t.d 28) (FR.ps r28) (spI (yoG K t) 3 12 ydV):=zin (T.F 28 r28) (sc 28) rfl (by decide) fun cdv Ar outer sh H E hr=>(ybh (yys T.cf_Doer (T.C 13) (yhf T) (T.b 18) (ya z_v (ya z_v ye))) (ybh (ybn (T.N 5) z_v) (ybh (ybn (T.N 6) yk) (ybh (ybn (T.N 7) (yeb ygK)) (ydk (ybn (T.N 8) (yeb (ycb ye))))))))
theorem yff:‹(0+1,29,r29,1,ydv)›:=zfn (T.F 29 r29) (sc 29) fun cdv Ar outer sh H E hr=>(yf (yi (ybe ix_list ybW (yA (T.N 5) z_v) (yA (T.N 6) z_v))))
theorem yeX:‹(0+1,30,r30,2,ycu)›:=zfn (T.F 30 r30) (sc 30) fun cdv Ar outer sh H E hr=>(yf (yi (ydd (ykf rfl) yye (T.Z 1) (ya (ybV (yyt ["stamps","self"] (yA (T.N 7) z_v) (fun _ _ _ _ _ _=>(yem yfS ynQ (ybe ix_list ybW z_v z_v) (yrp (yA (T.N 7) z_v) z_v))))) ye))))
theorem ydP:‹(1+1,31,r31,2,ybt)›:=zfn (T.F 31 r31) (sc 31) fun cdv Ar outer sh H E hr=>have nd:=(sc 31 (r:=r31)).nd;(yb (yw (ydd yt ybS (T.Z 5) (ya (yA (T.N 8) z_v) ye))) (yb (ykd (ylK (yjf (yy ytb yCG z_v yk) (ygB (ydu (ybG (yR (yvA T) (T.G 9) (T.k 27) (T.b 27) (ya (ybe ix_tup yS (ybe ix_list ybW (yA (T.N 8) z_v) (ybF ykL yqx z_v yk)) yk) (ya z_v ye)))))))) (yf (yw (ybF ykL yqx z_v yk)))) (yf (yi z_v))))
theorem yeY:‹(4+1,32,r32,1,ybm)›:=zfn (T.F 32 r32) (sc 32) fun cdv Ar outer sh H E hr=>have nd:=(sc 32 (r:=r32)).nd;(yb (yw (yx z_v (T.M 25) (yff T) (T.b 29))) (yb (yN (yy ybd ycP (ybe ix_tup yS z_v yk) yz) (yf (yi (yn z_v (T.M 22) (yiq T) (T.b 24) (ya (ybe ix_tup yS z_v yk) ye)))) ym) (yb (yN (ylK (yfE (yy ybd ycP (ybe ix_tup yS z_v yk) yz) (yeK (yy ybd ycP (ybe ix_tup yS z_v yk) yz)))) (yf (yi (yem ybd ycP (yn z_v (T.M 27) (ydP T) (T.b 31) (ya z_v ye)) yk))) ym) (yf (yi (yem ybd ycP (ybe ix_tup yS z_v yk) yz))))))
theorem yis:‹(4+1,33,r33,3,ydb)›:=zfn (T.F 33 r33) (sc 33) fun cdv Ar outer sh H E hr=>have nd:=(sc 33 (r:=r33)).nd;(yb (yw (yx z_v (T.M 25) (yff T) (T.b 29))) (yb (yw (yn z_v (T.M 19) (ycw T) (T.b 21) (ya (ybe ix_tup yS z_v yk) ye))) (yb (yke (yA (T.N 7) z_v) z_v (ybe ix_list ybW z_v z_v)) (yb (yJ (yn z_v (T.M 24) (ygH T) (T.b 26) (ya (ybe ix_tup yS z_v yk) (ya (ybe ix_tup yS z_v yk) (ya z_v ye))))) (yb (ybv (T.N 6) z_v (ybF ycd ydn (yA (T.N 6) z_v) yk)) (yf (yi z_v)))))))
theorem yit:‹(4+1,34,r34,2,yC)›:=zfn (T.F 34 r34) (sc 34) fun cdv Ar outer sh H E hr=>(yf (yN (yy ybd ycP (ybe ix_tup yS z_v yk) yz) (yf (yJ (yn z_v (T.M 18) (ydh T) (T.b 20) (ya (ybe ix_tup yS z_v yk) (ya (ybe ix_tup yS z_v yk) ye))))) (yf (yN (yy ybd ycP (ybe ix_tup yS z_v yk) yz) (yf (yJ (yn z_v (T.M 23) (yhg T) (T.b 25) (ya (ybe ix_tup yS z_v yk) (ya (ybe ix_tup yS z_v yk) ye))))) (yf (yN (yy ybd ycP (ybe ix_tup yS z_v yk) yz) (yf (yJ (yn z_v (T.M 20) (yiK T) (T.b 23) (ya (ybe ix_tup yS z_v yk) (ya (ybe ix_tup yS z_v yk) ye))))) (yf (yJ (yn z_v (T.M 21) (ygG T) (T.b 22) (ya (ybe ix_tup yS z_v yk) (ya (ybe ix_tup yS z_v yk) (ya (ybe ix_tup yS z_v yk) (ya (ybe ix_tup yS z_v yk) ye)))))))))))))
theorem ynA:‹(2+1,35,r35,2,ybN)›:=zfn (T.F 35 r35) (sc 35) fun cdv Ar outer sh H E hr=>(yf (yN (yy ybd ycP (ybe ix_tup yS z_v yk) yz) (yf (ybv (T.N 6) z_v (ybe ix_tup yS z_v yk))) (yf (yN (yy ybd ycP (yn z_v (T.M 17) (ybz T) (T.b 19) (ya (ybe ix_tup yS z_v yk) ye)) yk) (yf (ybv (T.N 6) z_v (ybe ix_tup yS z_v yk))) ym))))
theorem ygT:‹(2+1,36,r36,2,yck)›:=zfn (T.F 36 r36) (sc 36) fun cdv Ar outer sh H E hr=>have nd:=(sc 36 (r:=r36)).nd;(yb (yw (yn z_v (T.M 27) (ydP T) (T.b 31) (ya z_v ye))) (yb (yw (ybe ix_list ybW (yA (T.N 8) z_v) (ybF ykL yqx z_v yk))) (yb (ykd (yy yDb yFF (ydd yt ybS (T.Z 5) (ya (yA (T.N 8) z_v) ye)) z_v) (yb (yJ (yuB plainAttrs_list slot_list_pop type_list_pop ynM ynY (yA (T.N 8) z_v))) (yf (yJ (yx (yA (T.N 4) z_v) (T.M 13) (ynz T) (T.b 5)))))) (yb (yw (ybe ix_tup yS z_v yk)) (yb (ybv (T.N 2) z_v (yeb (ycN yK ybB (T.Z 6) (ya (ybe ix_tup yS z_v yk) ye)))) (yb (ybv (T.N 6) z_v (ybe ix_tup yS z_v (yuz yfR yjO yk))) (yf (yi z_v))))))))
theorem ymk:‹(3+1,37,r37,2,ycA)›:=zfn (T.F 37 r37) (sc 37) fun cdv Ar outer sh H E hr=>have nd:=(sc 37 (r:=r37)).nd;(yb (yw (yn z_v (T.M 17) (ybz T) (T.b 19) (ya (ybe ix_tup yS z_v yk) ye))) (yb (yw (yn z_v (T.M 34) (ygT T) (T.b 36) (ya z_v ye))) (yf (yJ (yn z_v (T.M 18) (ydh T) (T.b 20) (ya (ybe ix_tup yS z_v yk) (ya z_v ye)))))))
theorem ysN:‹(5+1,38,r38,1,ycf)›:=zfn (T.F 38 r38) (sc 38) fun cdv Ar outer sh H E hr=>have nd:=(sc 38 (r:=r38)).nd;(yb (yw (yx z_v (T.M 25) (yff T) (T.b 29))) (yb (ybv (T.N 6) z_v (ybF ycd ydn (yA (T.N 6) z_v) yk)) (yf (yN (yy ybd ycP (ybe ix_tup yS z_v yk) yz) (yf (yJ (yn z_v (T.M 34) (ygT T) (T.b 36) (ya z_v ye)))) (yf (yN (yy ybd ycP (ybe ix_tup yS z_v yk) yz) (yf (yJ (yn z_v (T.M 33) (ymk T) (T.b 37) (ya z_v ye)))) (yf (yN (ylK (yfE (yy ybd ycP (ybe ix_tup yS z_v yk) yz) (yeK (yy ybd ycP (ybe ix_tup yS z_v yk) yz)))) (yf (yJ (yn z_v (T.M 32) (ynA T) (T.b 35) (ya z_v ye)))) (yf (yN (ylK (yfE (yy ybd ycP (ybe ix_tup yS z_v yk) yz) (yeK (yy ybd ycP (ybe ix_tup yS z_v yk) yz)))) (yb (yJ (ywm plainAttrs_list PySem.F.slot_list_append PySem.F.type_list_append ydX ynX (yA (T.N 8) z_v) (ya (ycL (ya z_v (ya (ybV (ycN yK ybB (T.Z 6) (ya (yA (T.N 2) z_v) ye))) ye))) ye))) (yf (yJ (yx (yA (T.N 4) z_v) (T.M 11) (ymi T) (T.b 3))))) (yf (yN (yy ybd ycP (ybe ix_tup yS z_v yk) yz) (yb (yJ (yuB plainAttrs_list slot_list_pop type_list_pop ynM ynY (yA (T.N 8) z_v))) (yf (yJ (yx (yA (T.N 4) z_v) (T.M 12) (ykC T) (T.b 4))))) (yf (yJ (yn z_v (T.M 31) (yit T) (T.b 34) (ya z_v ye))))))))))))))))
theorem yev:‹(0+1,39,r39,1,ycl)›:=zfn (T.F 39 r39) (sc 39) fun cdv Ar outer sh H E hr=>(yb (yN (yy ybd ycP (yA (T.N 10) z_v) (ydd yt ybS (T.Z 5) (ya (yA (T.N 9) z_v) ye))) (yf (yi yz)) ym) (yf (yi (yrn (ybG (yA (T.N 11) z_v)) yz yz))))
theorem ydD:‹(6+1,40,r40,1,ybY)›:=zfn (T.F 40 r40) (sc 40) fun cdv Ar outer sh H E hr=>have nd:=(sc 40 (r:=r40)).nd;(yb (yw (yrn (yy yju ytN (yA (T.N 10) z_v) (ydd yt ybS (T.Z 5) (ya (yA (T.N 9) z_v) ye))) (ybe ix_list ybW (yA (T.N 9) z_v) (yA (T.N 10) z_v)) (ybV (ycb ye)))) (yf (yi (yeb (yfr (T.J 10) (yir T) (T.C 12) (T.b 28) (ya z_v (ya (yA (T.N 12) z_v) (ya (yA (T.N 3) z_v) ye))))))))
theorem ydQ:‹(7+1,41,r41,1,ybO)›:=zfn (T.F 41 r41) (sc 41) fun cdv Ar outer sh H E hr=>(yb (ybv (T.N 11) z_v ymt) (yf (ybv (T.N 13) z_v (yx z_v (T.M 36) (ydD T) (T.b 40)))))
theorem yfO:‹(0+1,42,r42,1,ycg)›:=zfn (T.F 42 r42) (sc 42) fun cdv Ar outer sh H E hr=>(yf (ybv (T.N 11) z_v ymt))
theorem ykD:‹(7+1,43,r43,2,ydK)›:=zfn (T.F 43 r43) (sc 43) fun cdv Ar outer sh H E hr=>(yb (ybv (T.N 10) z_v (ybF ycd ydn (yA (T.N 10) z_v) yk)) (yb (ybv (T.N 12) z_v (ybV (ycN yK ybB (T.Z 6) (ya z_v ye)))) (yf (ybv (T.N 13) z_v (yx z_v (T.M 36) (ydD T) (T.b 40))))))
theorem yhh:‹(7+1,44,r44,3,ybP)›:=zfn (T.F 44 r44) (sc 44) fun cdv Ar outer sh H E hr=>(yb (ybv (T.N 9) z_v (ybV (ycN yK ybB (T.Z 6) (ya z_v ye)))) (yb (ybv (T.N 3) z_v z_v) (yb (ybv (T.N 10) z_v yk) (yb (ybv (T.N 11) z_v ymt) (yb (ybv (T.N 12) z_v (ybV (ylJ yvQ yAA (ybV (ycb (ya yk ye))) (ydd ydG ynR (T.Z 5) (ya (ylI T.m_SLOTS) ye))))) (yf (ybv (T.N 13) z_v (yx z_v (T.M 36) (ydD T) (T.b 40)))))))))
theorem yiL:‹(2+1,87,r87,1,ydo)›:=zfn (T.F 87 r87) (sc 87) fun cdv Ar outer sh H E hr=>(yb (yN (ydu (yho yhv yhv yqz yqz yk (ydd yt ybS (T.Z 5) (ya z_v ye)) (yfq T.m_MOST_BOXES))) (yf yce) ym) (yf (yN (ydu (ybG (ydd (ynN rfl) yAC (T.Z 0) (ya (ybV (yeL [] (ycz z_v) (fun _ _ _ _ _ _=>(yR (ymg T) (T.G 2) (T.k 11) (T.b 11) (ya z_v ye))))) ye)))) (yf yce) ym)))
theorem yhi:‹(93+1,88,r88,1,ycm)›:=zfn (T.F 88 r88) (sc 88) fun cdv Ar outer sh H E hr=>(yf (yi (ybV (yeL [] (ycz z_v) (fun _ _ _ _ _ _=>(yR (ypq T) (T.G 17) (T.k 69) (T.b 69) (ya (yR (yzr T) (T.G 19) (T.k 86) (T.b 86) (ya z_v ye)) ye)))))))
theorem yhj:‹(94+1,89,r89,1,ycn)›:=zfn (T.F 89 r89) (sc 89) fun cdv Ar outer sh H E hr=>(yb (yN (ydu (yho yhv yhv yqz yqz yk (ydd yt ybS (T.Z 5) (ya z_v ye)) (yfq T.m_MOST_HANDS))) (yf yce) ym) (yb (yN (ybG (ydd (ykf rfl) yye (T.Z 1) (ya (ybV (yeL [] (ycz z_v) (fun _ _ _ _ _ _=>(yem ytb yCG (ydd yt ybS (T.Z 5) (ya z_v ye)) (yfq T.m_MOST_DEEDS))))) ye))) (yf yce) ym) (yf (yi (ybV (yeL [] (ycz z_v) (fun _ _ _ _ _ _=>(yR (yhi T) (T.G 21) (T.k 88) (T.b 88) (ya z_v ye)))))))))
theorem yhk:‹(95+1,90,r90,3,ycH)›:=zfn (T.F 90 r90) (sc 90) fun cdv Ar outer sh H E hr=>(yb (yJ (yR (yiL T) (T.G 20) (T.k 87) (T.b 87) (ya z_v ye))) (yb (ybv (T.N 14) z_v (yeb (ycN yK ybB (T.Z 6) (ya z_v ye)))) (yb (ybv (T.N 15) z_v (yeb (ylJ yvQ yAA (ybV (ycb (ya yk ye))) (ydd yt ybS (T.Z 5) (ya z_v ye))))) (yb (ybv (T.N 16) z_v (yeb (yeL ["boxes"] (ycz (yR (yhj T) (T.G 22) (T.k 89) (T.b 89) (ya z_v ye))) (fun _ _ _ _ _ _=>(yru (T.J 12) (yhh T) (T.C 14) (T.b 44) (ya z_v (ya (ydd yt ybS (T.Z 5) (ya z_v ye)) ye))))))) (yf (ybv (T.N 17) z_v (yeb (ycb ye))))))))
theorem yeZ:‹(1+1,91,r91,2,ybZ)›:=zfn (T.F 91 r91) (sc 91) fun cdv Ar outer sh H E hr=>(yb (yN (ylK (yfE (ydu (ybG (yR (yio T) (T.G 1) (T.k 10) (T.b 10) (ya z_v ye)))) (yeK (ydu (yho yhv yju yqz ytN yk z_v (ydd yt ybS (T.Z 5) (ya (yA (T.N 16) z_v) ye))))))) (yf yce) ym) (yf (yi (ybe ix_list ybW (yA (T.N 16) z_v) z_v))))
theorem ydp:‹(2+1,92,r92,2,ybq)›:=zfn (T.F 92 r92) (sc 92) fun cdv Ar outer sh H E hr=>(yf (yi (yx (yn z_v (T.M 40) (yeZ T) (T.b 91) (ya z_v ye)) (T.M 35) (yev T) (T.b 39))))
theorem yiu:‹(0+1,93,r93,1,ydc)›:=zfn (T.F 93 r93) (sc 93) fun cdv Ar outer sh H E hr=>(yf (yi (ybV (yrv [] (yA (T.N 17) z_v) (fun _ _ _ _ _ _=>(ycL (ya (ybe ix_tup yS z_v yk) (ya (ybe ix_tup yS z_v yk) (ya (ybe ix_tup yS z_v yk) (ya (ybV (ycN yK ybB (T.Z 6) (ya (ybe ix_tup yS z_v yk) ye))) (ya (ybV (ycN yK ybB (T.Z 6) (ya (ybe ix_tup yS z_v yk) ye))) (ya (ybV (ycN yK ybB (T.Z 6) (ya (ybe ix_tup yS z_v yk) ye))) ye))))))))))))
theorem ygs:‹(8+1,94,r94,1,ybu)›:=zfn (T.F 94 r94) (sc 94) fun cdv Ar outer sh H E hr=>have nd:=(sc 94 (r:=r94)).nd;(yf (yym (yA (T.N 16) z_v) ycF (yf (yN (ylK (yjf (yy ybd ycP (yx z_v (T.M 35) (yev T) (T.b 39)) yz) (ygB (ybG (yn (yA (T.N 13) z_v) (T.M 26) (yeX T) (T.b 30) (ya (yA (T.N 15) z_v) ye)))))) (yf (yJ (yx z_v (T.M 37) (ydQ T) (T.b 41)))) ym))))
theorem yez:‹(8+1,95,r95,5,yco)›:=zfn (T.F 95 r95) (sc 95) fun cdv Ar outer sh H E hr=>have nd:=(sc 95 (r:=r95)).nd;(yb (yw (ybe ix_list ybW (yA (T.N 16) z_v) z_v)) (yb (yJ (ywm plainAttrs_list PySem.F.slot_list_append PySem.F.type_list_append ydX ynX (yA (T.N 17) z_v) (ya (ycL (ya z_v (ya (yA (T.N 10) z_v) (ya z_v (ya (yx (yA (T.N 4) (yA (T.N 13) z_v)) (T.M 15) (ypv T) (T.b 7)) (ya z_v (ya (ybV (ycN yK ybB (T.Z 6) (ya z_v ye))) ye))))))) ye))) (yf (yJ (yn z_v (T.M 39) (ykD T) (T.b 43) (ya z_v ye))))))
theorem yhl:‹(9+1,96,r96,2,ycI)›:=zfn (T.F 96 r96) (sc 96) fun cdv Ar outer sh H E hr=>have nd:=(sc 96 (r:=r96)).nd;(yb (yw (yA (T.N 13) (ybe ix_list ybW (yA (T.N 16) z_v) z_v))) (yb (yw (yx (yA (T.N 4) z_v) (T.M 16) (ymj T) (T.b 8))) (yb (yga (ycz z_v) ycF (yb (yw (ybe ix_tup yS z_v yk)) (yb (yfG (ybe ix_tup yS z_v yk) (yA (T.N 14) z_v) z_v) (yf (yfG (ybF ycd ydn (ybe ix_list ybW (yA (T.N 15) z_v) z_v) yk) (yA (T.N 15) z_v) z_v))))) (yb (yJ (yn z_v (T.M 44) (yez T) (T.b 95) (ya z_v (ya (ycL (ya yz ye)) (ya z_v (ya (yA (T.N 2) z_v) ye)))))) (yf (yJ (yx z_v (T.M 43) (ygs T) (T.b 94))))))))
theorem yei:‹(10+1,97,r97,3,yO)›:=zfn (T.F 97 r97) (sc 97) fun cdv Ar outer sh H E hr=>have nd:=(sc 97 (r:=r97)).nd;(yb (yw (ybe ix_list ybW (yA (T.N 16) z_v) z_v)) (yb (yw (yx (yA (T.N 13) z_v) (T.M 25) (yff T) (T.b 29))) (yb (yN (yy ybd ycP (ybe ix_tup yS z_v yk) yz) (yb (yw (yn (yA (T.N 13) z_v) (T.M 29) (yis T) (T.b 33) (ya (yA (T.N 14) z_v) (ya (yA (T.N 15) z_v) ye)))) (yf (yi (ycL (ya yz (ya z_v (ya z_v (ya (ybe ix_list ybW (yA (T.N 14) z_v) z_v) ye)))))))) ym) (yb (yN (yy ybd ycP (ybe ix_tup yS z_v yk) yz) (yb (yJ (yx z_v (T.M 38) (yfO T) (T.b 42))) (yf (yi (ycL (ya yz (ya z_v ye)))))) ym) (yb (yN (yy ybd ycP (ybe ix_tup yS z_v yk) yz) (yb (yJ (yn z_v (T.M 44) (yez T) (T.b 95) (ya z_v (ya (ycL (ya yz (ya (ybe ix_tup yS z_v yk) (ya (yn (yA (T.N 13) z_v) (T.M 17) (ybz T) (T.b 19) (ya (ybe ix_tup yS z_v yk) ye)) ye)))) (ya (ybV (ycb ye)) (ya (yA (T.N 12) z_v) ye)))))) (yf (yi (ycL (ya yz (ya z_v ye)))))) ym) (yb (yJ (yn z_v (T.M 45) (yhl T) (T.b 96) (ya z_v ye))) (yf (yi (ycL (ya yz (ya z_v ye)))))))))))
theorem yml:‹(11+1,98,r98,2,yF)›:=zfn (T.F 98 r98) (sc 98) fun cdv Ar outer sh H E hr=>have nd:=(sc 98 (r:=r98)).nd;(yb (yw (yn z_v (T.M 40) (yeZ T) (T.b 91) (ya z_v ye))) (yb (yN (yy yfS ynQ (yx z_v (T.M 35) (yev T) (T.b 39)) yz) (yf (yi (ycL (ya yz ye)))) ym) (yb (yw (yA (T.N 6) (yA (T.N 13) z_v))) (yb (yN (ydu (ybG (yx (yA (T.N 13) z_v) (T.M 28) (yeY T) (T.b 32)))) (yb (yJ (yx (yA (T.N 13) z_v) (T.M 30) (ysN T) (T.b 38))) (yf (yi (ycL (ya yz (ya z_v ye)))))) ym) (yb (yN (ybG (yn (yA (T.N 13) z_v) (T.M 26) (yeX T) (T.b 30) (ya (yA (T.N 15) z_v) ye))) (yb (yJ (yx z_v (T.M 37) (ydQ T) (T.b 41))) (yf (yi (ycL (ya yz (ya z_v ye)))))) ym) (yf (yi (yn z_v (T.M 46) (yei T) (T.b 97) (ya z_v (ya z_v ye))))))))))
theorem yiv:‹(0+1,99,r99,2,ycv)›:=zfn (T.F 99 r99) (sc 99) fun cdv Ar outer sh H E hr=>(yb (yN (yy yju ytN z_v (ydd yt ybS (T.Z 5) (ya z_v ye))) (yf (yi (ybe ix_list ybW z_v z_v))) ym) (yf (yi yk)))
theorem ykE:‹(0+1,100,r100,1,yeP)›:=zfn (T.F 100 r100) (sc 100) fun cdv Ar outer sh H E hr=>(yf (yi (ygZ (ydd yT (yeI (K:=ckX _ _) T.isa) (T.Z 4) (ya z_v (ya (yrl (T.Z 3)) ye))) (yhO (yBg (ydd yT (yeI (K:=ckX _ _) T.isa) (T.Z 4) (ya z_v (ya (yrl (T.Z 2)) ye))))))))
theorem ykF:‹(0+1,101,r101,1,ydf)›:=zfn (T.F 101 r101) (sc 101) fun cdv Ar outer sh H E hr=>have nd:=(sc 101 (r:=r101)).nd;(yb (yw (ybF ych ydq (ybF ykM yqy z_v yk) yk)) (yb (yw (ybF yP yct yz (ypd yeE yqD (T.Z 10) (ya (ybF ych ydq (ybF yej yjN z_v yk) yk) ye)))) (yb (yw (ybF yP yct yz (ypd yeE yqD (T.Z 10) (ya (ybF ych ydq (ybF yej yjN z_v yk) yk) ye)))) (yb (yw (ypd yeE yqD (T.Z 10) (ya (ybe ix_list ybW (ybV (ycb (ya yk (ya yk (ya (ybF ych ydq (ybF yej yjN z_v yk) yk) (ya (ybF ych ydq z_v (ybF ypM yxH yk yk)) ye)))))) (ybF ych ydq (ybF yej yjN z_v yk) yk)) ye))) (yb (yhR (ycb (ya (ybF yP yct z_v yz) (ya (ybF yP yct yz z_v) (ya (ybF yP yct z_v yz) ye))))) (yhS (yb (yhR (ylJ yiQ yoV z_v (ybV (ycb (ya (ybF yP yct z_v yz) (ya (ybF yP yct z_v yz) ye)))))) (yb (yw (ybF yP yct (ybF yP yct yz z_v) yz)) (yb (yhQ (ybF yP yct (ybF yP yct (ybF yP yct z_v yz) z_v) yz)) (yb (yw (ybF yP yct (ybF yP yct yz z_v) yz)) (yb (yhQ (ybF yP yct (ybF yP yct z_v z_v) yz)) (yb (yhQ (ybF yP yct z_v yz)) (yb (yw (ybF yP yct (ybF yP yct z_v yz) z_v)) (yb (yhQ (ybF yP yct z_v yz)) (yb (yhQ (ybF yP yct z_v yz)) (yhS (yf (yi (ybe ix_list ybW z_v (ybF ych ydq z_v yk))))))))))))))))))))
theorem ymm:‹(1+1,102,r102,1,yet)›:=zfn (T.F 102 r102) (sc 102) fun cdv Ar outer sh H E hr=>have nd:=(sc 102 (r:=r102)).nd;(yb (yw (ybV (ycb (ya z_v (ya (ybF ych ydq (ybF ykM yqy z_v yk) yk) (ya (ybF ych ydq (ybF ykM yqy z_v yk) yk) ye)))))) (yf (yi (ywm PySem.F.plainAttrs_str PySem.F.slot_str_join PySem.F.type_str_join yxg yAD yz (ya (ybV (ylJ yiQ yoV (ybV (ycb (ya yz ye))) (ybV (yeL [] (ycz (ybV (yuA yjz ytQ z_v yyh (yhP (ybF ycd ydn yk (ybF ych ydq z_v yk)))))) (fun _ _ _ _ _ _=>(yR (ykF T) (T.G 25) (T.k 101) (T.b 101) (ya z_v ye))))))) ye)))))
theorem ykG:‹(0+1,103,r103,1,ydL)›:=zfn (T.F 103 r103) (sc 103) fun cdv Ar outer sh H E hr=>(yf (yi (ybV (yeL ["_law_head"] (yfF (T.Z 7) (ya (ybF ycd ydn yk (ybF ych ydq z_v yk)) ye)) (fun _ _ _ _ _ _=>(ybF ych ydq (ybF yej yjN (ybF yej yjN z_v yk) (ybF ycd ydn z_v yk)) yk))))))
theorem ykH:‹(2+1,104,r104,2,ydM)›:=zfn (T.F 104 r104) (sc 104) fun cdv Ar outer sh H E hr=>have nd:=(sc 104 (r:=r104)).nd;(yb (yuI [] (yfF (T.Z 7) (ya (ybF ycd ydn yk (ybF ych ydq (ybF yej yjN z_v yk) yk)) ye)) (fun _ _ _ _ _ _=>(yeb (ycb ye)))) (yb (yw (ybV (yuA yjz ytQ z_v (yhP yk) (yhP yk)))) (yb (yga (yfF (T.Z 7) (ya (ydd yt ybS (T.Z 5) (ya z_v ye)) ye)) ycF (yf (yJ (ywm plainAttrs_list PySem.F.slot_list_append PySem.F.type_list_append ydX ynX (ybe ix_list ybW z_v (ybF ych ydq z_v (ydd yt ybS (T.Z 5) (ya z_v ye)))) (ya (yR (ymm T) (T.G 26) (T.k 102) (T.b 102) (ya (ybF ych ydq (ybe ix_list ybW z_v z_v) (ybF ypM yxH yk yk)) ye)) ye))))) (yf (yi z_v)))))
theorem ykI:‹(0+1,105,r105,2,ydg)›:=zfn (T.F 105 r105) (sc 105) fun cdv Ar outer sh H E hr=>have nd:=(sc 105 (r:=r105)).nd;(yb (yhR (ycb ye)) (yb (yga (ycz (ybV (yuA yjz ytQ z_v yyh (yhP yk)))) ycF (yb (yw (ybF ych ydq (ybF ykM yqy z_v yk) yk)) (yb (yw (yem ybd ycP (ybF ych ydq z_v yk) yk)) (yb (yw (ybF yej yjN z_v yk)) (yf (yga (yfF (T.Z 7) (ya yk ye)) ycF (yb (yhQ (ybF ych ydq z_v z_v)) (yf (yN (ydu (ybG z_v)) (yf (yw (ybF yej yjN z_v z_v))) ym))))))))) (yhS (yf (yi z_v)))))
theorem ygt:‹(0+1,106,r106,3,ybR)›:=zfn (T.F 106 r106) (sc 106) fun cdv Ar outer sh H E hr=>have nd:=(sc 106 (r:=r106)).nd;(yb (yuM z_v ycF (yf (yga (ycz (ybV (yuA yjz ytQ z_v (yhP (yrp z_v z_v)) yyh))) ycF (yf (yN (ylK (yjf (yy yfS ynQ (ybe ix_tup yS z_v yk) z_v) (ygB (yy yhA yuk z_v (ybV (yeL [] (ycz (ybe ix_tup yS z_v yk)) (fun _ _ _ _ _ _=>(ybe yvM yBa z_v yk)))))))) (yf (yi ymt)) ym))))) (yf (yi ymt)))
theorem ykJ:‹(3+1,107,r107,5,ycB)›:=zfn (T.F 107 r107) (sc 107) fun cdv Ar outer sh H E hr=>have nd:=(sc 107 (r:=r107)).nd;(yb (yN (ylK (yfE (yy ybd ycP (ydd yt ybS (T.Z 5) (ya z_v ye)) yk) (yfE (yy yfS ynQ (ybe ix_tup yS (ybe ix_list ybW z_v (yuz yfR yjO yk)) yk) z_v) (yeK (yy ykV yuk (yn z_v (T.M 41) (ydp T) (T.b 92) (ya z_v ye)) (ycL (ya yz (ya yz ye)))))))) (yf (yi ymt)) ym) (yb (yom [] (ycz (ybe ix_tup yS (ybe ix_list ybW z_v (yuz yfR yjO yk)) yk)) (fun _ _ _ _ _ _=>(ybe yvM yBa z_v yk))) (yb (yfG (ybV (ycb (ya (yuz yfR yjO yk) (ya (yeb ygK) ye)))) z_v z_v) (yb (yga (yfF (T.Z 7) (ya (ydd yt ybS (T.Z 5) (ya z_v ye)) ye)) ycF (yb (yw (ygZ (yem ybd ycP (ybe ix_list ybW z_v z_v) yz) (yhO (ydd (ykf rfl) yye (T.Z 1) (ya (ybV (yeL ["_law_runs","_law_k"] (ycz z_v) (fun _ _ _ _ _ _=>(yEp z_v (ybe ix_list ybW (ybe ix_list ybW z_v z_v) yk))))) ye))))) (yb (yN (ybG z_v) (yf (yfG (ybV (ycb (ya (yuz yfR yjO yk) (ya (yeb ygK) ye)))) z_v z_v)) ym) (yf (yN (ylK (yjf (yy yfS ynQ z_v z_v) (ygB (yy yfS ynQ (yn z_v (T.M 41) (ydp T) (T.b 92) (ya z_v ye)) (ybe ix_list ybW (ybV (ycb (ya (ybe ix_list ybW z_v z_v) (ya yz ye)))) (ypd ykN yvY (T.Z 3) (ya z_v ye))))))) (yf (yi ymt)) ym))))) (yf (yi ymt))))))
theorem ybU:‹(3+1,108,r108,4,yG)›:=zfn (T.F 108 r108) (sc 108) fun cdv Ar outer sh H E hr=>have nd:=(sc 108 (r:=r108)).nd;(yb (yga (yfF (T.Z 7) (ya (ydd yt ybS (T.Z 5) (ya z_v ye)) ye)) ycF (yf (yN (yy yfS ynQ (yn z_v (T.M 41) (ydp T) (T.b 92) (ya z_v ye)) (ybe ix_list ybW (ybV (ycb (ya (ybe ix_list ybW z_v z_v) (ya z_v ye)))) (ypd ykN yvY (T.Z 3) (ya (yem ybd ycP z_v z_v) ye)))) (yf (yi ymt)) ym))) (yf (yi ymt)))
theorem ymn:‹(4+1,109,r109,7,ycV)›:=zfn (T.F 109 r109) (sc 109) fun cdv Ar outer sh H E hr=>have nd:=(sc 109 (r:=r109)).nd;(yb (yN (yy (yBm (yBn hr)) yEi z_v (ycL (ya yz ye))) (yf (yi (ygZ (yem yfS ynQ (ybe ix_list ybW z_v z_v) yz) (ygZ (yem ybd ycP (ydd yt ybS (T.Z 5) (ya z_v ye)) z_v) (yhO (yR (ybU T) (T.G 32) (T.k 108) (T.b 108) (ya z_v (ya z_v (ya z_v (ya (ybe ix_list ybW z_v z_v) ye)))))))))) ym) (yb (yN (ylK (yfE (yy yfS ynQ (ybe ix_list ybW z_v z_v) yz) (yfE (ydu (ybG (ydd yT (yeI (K:=ckX _ _) T.isa) (T.Z 4) (ya z_v (ya (yrl (T.Z 12)) ye))))) (yfE (yy yju ytN (ydd yt ybS (T.Z 5) (ya z_v ye)) yk) (yeK (ydu (ybG (yR (ykE T) (T.G 24) (T.k 100) (T.b 100) (ya (ybe ix_tup yS z_v yk) ye))))))))) (yf (yi ymt)) ym) (yb (yBi (ybe ix_list ybW z_v z_v) (yBv (yoj ycF (yoj ycF yyj)))) (yb (yN (ylK (yfE (yy yhv yqz (ybe ix_tup yS z_v yk) z_v) (yeK (ylK (yjf (yy yju ytN z_v yk) (ygB (yy yfS ynQ (ybe ix_tup yS z_v yk) yk))))))) (yf (yi ymt)) ym) (yb (yN (ylK (yfE (yy ybd ycP (ybe ix_tup yS z_v yk) yz) (yeK (yy ybd ycP (ybe ix_tup yS z_v yk) yz)))) (yf (yi (ygZ (yem ybd ycP (ydd yt ybS (T.Z 5) (ya z_v ye)) (ybF ycd ydn z_v yk)) (yhO (yR (ykJ T) (T.G 31) (T.k 107) (T.b 107) (ya z_v (ya z_v (ya z_v (ya z_v (ya z_v ye)))))))))) ym) (yb (yN (yy yfS ynQ (ydd yt ybS (T.Z 5) (ya z_v ye)) z_v) (yf (yi ymt)) ym) (yb (yfG (ybV (ycb (ya (ybe ix_tup yS z_v yk) (ya z_v ye)))) z_v z_v) (yb (yN (yy ybd ycP (ybe ix_tup yS z_v yk) yz) (yb (yfG (ybV (ycb (ya (yuz yfR yjO yk) (ya (yeb ygK) ye)))) z_v z_v) (yf (yi (ygZ (yR (ygt T) (T.G 30) (T.k 106) (T.b 106) (ya z_v (ya z_v (ya z_v ye)))) (yhO (yR (ybU T) (T.G 32) (T.k 108) (T.b 108) (ya z_v (ya z_v (ya z_v (ya yz ye)))))))))) ym) (yb (yN (yy ybd ycP (ybe ix_tup yS z_v yk) yz) (yb (yN (yy yfS ynQ (ydd yt ybS (T.Z 5) (ya z_v ye)) yk) (yf (yi ymt)) ym) (yf (yke z_v (ybe ix_tup yS z_v yk) (ydd yt ybS (T.Z 5) (ya z_v ye))))) ym) (yb (yN (yy ybd ycP (ybe ix_tup yS z_v yk) yz) (yf (yi (yR (ybU T) (T.G 32) (T.k 108) (T.b 108) (ya z_v (ya z_v (ya z_v (ya yz ye))))))) ym) (yf (yi (ygZ (yem yhA yuk (ybe ix_tup yS z_v yk) (ycL (ya yz (ya yz ye)))) (yhO (yR (ybU T) (T.G 32) (T.k 108) (T.b 108) (ya z_v (ya z_v (ya z_v (ya yz ye)))))))))))))))))))
theorem yCA:‹(97+1,110,r110,1,yuN)›:=zfn (T.F 110 r110) (sc 110) fun cdv Ar outer sh H E hr=>have nd:=(sc 110 (r:=r110)).nd;(yb (yw (ybF ych ydq (yR (yiv T) (T.G 23) (T.k 99) (T.b 99) (ya z_v (ya yk ye))) (ybF ypM yxH yk yk))) (yb (yw (yR (ykH T) (T.G 28) (T.k 104) (T.b 104) (ya z_v (ya z_v ye)))) (yb (yw (yru (T.J 13) (yhk T) (T.C 15) (T.b 90) (ya (yR (ykG T) (T.G 27) (T.k 103) (T.b 103) (ya z_v ye)) (ya (ybV (yrv [] z_v (fun _ _ _ _ _ _=>(ybV (ycN yK ybB (T.Z 6) (ya z_v ye)))))) ye)))) (yb (yrw [] z_v (fun _ _ _ _ _ _=>(ybV (ycb (ya (yuz yfR yjO yk) (ya (yeb ygK) ye)))))) (yb (yw (ybV (ycb ye))) (yb (yga (ycz (yR (ykI T) (T.G 29) (T.k 105) (T.b 105) (ya z_v (ya (ydd yt ybS (T.Z 5) (ya z_v ye)) ye)))) ycF (yb (yom ["_law_hall"] (yfF (T.Z 7) (ya (ydd yt ybS (T.Z 5) (ya z_v ye)) ye)) (fun _ _ _ _ _ _=>(yn z_v (T.M 41) (ydp T) (T.b 92) (ya z_v ye)))) (yb (yw (ydd yt ybS (T.Z 5) (ya z_v ye))) (yb (yw (yn z_v (T.M 47) (yml T) (T.b 98) (ya z_v ye))) (yb (yw (yx z_v (T.M 42) (yiu T) (T.b 93))) (yf (yN (ydu (ybG (yR (ymn T) (T.G 33) (T.k 109) (T.b 109) (ya z_v (ya z_v (ya z_v (ya z_v (ya z_v (ya z_v (ya z_v ye)))))))))) (yf (yi ymt)) ym))))))) (yf (yi ymt))))))))
def yvB (K:PySem.W.Frag):Sp:=fun vs H Q _=>∃ (a:Addr) (ns:List Int),vs=[.ref a]/\SqL K H a (ns.map V.int)/\ns.length<=63/\∀ H',Q (.bl true) H'
theorem yCB {A:Nat->Addr}:∀ vs H Q E,yvB K vs H Q E->spE ⟨K,A⟩ 1 yuN vs H Q E:=by
 rintro _ H Q E ⟨a,ns,rfl,hS,hl,q⟩
 obtain ⟨h',e⟩:=yCy (h:=[]) ns hl
 exact ⟨⟨H,H,[],[]⟩,[.scr ns],.bl true,h',rfl,⟨Same.refl _,rfl,List.nodup_nil,fun n d a e=>by simp at e⟩,⟨.ref a,[],rfl,⟨a,rfl,hS⟩,rfl⟩,rfl,e,fun v W' _ _ rv=>by rw [show v=_ from rv];exact q _⟩
end
structure FB (K:PySem.W.Frag) (r:FR) (p:Addr×FuncData):Prop where
 F:Fun K r.1 r.2.1 r.2.2.1 p.1 p.2
 b:Binds K p.2 r.ps []
theorem FB.of {K:PySem.W.Frag}{x q:Str}{s:Stmt}{k:Nat}{n:List Str}{f:Addr}{d:FuncData}(F:Fun K x q s f d) (b:Binds K d (n.take k) []):FB K (fRw x q s k n) (f,d):=⟨F,b⟩
noncomputable def All2 {α β:Type}(R:α->β->Prop):List α->List β->Prop
 | r::rs,p::ps=>R r p/\All2 R rs ps
 | [],[]=>True
 | _,_=>False
theorem All2.get {α β:Type}{R:α->β->Prop}{d:α}{e:β}(h:R d e):∀ {rs:List α}{ps:List β},All2 R rs ps->∀ n:Nat,R (rs.getD n d) (ps.getD n e)
 | [],[],_,_=>h
 | _::_,_::_,a,0=>a.1
 | _::_,_::_,a,n+1=>All2.get h a.2 n
noncomputable abbrev Ns1 (K:PySem.W.Frag) (x:Str) (f:Addr):Prop:=nsIn K mainGlobals x=some (some (.ref f))
structure TyR (K:PySem.W.Frag) (C:Addr):Prop where
 ha:findIn K (.ref C) "__class__" = some (some (.builtin "object.__class__"))
 hm:mroIn K C (.type "object")=some true
 ty:typeIn K (.ref C)=some (.type "type")
structure NS2 (K:PySem.W.Frag) (c d:Addr):Prop where
 sb:subIn K (.ref c) (.ref d)=some false
 ne:(c == d)=false
def NSx (K:PySem.W.Frag) (pre:List Addr):List Addr->Prop
 | []=>True
 | c::cs=>AllP (NS2 K c) pre/\AllP (NS2 K c) cs/\NSx K (c::pre) cs
theorem NSx.get {K:PySem.W.Frag}{A:Nat->Addr}:∀ {cs pre:List Nat},NSx K (pre.map A) (cs.map A)->∀ i∈cs,∀ j,j∈pre\/j∈cs->i≠j->NS2 K (A i) (A j)
 | c::cs,pre,a,i,hi,j,hj,ne=>by
  rcases mem_cons.mp hi with rfl|hi
  .rcases hj with hj|hj
   .exact a.1.mem _ (List.mem_map_of_mem hj)
   .rcases mem_cons.mp hj with rfl|hj
    .exact absurd rfl ne
    .exact a.2.1.mem _ (List.mem_map_of_mem hj)
  .refine NSx.get (pre:=c::pre) a.2.2 i hi j ?_ ne
   rcases hj with hj|hj
   .exact .inl (mem_cons_of_mem _ hj)
   .rcases mem_cons.mp hj with rfl|hj
    .exact .inl mem_cons_self
    .exact .inr hj
theorem yzs {K:PySem.W.Frag}{A:Nat->Addr}(CL:∀ k,Cls K (A k)) (hn:PySem.W.specialIn K (.builtin "object.__class__") "__get__" = some (some (.builtin "getset_descriptor.__get__"))) (htk:PySem.W.takesIn K (.builtin "object.__class__")=some true) (cs:List Nat) (ty:AllP (TyR K) (cs.map A)) (sb:NSx K [] (cs.map A)) :
  ∀ r∈tbO cs,∀ (H:Hp) (a dx:Addr) (fs:List (Str×V)),H a=some (.ins (A r.1) dx fs)->IsI K H (.ref a) (.ref (A r.2.1)) r.2.2:=by
 intro r hr H a dx fs e
 unfold tbO at hr
 obtain ⟨i,hi,hr⟩:=List.mem_flatMap.mp hr
 obtain ⟨j,hj,rfl⟩:=List.mem_map.mp hr
 have t:=ty.mem _ (List.mem_map_of_mem hi)
 have t':=ty.mem _ (List.mem_map_of_mem hj)
 refine ⟨_,_,.ins e (CL i) t.ha hn htk t.hm,rfl,?_⟩
 by_cases q:i=j
 .subst q
  show _=some (i == i)
  rw [beq_self_eq_true]
  exact ytr
 .have n:=NSx.get (pre:=[]) sb i hi j (.inr hj) q
  show _=some (i == j)
  rw [beq_eq_false_iff_ne.mpr q]
  exact ytt n.ne t'.hm t'.ty n.sb
theorem zip_get {K:PySem.W.Frag}{c0:Str}{C0:Addr}:∀ {cs:List Str}{as:List Addr},AllP (fun p:Str×Addr=>Ns1 K p.1 p.2) ((c0::cs).zip (C0::as))->cs.length=as.length->∀ n:Nat,Ns1 K ((c0::cs).getD n c0) ((C0::as).getD n C0):=fun {cs as} h hl n=>by
 have h0:=h.1
 have:∀ (cs:List Str) (as:List Addr),AllP (fun p:Str×Addr=>Ns1 K p.1 p.2) (cs.zip as)->cs.length=as.length->∀ n:Nat,Ns1 K (cs.getD n c0) (as.getD n C0):=by
  intro cs
  induction cs with
  | nil=>intro as _ e n;cases as with|nil=>exact h0|cons _ _=>cases e
  | cons c cs ih=>intro as h e n;cases as with|nil=>cases e|cons a as=>cases n with|zero=>exact h.1|succ n=>exact ih as h.2 (by simpa using e) n
 exact this _ _ h (by simpa using hl) n
theorem all_mk {l:PySem.W.OpenLaw}{w:World}{K:PySem.W.Frag}{h:Heap}{mg:Str->Option Value}{fa C0 C1 C2 C3 C4 C5 C6 C7 C8 C9 C10 C11 C12 C13 C14 C15 f0 f1 f2 f3 f4 f5 f6 f7 f8 f9 f10 f11 f12 f13 f14 f15 f16 f17 f18 f19 f20 f21 f22 f23 f24 f25 f26 f27 f28 f29 f30 f31 f32 f33 f34 f35 f36 f37 f38 f39 f40 f41 f42 f43 f44 f45 f46 f47 f48 f49 f50 f51 f52 f53 f54 f55 f56 f57 f58 f59 f60 f61 f62 f63 f64 f65 f66 f67 f68 f69 f70 f71 f72 f73 f74 f75 f76 f77 f78 f79 f80 f81 f82 f83 f84 f85 f86 f87 f88 f89 f90 f91 f92 f93 f94 f95 f96 f97 f98 f99 f100 f101 f102 f103 f104 f105 f106 f107 f108 f109 f110 u10:Addr}{d0 d1 d2 d3 d4 d5 d6 d7 d8 d9 d10 d11 d12 d13 d14 d15 d16 d17 d18 d19 d20 d21 d22 d23 d24 d25 d26 d27 d28 d29 d30 d31 d32 d33 d34 d35 d36 d37 d38 d39 d40 d41 d42 d43 d44 d45 d46 d47 d48 d49 d50 d51 d52 d53 d54 d55 d56 d57 d58 d59 d60 d61 d62 d63 d64 d65 d66 d67 d68 d69 d70 d71 d72 d73 d74 d75 d76 d77 d78 d79 d80 d81 d82 d83 d84 d85 d86 d87 d88 d89 d90 d91 d92 d93 d94 d95 d96 d97 d98 d99 d100 d101 d102 d103 d104 d105 d106 d107 d108 d109 d110:FuncData}{u1 u2 u3 u4 u5 u6 u7 u8 u9:Tok}(X:K.In h) (G:h.Ns mainGlobals mg) (hfa:mg "law" = some (.ref fa))
  {qd10:Option Addr}{qn10:Nat}{qs10:Array (Option Value)}{qt10_0 qt10_1 qt10_2 qt10_3 qt10_4:Tok}
  (hC:Ns1 K "Part" C0/\Ns1 K "Let" C1/\Ns1 K "Reckon" C2/\Ns1 K "Take" C3/\Ns1 K "Put" C4/\Ns1 K "If" C5/\Ns1 K "Either" C6/\Ns1 K "Try" C7/\Ns1 K "Throw" C8/\Ns1 K "Wait" C9/\Ns1 K "Reader" C10/\Ns1 K "Log" C11/\Ns1 K "Run" C12/\Ns1 K "Doer" C13/\Ns1 K "Hand" C14/\Ns1 K "Hall" C15/\True)
  (cl:AllP (Cls K) [C0,C1,C2,C3,C4,C5,C6,C7,C8,C9,C10,C11,C12,C13,C14,C15])
  (hK:Mk K C1 f45/\Mk K C2 f46/\Mk K C3 f47/\Mk K C4 f48/\Mk K C5 f49/\Mk K C6 f50/\Mk K C7 f51/\Mk K C8 f52/\Mk K C10 f70/\Mk K C11 f0/\Mk K C12 f28/\Mk K C13 f18/\Mk K C14 f44/\Mk K C15 f90/\True)
  (mk0:makesIn K C0=true)
  (io0:findIn K (.ref C0) "__init__" = some (some (.builtin "object.__init__")))
  (kp0:keepIn K (.ref C0)=true)
  (mk9:makesIn K C9=true)
  (io9:findIn K (.ref C9) "__init__" = some (some (.builtin "object.__init__")))
  (kp9:keepIn K (.ref C9)=true)
  (hM:Meth K C1 "long" f53/\Meth K C2 "long" f54/\Meth K C3 "long" f55/\Meth K C4 "long" f56/\Meth K C5 "long" f60/\Meth K C6 "long" f61/\Meth K C7 "long" f62/\Meth K C8 "long" f57/\Meth K C9 "long" f58/\Meth K C11 "write" f1/\Meth K C11 "own" f2/\Meth K C11 "begin" f3/\Meth K C11 "settle" f4/\Meth K C11 "drop" f5/\Meth K C11 "see" f6/\Meth K C11 "saw" f7/\Meth K C11 "wrote" f8/\Meth K C12 "held_in" f19/\Meth K C12 "hold" f20/\Meth K C12 "box_at" f21/\Meth K C12 "do_put" f23/\Meth K C12 "do_reckon" f22/\Meth K C12 "sees_at" f24/\Meth K C12 "take_own" f25/\Meth K C12 "take_seen" f26/\Meth K C12 "row" f29/\Meth K C12 "is_stale" f30/\Meth K C12 "taker_layer" f31/\Meth K C12 "is_looked_over" f32/\Meth K C12 "see_next" f33/\Meth K C12 "go" f38/\Meth K C12 "go_plain" f34/\Meth K C12 "lead" f35/\Meth K C12 "throw" f37/\Meth K C12 "leave" f36/\Meth K C14 "state" f39/\Meth K C14 "new_run" f40/\Meth K C14 "begin_anew" f41/\Meth K C14 "fall_asleep" f42/\Meth K C14 "go_on" f43/\Meth K C15 "hand_at" f91/\Meth K C15 "state" f92/\Meth K C15 "journal" f93/\Meth K C15 "wake_stale" f94/\Meth K C15 "end_deed" f95/\Meth K C15 "lay_down" f96/\Meth K C15 "looked_over_told" f97/\Meth K C15 "turn" f98/\Meth K C10 "ahead" f72/\Meth K C10 "taken" f73/\Meth K C10 "pass_over" f74/\Meth K C10 "slot_taken" f75/\Meth K C10 "name_taken" f76/\Meth K C10 "number_taken" f77/\Meth K C10 "list_taken" f80/\Meth K C10 "side_taken" f81/\Meth K C10 "part_taken" f82/\Meth K C10 "if_taken" f83/\Meth K C10 "either_taken" f84/\Meth K C10 "try_taken" f85/\Meth K C10 "plain_taken" f79/\Meth K C10 "reckon_taken" f78/\True)
  (cf13:yuJ K C13 "__init__" f18)
  (hG:Ns1 K "reckon" f9/\Ns1 K "is_whole" f10/\Ns1 K "is_number" f11/\Ns1 K "is_made_of" f12/\Ns1 K "number_of" f13/\Ns1 K "is_word" f14/\Ns1 K "is_slot" f15/\Ns1 K "slot_index" f16/\Ns1 K "is_name" f17/\Ns1 K "takes" f27/\Ns1 K "list_long" f59/\Ns1 K "plain_rows" f63/\Ns1 K "first_row" f64/\Ns1 K "rows_between" f65/\Ns1 K "list_rows" f66/\Ns1 K "part_rows" f67/\Ns1 K "sided_rows" f68/\Ns1 K "rows_of" f69/\Ns1 K "words_of" f71/\Ns1 K "read" f86/\Ns1 K "check_boxes" f87/\Ns1 K "rows_of_deeds" f88/\Ns1 K "rows_of_hands" f89/\Ns1 K "_law_cell_at" f99/\Ns1 K "_law_whole" f100/\Ns1 K "_law_piece" f101/\Ns1 K "_law_deed" f102/\Ns1 K "_law_boxes" f103/\Ns1 K "_law_hands" f104/\Ns1 K "_law_turns" f105/\Ns1 K "_law_laid_since" f106/\Ns1 K "_law_ended" f107/\Ns1 K "_law_others_stay" f108/\Ns1 K "_law_went" f109/\Ns1 K "law" f110/\True)
  (hF:All2 (FB K) fT [(f0,d0),(f1,d1),(f2,d2),(f3,d3),(f4,d4),(f5,d5),(f6,d6),(f7,d7),(f8,d8),(f9,d9),(f10,d10),(f11,d11),(f12,d12),(f13,d13),(f14,d14),(f15,d15),(f16,d16),(f17,d17),(f18,d18),(f19,d19),(f20,d20),(f21,d21),(f22,d22),(f23,d23),(f24,d24),(f25,d25),(f26,d26),(f27,d27),(f28,d28),(f29,d29),(f30,d30),(f31,d31),(f32,d32),(f33,d33),(f34,d34),(f35,d35),(f36,d36),(f37,d37),(f38,d38),(f39,d39),(f40,d40),(f41,d41),(f42,d42),(f43,d43),(f44,d44),(f45,d45),(f46,d46),(f47,d47),(f48,d48),(f49,d49),(f50,d50),(f51,d51),(f52,d52),(f53,d53),(f54,d54),(f55,d55),(f56,d56),(f57,d57),(f58,d58),(f59,d59),(f60,d60),(f61,d61),(f62,d62),(f63,d63),(f64,d64),(f65,d65),(f66,d66),(f67,d67),(f68,d68),(f69,d69),(f70,d70),(f71,d71),(f72,d72),(f73,d73),(f74,d74),(f75,d75),(f76,d76),(f77,d77),(f78,d78),(f79,d79),(f80,d80),(f81,d81),(f82,d82),(f83,d83),(f84,d84),(f85,d85),(f86,d86),(f87,d87),(f88,d88),(f89,d89),(f90,d90),(f91,d91),(f92,d92),(f93,d93),(f94,d94),(f95,d95),(f96,d96),(f97,d97),(f98,d98),(f99,d99),(f100,d100),(f101,d101),(f102,d102),(f103,d103),(f104,d104),(f105,d105),(f106,d106),(f107,d107),(f108,d108),(f109,d109),(f110,d110)])
  (hN:(NoAttr K C11 "stack"/\True)/\(NoAttr K C11 "last_seen"/\True)/\(NoAttr K C12 "held"/\True)/\(NoAttr K C12 "width"/\NoAttr K C14 "width"/\True)/\(NoAttr K C12 "log"/\True)/\(NoAttr K C12 "rows"/\True)/\(NoAttr K C10 "at"/\NoAttr K C12 "at"/\True)/\(NoAttr K C12 "seen_stamps"/\True)/\(NoAttr K C12 "sides"/\True)/\(NoAttr K C14 "deeds"/\True)/\(NoAttr K C14 "nth"/\True)/\(NoAttr K C14 "sleeps"/\True)/\(NoAttr K C14 "before"/\True)/\(NoAttr K C14 "run"/\True)/\(NoAttr K C15 "numbers"/\True)/\(NoAttr K C15 "marks"/\True)/\(NoAttr K C15 "crew"/\True)/\(NoAttr K C15 "entries"/\True)/\(NoAttr K C10 "words"/\True)/\(NoAttr K C1 "slot"/\NoAttr K C2 "slot"/\NoAttr K C3 "slot"/\NoAttr K C4 "slot"/\NoAttr K C5 "slot"/\NoAttr K C7 "slot"/\NoAttr K C8 "slot"/\True)/\(NoAttr K C1 "number"/\True)/\(NoAttr K C3 "place"/\NoAttr K C4 "place"/\True)/\(NoAttr K C5 "parts"/\NoAttr K C6 "parts"/\NoAttr K C7 "parts"/\True)/\(NoAttr K C5 "others"/\NoAttr K C6 "others"/\NoAttr K C7 "others"/\True)/\(NoAttr K C7 "name"/\NoAttr K C8 "name"/\True)/\(NoAttr K C2 "word"/\True)/\(NoAttr K C2 "one"/\True)/\(NoAttr K C2 "other"/\True)/\True)
  (ty:AllP (TyR K) [C1,C2,C3,C4,C5,C6,C7,C8,C9])
  (sb:NSx K [] [C1,C2,C3,C4,C5,C6,C7,C8,C9])
  (hn:PySem.W.specialIn K (.builtin "object.__class__") "__get__" = some (some (.builtin "getset_descriptor.__get__")))
  (htk:PySem.W.takesIn K (.builtin "object.__class__")=some true)
  (hZ:AllP (fun b=>nsIn K mainGlobals b=some none) zT)
  (q1:nsIn K mainGlobals "FIGURES" = some (some (.str "0123456789" u1)))
  (q2:nsIn K mainGlobals "LETTERS" = some (some (.str "abcdefghijklmnopqrstuvwxyz" u2)))
  (q3:nsIn K mainGlobals "MOST_AROUND" = some (some (.int 8 u3)))
  (q4:nsIn K mainGlobals "MOST_BOXES" = some (some (.int 16 u4)))
  (q5:nsIn K mainGlobals "MOST_DEEDS" = some (some (.int 6 u5)))
  (q6:nsIn K mainGlobals "MOST_HANDS" = some (some (.int 8 u6)))
  (q7:nsIn K mainGlobals "MOST_ROWS" = some (some (.int 80 u7)))
  (q8:nsIn K mainGlobals "SLOTS" = some (some (.str "abcdefgh" u8)))
  (q9:nsIn K mainGlobals "WIDE" = some (some (.int 18446744073709551616 u9)))
  (q10:nsIn K mainGlobals "WORDS" = some (some (.ref u10)))
  (qk10:K.lookup u10=some ⟨.type "tuple",qd10,.seq #[.str "plus" qt10_0,.str "minus" qt10_1,.str "times" qt10_2,.str "less" qt10_3,.str "same" qt10_4] qn10,qs10⟩) :
  ∃ fd:FuncData,(∀ (s:Shared) (v:Value),BindsTo s fd ⟨[v],[]⟩ [("_law_script",v)])/\∀ base:Heap,K.In base->base.Ns mainGlobals mg->FnOk l.prog w K mg base CX0 98 fa fd ["_law_script"] (yvB K):=by
 let t:Ads:=⟨fun k=>[C0,C1,C2,C3,C4,C5,C6,C7,C8,C9,C10,C11,C12,C13,C14,C15].getD k C0,fun n=>[(f0,d0),(f1,d1),(f2,d2),(f3,d3),(f4,d4),(f5,d5),(f6,d6),(f7,d7),(f8,d8),(f9,d9),(f10,d10),(f11,d11),(f12,d12),(f13,d13),(f14,d14),(f15,d15),(f16,d16),(f17,d17),(f18,d18),(f19,d19),(f20,d20),(f21,d21),(f22,d22),(f23,d23),(f24,d24),(f25,d25),(f26,d26),(f27,d27),(f28,d28),(f29,d29),(f30,d30),(f31,d31),(f32,d32),(f33,d33),(f34,d34),(f35,d35),(f36,d36),(f37,d37),(f38,d38),(f39,d39),(f40,d40),(f41,d41),(f42,d42),(f43,d43),(f44,d44),(f45,d45),(f46,d46),(f47,d47),(f48,d48),(f49,d49),(f50,d50),(f51,d51),(f52,d52),(f53,d53),(f54,d54),(f55,d55),(f56,d56),(f57,d57),(f58,d58),(f59,d59),(f60,d60),(f61,d61),(f62,d62),(f63,d63),(f64,d64),(f65,d65),(f66,d66),(f67,d67),(f68,d68),(f69,d69),(f70,d70),(f71,d71),(f72,d72),(f73,d73),(f74,d74),(f75,d75),(f76,d76),(f77,d77),(f78,d78),(f79,d79),(f80,d80),(f81,d81),(f82,d82),(f83,d83),(f84,d84),(f85,d85),(f86,d86),(f87,d87),(f88,d88),(f89,d89),(f90,d90),(f91,d91),(f92,d92),(f93,d93),(f94,d94),(f95,d95),(f96,d96),(f97,d97),(f98,d98),(f99,d99),(f100,d100),(f101,d101),(f102,d102),(f103,d103),(f104,d104),(f105,d105),(f106,d106),(f107,d107),(f108,d108),(f109,d109),(f110,d110)].getD n (f0,d0),u1,u2,u3,u4,u5,u6,u7,u8,u9,u10⟩
 have CL:∀ k,Cls K (t.A k):=fun k=>AllP.get cl.1 cl k
 have FF:∀ n,FB K (fR n) (t.fl n):=fun n=>All2.get hF.1 hF n
 have hC:AllP (fun p:Str×Addr=>Ns1 K p.1 p.2) (cT.zip [C0,C1,C2,C3,C4,C5,C6,C7,C8,C9,C10,C11,C12,C13,C14,C15]):=hC
 have hG:AllP (fun r:Str×Nat=>Ns1 K r.1 (t.a r.2)) gT:=hG
 have hK:AllP (fun r:Nat×Nat=>Mk K (t.A r.1) (t.a r.2)) kT:=hK
 have hM:AllP (fun r:Nat×Str×Nat=>Meth K (t.A r.1) r.2.1 (t.a r.2.2)) mT:=hM
 have hN:AllP (fun r:Str×List Nat=>AllP (fun k=>NoAttr K (t.A k) r.1) r.2) nT:=hN
 have T:Txt K mg t:=⟨fun n=>(FF n).F,fun n=>(FF n).b,fun n=>mg_of X G (AllP.get (p:=fun r:Str×Nat=>Ns1 K r.1 (t.a r.2)) hG.1 hG n),fun n=>mg_of X G (zip_get hC rfl n),fun n=>AllP.get (p:=fun r:Nat×Nat=>Mk K (t.A r.1) (t.a r.2)) hK.1 hK n,fun n=>AllP.get (p:=fun r:Nat×Str×Nat=>Meth K (t.A r.1) r.2.1 (t.a r.2.2)) hM.1 hM n,mk0,io0,kp0,mk9,io9,kp9,cf13,CL,fun n k hk=>⟨CL k,(AllP.get (p:=fun r:Str×List Nat=>AllP (fun k=>NoAttr K (t.A k) r.1) r.2) hN.1 hN n).mem k hk⟩,yzs CL hn htk [1,2,3,4,5,6,7,8,9] ty sb,fun n=>PySem.W.mg_none_of X G (AllP.get (p:=fun b=>nsIn K mainGlobals b=some none) hZ.1 hZ n),mg_of X G q1,mg_of X G q2,mg_of X G q3,mg_of X G q4,mg_of X G q5,mg_of X G q6,mg_of X G q7,mg_of X G q8,mg_of X G q9,mg_of X G q10,⟨_,_,_,qk10,rfl,rfl,(by show 5<=sizeLine;decide),.cons ⟨_,rfl⟩ (.cons ⟨_,rfl⟩ (.cons ⟨_,rfl⟩ (.cons ⟨_,rfl⟩ (.cons ⟨_,rfl⟩ (.nil)))))⟩⟩
 have e:=hfa.symm.trans (T.G 34)
 have e:fa=f110:=by injection e with e;injection e
 subst e
 refine ⟨d110,?_,fun base _ _=>(yCA T).imp (yCB T)⟩
 obtain ⟨_,_,_,_,_,_,_,_,_,e,_⟩:=(FF 110).F.ex
 have e:d110=_:=e
 subst e
 exact fun s v=>.of_eq rfl
theorem walk {l:PySem.W.OpenLaw}{q:Program}{loose:List Str}{XP:(Str->Option Value)->Heap->Prop}{YP:World->Heap->Prop}{d:DefRec}{K:Params->PySem.W.Frag}(hn:l.most=some 63) (hdf:d.params.defaults=[])
  (hY:∀ (w:World) (h:Heap),YP w h->(K w.params).In h)
  (F:∀ (w:World) (mg:Str->Option Value) (fa:Addr) (h:Heap),(K w.params).In h->h.Ns mainGlobals mg->mg d.name=some (.ref fa) ->
   ∃ fd:FuncData,(∀ (s:Shared) (u:Value),BindsTo s fd ⟨[u],[]⟩ [("_law_script",u)])/\∀ base:Heap,(K w.params).In base->base.Ns mainGlobals mg->FnOk l.prog w (K w.params) mg base CX0 98 fa fd ["_law_script"] (yvB (K w.params))) :
  PySem.W.WalkO q loose XP YP l.row.toRowW d [] (fun f vs=>PySem.call f vs) :=
 L2.walk_of (n:=63) (k:=98) (x:="_law_script") (CX:=fun _=>CX0) (sp:=fun w=>yvB (K w.params)) hn (by decide) hdf ⟨rfl,by decide,by decide⟩ hY F (fun _ _ a ns hl _ hS=>⟨a,ns,rfl,hS,hl,fun _=>rfl⟩) fun _ _ _ _ _ z=>z
end My
local macro_rules | `(tactic| walk_at "ka")=>`(tactic| first|exact True.intro|k_is|decide|((first|refine And.intro ?_ ?_|refine' L2.Cls.mk ?_ ?_ ?_ ?_|refine' My.TyR.mk ?_ ?_ ?_|refine' My.NS2.mk ?_ ?_)<;>walk_at "ka"))
local macro_rules | `(tactic| walk_at "kr")=>`(tactic| first|exact True.intro|(refine And.intro ?_ ?_<;>walk_at "kr")|walk_at "kx")
local macro_rules | `(tactic| walk_at "kx")=>`(tactic| first|(refine' L2.Meth.mk ?a ?b ?c;(case a=>k_is);(case b=>k_is);(case c=>k_is))|(refine' L2.Mk.mk ?a ?b ?c ?d;(case a=>k_is);(case b=>k_is);(case c=>k_is);(case d=>k_is))|(unfold L2.NoAttr;k_is)|(unfold My.Ns1;k_is)|k_is|(dsimp only;k_is))
local macro_rules | `(tactic| walk_at "kf")=>`(tactic| first|exact True.intro|(refine' And.intro (My.FB.of (L2.fun_mk ?a ?b ?c) ?d) ?e;(case a=>k_is);(case b=>k_is);(case c=>k_is);(case d=>first|exact L2.Binds.all (My.ml1 fun _=>rfl)|exact L2.Binds.all (My.ml2 fun _ _=>rfl)|exact L2.Binds.all (My.ml3 fun _ _ _=>rfl)|exact L2.Binds.all (My.ml4 fun _ _ _ _=>rfl)|exact L2.Binds.all (My.ml5 fun _ _ _ _ _=>rfl)|exact L2.Binds.all (My.ml7 fun _ _ _ _ _ _ _=>rfl));(case e=>walk_at "kf")))
local macro_rules | `(tactic| walk_at "k4")=>`(tactic| (refine' ⟨?a,?b,?c,?d⟩;(case a=>k_is);(case b=>k_is);(case c=>k_is);(case d=>k_is)))
open PySem PySem.W PyProof.Rows
set_option maxRecDepth 100000 in
set_option maxHeartbeats 0 in
theorem PySem.Challenge.cw_retryhall_k66_whole_begun_anew_holds : PySem.Challenge.rw_retryhall_k66_whole_begun_anew.Holds := by
 refine hD_ ?_
 k_fill
 refine My.walk (l:=PySem.Challenge.rw_retryhall_k66_whole_begun_anew) rfl rfl (fun w h Y=>Y) ?F
 case F =>
  intro w mg fa h KX G hmg
  refine' My.all_mk KX G hmg ?hC ?cl ?hK ?mk0 ?io0 ?kp0 ?mk9 ?io9 ?kp9 ?hM ?cf13 ?hG ?hF ?hN ?ty ?sb ?hn ?htk ?hZ ?q1 ?q2 ?q3 ?q4 ?q5 ?q6 ?q7 ?q8 ?q9 ?q10 ?qk10
  (case hC=>walk_at "kr")
  (case cl=>walk_at "ka")
  (case hK=>walk_at "kr")
  (case mk0=>k_is)
  (case io0=>k_is)
  (case kp0=>k_is)
  (case mk9=>k_is)
  (case io9=>k_is)
  (case kp9=>k_is)
  (case hM=>walk_at "kr")
  (case cf13=>walk_at "k4")
  (case hG=>walk_at "kr")
  (case hF=>walk_at "kf")
  (case hN=>walk_at "kr")
  (case ty=>walk_at "ka")
  (case sb=>walk_at "ka")
  (case hn=>k_is)
  (case htk=>k_is)
  (case hZ=>walk_at "kr")
  (case q1=>k_is)
  (case q2=>k_is)
  (case q3=>k_is)
  (case q4=>k_is)
  (case q5=>k_is)
  (case q6=>k_is)
  (case q7=>k_is)
  (case q8=>k_is)
  (case q9=>k_is)
  (case q10=>k_is)
  (case qk10=>k_is)
