import PyProof.Rows.All
import Wide.All
import OpenK.KLine
import KE.KIntText
import KE.KIsAll
import KE.KItemsList
import KE.KRevIter
import KE.KSortTup
import KE.LcSums
import KE.KPairComp
import Wide.FinOn
import Lean
import PyProof.EqAt
import PyProof.EqKinds
import PyProof.TupleCall
import PySem.Challenge.RW_retryhall_k25_laid_down_and_stamps
set_option Elab.async false
set_option linter.all false
set_option maxRecDepth 100000
set_option maxHeartbeats 4000000
namespace My
open PySem PySem.W
def lvO:Obj->Option Obj
 |⟨_,_,.freed,_⟩=>none
 |o=>some o
abbrev PkO:=List (Nat×Option Obj)
noncomputable def pkO (l:List Obj):Nat->List Nat->PkO:=l.rec (motive:=fun _=>Nat->List Nat->PkO) (fun _ _=>[]) fun o _ f i t=>match t with|[]=>[]|a::t=>bif Nat.beq a i then (a,lvO o)::f (i+1) t else f (i+1) (a::t)
theorem pk_m:∀ {l:List Obj}{i t},∀ p∈pkO l i t,i<=p.1/\p.2=(l[p.1-i]?).bind lvO
 |[],_,_,_,h=>nomatch h
 |_::_,_,[],_,h=>nomatch h
 |o::l,i,a::t,p,h=>by
  have h:p∈bif Nat.beq a i then (a,lvO o)::pkO l (i+1) t else pkO l (i+1) (a::t):=h
  have H:∀ t,p∈pkO l (i+1) t->i<=p.1/\p.2=((o::l)[p.1-i]?).bind lvO:=fun t h=>by
   have u:=pk_m p h
   rw [show p.1-i=p.1-(i+1)+1 by omega]
   exact ⟨by omega,u.2⟩
  cases e:Nat.beq a i<;>rw [e] at h
  .exact H _ h
  .rcases List.mem_cons.mp h with rfl|h
   .cases Nat.eq_of_beq_eq_true e;simp
   .exact H _ h
noncomputable def kHk (K:Params->Frag) (t:List Nat):Hook:=⟨PkO,fun s=>pkO s.heap.objs.toList 0 t,fun w=>(K w.params).map fun p=>(p.1,some p.2),InK K,fun w s x a o e=>by
 obtain ⟨_,_,e,_⟩:=List.lookup_eq_some_iff.mp e
 have m:some o=_:=(pk_m (a,some o) (x ▸ List.mem_map.mpr ⟨(a,o),by simp [e],rfl⟩)).2
 rw [m]
 simp
 unfold Heap.get?
 cases s.heap.objs[a]? with
 |none=>rfl
 |some o=>obtain ⟨_,_,d,_⟩:=o;cases d<;>rfl,InK.keeps⟩
end My
local macro_rules|`(tactic|o_head $H)=>do
 let r:=H.raw[1]
 if r[0].getId.eraseMacroScopes != `kHook then Lean.Macro.throwUnsupported
 `(tactic|o_head (My.kHk $(⟨r[1][0]⟩) $(⟨r[1][1]⟩)))
namespace PySem.W.Fast
local macro_rules|`(command|universe $xs*)=>do return Lean.mkNullNode (<-(xs.flatMap fun x=>#[`hD_++x.getId,`PySem.Challenge++x.getId]).append ((Array.range 1412).map fun i=>`hD_++.mkSimple ("o_"++toString i)) |>.mapM fun n=>`(command|theorem $(Lean.mkIdent (.mkSimple ("tw"++toString n.hash))) : True:=True.intro))
universe heap_39 heap_46 heap_1412 tree_47 tree_70 tree_85 tree_100 tree_115 tree_130 tree_216 tree_280 tree_359 tree_368 tree_458 tree_516 tree_551 tree_587 tree_623 tree_659 tree_695 tree_731 tree_767 tree_803 tree_839 tree_889 tree_933 tree_1054 tree_1139 tree_1159 tree_1276 tree_1359 tree_1411 view_39 sts_49 sts_71 sts_86 sts_101 sts_116 sts_131 sts_217 sts_281 sts_360 sts_369 sts_459 sts_517 sts_552 sts_588 sts_624 sts_660 sts_696 sts_732 sts_768 sts_804 sts_840 sts_890 sts_934 sts_1143 sts_1160 sts_1363 env_41 pw_retryhall_k25_laid_down_and_stamps rw_retryhall_k25_laid_down_and_stamps
end PySem.W.Fast
set_option maxHeartbeats 0 in
open_top hD_ for PySem.Challenge.rw_retryhall_k25_laid_down_and_stamps
open PySem.W (fnOf findIn keepIn subIn codeIn nsIn isFn mg_of plainGet hasDictIn makesIn instObj typeIn emptyDict mroIn kia_one)
local macro_rules | `(tactic| rfl')=>`(tactic| decide +kernel)
open List (mem_cons_self mem_cons_of_mem mem_append_left getElem?_set_self getElem?_set_ne mem_append_right length_cons map_cons length_map append_nil of_mem_zip replicate length length_take getElem?_append_right getElem?_replicate getElem?_append_left getElem?_map mem_of_getElem? length_append map_nil length_drop size_toArray length_set any_cons getElem_of_mem idxOf map_append take_length lookup_cons prefix_refl getElem?_eq_none length_zip find?_cons length_nil zip_cons_cons getD map_map toArray getElem_mem mem_cons not_mem_nil getD_eq_getElem?_getD map_set append_assoc)
open Nat (lt_of_lt_of_le lt_irrefl ne_of_lt le_of_lt le_of_eq zero_le sub_self add_assoc)
open Option (map_some bind_some)
open Bool (and_eq_true)
open Int (zero_add)
open PySem.F (plainAttrs_dict plainAttrs_list slot_list_pop type_list_pop)
noncomputable section
namespace L2
open PySem PySem.Spec PyProof.Rows
abbrev Key:=Sum Int Str
def ylV:Key->Value->Bool
 | .inl k,v=>Value.isInt k v
 | .inr x,v=>Value.isStrOf x v
def yFT (w:World):Key->Int
 | .inl k=>hashInt k
 | .inr x=>hashStr w x
theorem yU:∀ {k:Key}{v:Value},ylV k v=true->(∃ i t,k=Sum.inl i/\v=Value.int i t)\/(∃ x t,k=Sum.inr x/\v=Value.str x t)
 | .inl i,v,h=>by
  obtain ⟨t,e⟩:=Value.isInt_shape (k:=i) (v:=v) h
  exact .inl ⟨i,t,rfl,e⟩
 | .inr x,v,h=>by
  obtain ⟨t,e⟩:=Value.isStrOf_shape (x:=x) (v:=v) h
  exact .inr ⟨x,t,rfl,e⟩
theorem ypE (i:Int) (t:Tok):ylV (.inl i) (.int i t)=true:=by simp [ylV,Value.isInt]
theorem ypF (x:Str) (t:Tok):ylV (.inr x) (.str x t)=true:=by simp [ylV,Value.isStrOf]
theorem yzs (a b:Int):decide ((Sum.inl a:Key)=Sum.inl b)=(a == b):=by
 by_cases e:a=b
 .subst e;simp
 .have h:¬ (Sum.inl a:Key)=Sum.inl b:=fun q=>e (Sum.inl.inj q)
  rw [decide_eq_false h]
  exact (beq_eq_false_iff_ne.mpr e).symm
theorem yzt (a b:Str):decide ((Sum.inr a:Key)=Sum.inr b)=decide (a=b):=by
 by_cases e:a=b
 .subst e;simp
 .have h:¬ (Sum.inr a:Key)=Sum.inr b:=fun q=>e (Sum.inr.inj q)
  rw [decide_eq_false h,decide_eq_false e]
theorem yzu (a:Int) (b:Str):decide ((Sum.inl a:Key)=Sum.inr b)=false:=decide_eq_false (fun q=>nomatch q)
theorem yzv (a:Str) (b:Int):decide ((Sum.inr a:Key)=Sum.inl b)=false:=decide_eq_false (fun q=>nomatch q)
noncomputable def ycp (prog:Program) (w:World):PySem.KeyKind prog w Key where
 is:=ylV
 hash:=yFT w
 inj:=fun v a b ha hb=>by
  rcases yU ha with ⟨i,t,rfl,rfl⟩|⟨x,t,rfl,rfl⟩
  .rcases yU hb with ⟨j,u,rfl,e⟩|⟨y,u,rfl,e⟩
   .injection e with e1 _;rw [e1]
   .exact nomatch e
  .rcases yU hb with ⟨j,u,rfl,e⟩|⟨y,u,rfl,e⟩
   .exact nomatch e
   .injection e with e1 _;rw [e1]
 byValue:=fun k v h=>by
  rcases yU h with ⟨i,t,rfl,rfl⟩|⟨x,t,rfl,rfl⟩<;>rfl
 pyHash:=fun hv h=>by
  rcases yU hv with ⟨i,t,rfl,rfl⟩|⟨x,t,rfl,rfl⟩
  .exact wpAny_pyHash_int h
  .exact wpAny_pyHash_str h
 eqBool:=fun hu hv h=>by
  rcases yU hu with ⟨i,t,rfl,rfl⟩|⟨x,t,rfl,rfl⟩
  .rcases yU hv with ⟨j,u,rfl,rfl⟩|⟨y,u,rfl,rfl⟩
   .rw [yzs] at h;exact wpAny_eqBool_int h
   .rw [yzu] at h;exact SeqAt.EqAt.int_str i t y u _ _ _ _ h
  .rcases yU hv with ⟨j,u,rfl,rfl⟩|⟨y,u,rfl,rfl⟩
   .rw [yzv] at h;exact SeqAt.EqAt.str_int x t j u _ _ _ _ h
   .rw [yzt] at h;exact wpAny_eqBool_str h
 «strs»:=fun k x t v h=>by
  rcases yU h with ⟨i,u,rfl,e⟩|⟨y,u,rfl,e⟩
  .exact nomatch e
  .injection e with e1 _
   subst e1
   cases v<;>rfl
theorem ylW (prog:Program) (w:World) (i:Int) (t:Tok):(ycp prog w).is (.inl i) (.int i t)=true:=ypE i t
theorem ylX (prog:Program) (w:World) (x:Str) (t:Tok):(ycp prog w).is (.inr x) (.str x t)=true:=ypF x t
end L2
namespace L2
open PySem PySem.Spec PyProof.Rows
inductive V where
 | non|bl (b:Bool)|int (i:Int)|str (x:Str)|byt (b:Array UInt8)|flt (b:UInt64)|ref (a:Addr)|ty (n:String)
 deriving DecidableEq
noncomputable def RelV:V->Value->Prop
 | .non,u=>u=Value.none
 | .bl b,u=>u=Value.bool b
 | .int i,u=>∃ t,u=Value.int i t
 | .str x,u=>∃ t,u=Value.str x t
 | .byt b,u=>∃ t,u=Value.bytes b t
 | .flt b,u=>∃ t,u=Value.float b t
 | .ref a,u=>u=Value.ref a
 | .ty n,u=>u=Value.type n
abbrev Vals:List V->List Value->Prop:=Paired RelV
theorem Vals.length {xs:List V}{us:List Value}(r:Vals xs us):xs.length=us.length:=Paired.length r
theorem Vals.get:∀ {xs:List V}{us:List Value}{i:Nat}{x:V},Vals xs us->xs[i]?=some x->∃ u,us[i]?=some u/\RelV x u
 | _,_,_,_,.nil,e=>by simp at e
 | _,_,0,_,.cons r _,e=>by simp at e;subst e;exact ⟨_,rfl,r⟩
 | _,_,i+1,x,.cons _ t,e=>by
  obtain ⟨u,h1,h2⟩:=Vals.get (i:=i) (x:=x) t (by simpa using e)
  exact ⟨u,by simpa using h1,h2⟩
theorem Vals.set {x:V}{u:Value}(r:RelV x u):∀ {xs:List V}{us:List Value}(i:Nat),Vals xs us->Vals (xs.set i x) (us.set i u)
 | _,_,_,.nil=>.nil
 | _,_,0,.cons _ t=>.cons r t
 | _,_,i+1,.cons q t=>.cons q (Vals.set r i t)
theorem Vals.append:∀ {xs ys:List V}{us ws:List Value},Vals xs us->Vals ys ws->Vals (xs++ys) (us++ws)
 | _,_,_,_,.nil,s=>s
 | _,_,_,_,.cons r t,s=>.cons r (Vals.append t s)
theorem Vals.take:∀ {xs:List V}{us:List Value}(n:Nat),Vals xs us->Vals (xs.take n) (us.take n)
 | _,_,0,_=>.nil
 | _,_,_+1,.nil=>.nil
 | _,_,n+1,.cons r t=>.cons r (Vals.take n t)
theorem Vals.drop:∀ {xs:List V}{us:List Value}(n:Nat),Vals xs us->Vals (xs.drop n) (us.drop n)
 | _,_,0,r=>r
 | _,_,_+1,.nil=>.nil
 | _,_,n+1,.cons _ t=>Vals.drop n t
def RelO:Option V->Option Value->Prop
 | some v,some u=>RelV v u
 | none,none=>True
 | _,_=>False
def KV {κ:Type}:List (κ×V)->List (κ×Value)->Prop:=Paired fun (p:κ×V) (q:κ×Value)=>p.1=q.1/\RelV p.2 q.2
def kV:Key->V
 | .inl i=>.int i
 | .inr x=>.str x
inductive HO where
 | lst (xs:List V)
 | tup (xs:List V)
 | dK (kvs:List (Key×V))|dT (kvs:List (List Key×V))
 | set (S:Int->Bool) (n:Nat)
 | ins (C dx:Addr) (fs:List (Str×V))
 | own (x:Addr)
 | xd (fs:List (Str×V))
 | met (f x:Addr)
 | rng (lo hi:Int)
 | frz (o:Obj) (u:HO)
 | tbl (ps:Array Value)
 | ext (φ:Heap->Prop)
abbrev Hp:=Addr->Option HO
def upd (H:Hp) (a:Addr) (o:HO):Hp:=fun b=>if b=a then some o else H b
theorem yn {H:Hp}{a:Addr}{o:HO}:upd H a o a=some o:=by unfold upd;rw [if_pos rfl]
theorem yw {H:Hp}{a b:Addr}{o:HO}(h:b≠a):upd H a o b=H b:=by unfold upd;rw [if_neg h]
theorem yCG {H:Hp}{a b:Addr}{o u:HO}(h:H a=some o) (h':H b=some u) (d:o≠u):a≠b:=by
 intro e;subst e;rw [h] at h';exact d (Option.some.inj h')
theorem yZ {H:Hp}{a b:Addr}{o:HO}(h:H a=some o) (h':H b=none):a≠b:=by
 intro e;subst e;rw [h] at h';cases h'
section
variable (P:Program) (w:World)
def ObjOk (H:Hp) (h:Heap) (a:Addr):HO->Prop
 | .lst xs=>xs.length<=sizeLine/\∃ (its:List Value) (n:Nat),Vals xs its/\h.get? a=some { cls:=.type "list",data:=.seq its.toArray n }
 | .tup xs=>xs.length<=sizeLine/\∃ its:List Value,Vals xs its/\IsTup h a its.toArray
 | .dK kvs=>kvs.length<=sizeLine/\(a == sysModules)=false/\∃ vs,KV kvs vs/\h.DictOf (ycp P w) a vs
 | .dT kvs=>kvs.length<=sizeLine/\(a == sysModules)=false/\∃ xs:List (List Key×Addr×Value),
   Paired (fun (p:List Key×V) (q:List Key×Addr×Value)=>p.1=q.1/\H q.2.1=some (.tup (p.1.map kV))/\RelV p.2 q.2.2) kvs xs /\
   ∃ o es ep,h.get? a=some o/\o.ExactDict/\o.data=.dict es ep/\es.toList=xs.map (entryOfKey (tupleKind (ycp P w)))/\(xs.map (·.1)).Nodup
 | .set S n=>h.SetOf (intKind P w) a S n
 | .ins C dx fs=>H dx=some (.own a)/\fs.length<=1000/\dx≠a/\h.get? a=some (instObj C dx) /\
   ∃ mA,h.Ns1 dx mA/\(∀ f,RelO (fs.lookup f) (mA f))/\PySem.Within mA (fs.map (·.1))
 | .own _=>∃ o,h.get? a=some o
 | .xd fs=>∃ mA,h.Ns1 a mA/\∀ f,RelO (fs.lookup f) (mA f)
 | .rng lo hi=>∃ t u v,h.get? a=some { cls:=.type "range",data:=.fields #[.int lo t,.int hi u,.int 1 v] }
 | .frz o u=>h.get? a=some o/\ObjOk H h a u
 | .tbl ps=>h.get? a=some { cls:=.none,data:=.fields ps }
 | .met f x=>h.get? a=some (PySem.W.methodObj (.ref f) (.ref x))
 | .ext φ=>φ h/\(∃ o,h.get? a=some o)/\∀ h1 h2:Heap,φ h1->(∀ o,h1.get? a=some o->h2.get? a=some o)->φ h2
def HOk (H:Hp) (h:Heap):Prop:=∀ a o,H a=some o->ObjOk P w H h a o
end
section
variable {P:Program}{w:World}{H H':Hp}{h h':Heap}{a:Addr}{o:HO}
theorem ObjOk.lt (x:ObjOk P w H h a o):a<h.objs.size:=by
 cases o with
 | lst xs=>obtain ⟨_,_,_,_,e⟩:=x;exact Heap.lt_size e
 | tup xs=>obtain ⟨_,_,_,p⟩:=x;exact p.lt
 | dK kvs=>obtain ⟨_,_,_,_,o,_,_,e,_⟩:=x;exact Heap.lt_size e
 | dT kvs=>obtain ⟨_,_,_,_,o,_,_,e,_⟩:=x;exact Heap.lt_size e
 | set S n=>obtain ⟨o,_,_,_,e,_⟩:=x;exact Heap.lt_size e
 | ins C dx fs=>obtain ⟨_,_,_,e,_⟩:=x;exact Heap.lt_size e
 | own y=>obtain ⟨_,e⟩:=x;exact Heap.lt_size e
 | xd fs=>obtain ⟨_,⟨_,_,_,e,_⟩,_⟩:=x;exact Heap.lt_size e
 | rng lo hi=>obtain ⟨_,_,_,e⟩:=x;exact Heap.lt_size e
 | frz ob u=>obtain ⟨e,_⟩:=x;exact Heap.lt_size e
 | tbl ps=>exact Heap.lt_size (show h.get? a=some _ from x)
 | met f y=>exact Heap.lt_size (show h.get? a=some _ from x)
 | ext φ=>obtain ⟨_,⟨_,e⟩,_⟩:=x;exact Heap.lt_size e
theorem Paired.mapP {α β:Type}{F G:α->β->Prop}:∀ {l₁:List α}{l₂:List β},Paired F l₁ l₂->(∀ a b,F a b->G a b)->Paired G l₁ l₂
 | _,_,.nil,_=>.nil
 | _,_,.cons r t,f=>.cons (f _ _ r) (Paired.mapP t f)
theorem ObjOk.stay (x:ObjOk P w H h a o) (k:∀ b u,(b=a\/H b=some (.own a))->h.get? b=some u->h'.get? b=some u)
  (ho:∀ b,H b=some (.own a)->H' b=some (.own a)) (ht:∀ b xs,H b=some (.tup xs)->H' b=some (.tup xs)):ObjOk P w H' h' a o:=by
 induction o with
 | lst xs=>obtain ⟨z,its,n,r,e⟩:=x;exact ⟨z,its,n,r,k _ _ (.inl rfl) e⟩
 | tup xs=>obtain ⟨z,its,r,ob,e,c⟩:=x;exact ⟨z,its,r,ob,k _ _ (.inl rfl) e,c⟩
 | dK kvs=>obtain ⟨z,y,vs,r,ob,es,ep,e,c⟩:=x;exact ⟨z,y,vs,r,ob,es,ep,k _ _ (.inl rfl) e,c⟩
 | dT kvs =>
  obtain ⟨z,y,xs,r,ob,es,ep,e,c⟩:=x
  exact ⟨z,y,xs,Paired.mapP r fun p q z=>⟨z.1,ht _ _ z.2.1,z.2.2⟩,ob,es,ep,k _ _ (.inl rfl) e,c⟩
 | set S n=>obtain ⟨ob,es,ep,t,e,c⟩:=x;exact ⟨ob,es,ep,t,k _ _ (.inl rfl) e,c⟩
 | ins C dx fs =>
  obtain ⟨d,z,ne,e,mA,⟨od,es,ep,e2,c⟩,r⟩:=x
  exact ⟨ho _ d,z,ne,k _ _ (.inl rfl) e,mA,⟨od,es,ep,k _ _ (.inr d) e2,c⟩,r⟩
 | own y=>obtain ⟨ob,e⟩:=x;exact ⟨ob,k _ _ (.inl rfl) e⟩
 | xd fs=>obtain ⟨mA,⟨od,es,ep,e,c⟩,r⟩:=x;exact ⟨mA,⟨od,es,ep,k _ _ (.inl rfl) e,c⟩,r⟩
 | rng lo hi=>obtain ⟨t,u,v,e⟩:=x;exact ⟨t,u,v,k _ _ (.inl rfl) e⟩
 | frz ob u ih=>obtain ⟨e,q⟩:=x;exact ⟨k _ _ (.inl rfl) e,ih q⟩
 | tbl ps =>
  have e:h.get? a=some { cls:=.none,data:=.fields ps }:=x
  show h'.get? a=some { cls:=.none,data:=.fields ps }
  exact k a _ (.inl rfl) e
 | met f y =>
  have e:h.get? a=some (PySem.W.methodObj (.ref f) (.ref y)):=x
  show h'.get? a=some (PySem.W.methodObj (.ref f) (.ref y))
  exact k a _ (.inl rfl) e
 | ext φ=>obtain ⟨p,⟨o,e⟩,st⟩:=x;exact ⟨st _ _ p fun o q=>k _ _ (.inl rfl) q,⟨o,k _ _ (.inl rfl) e⟩,st⟩
theorem HOk.lt (x:HOk P w H h) (e:H a=some o):a<h.objs.size:=(x a o e).lt
theorem HOk.fresh (x:HOk P w H h) (e:h.objs.size<=a):H a=none:=by
 cases q:H a with
 | none=>rfl
 | some u=>exact absurd (lt_of_lt_of_le (x.lt q) e) (lt_irrefl _)
theorem HOk.kept (x:HOk P w H h) (k:∀ b u,h.get? b=some u->h'.get? b=some u):HOk P w H h':=fun a o e =>
 (x a o e).stay (fun b u _ q=>k b u q) (fun _ q=>q) fun _ _ q=>q
theorem HOk.laid (x:HOk P w H h) (k:∀ b u,h.get? b=some u->h'.get? b=some u) (hp:h.objs.size<=a) (new:ObjOk P w (upd H a o) h' a o):HOk P w (upd H a o) h':=fun b u e=>by
 have hn:=x.fresh hp
 by_cases hb:b=a
 .subst hb;rw [yn] at e;cases e;exact new
 .rw [yw hb] at e
  exact (x b u e).stay (fun c v _ q=>k c v q) (fun c q=>by rw [yw (yZ q hn)];exact q) fun c xs q=>by rw [yw (yZ q hn)];exact q
end
def Rd (H:Hp) (a:Addr) (u:HO):Prop:=H a=some u\/∃ o,H a=some (.frz o u)
theorem Rd.ok {P:Program}{w:World}{H:Hp}{h:Heap}{a:Addr}{u:HO}(r:Rd H a u) (x:HOk P w H h):ObjOk P w H h a u:=by
 rcases r with r|⟨o,r⟩
 .exact x a u r
 .obtain ⟨_,q⟩:=x a _ r
  exact q
noncomputable def Mut:Option HO->Prop
 | some (.lst _)=>True
 | some (.dK _)=>True
 | some (.dT _)=>True
 | some (.set _ _)=>True
 | some (.ins _ _ _)=>True
 | some (.ext _)=>True
 | _=>False
section
variable {P:Program}{w:World}{H:Hp}{h h':Heap}{x e:Addr}{o':HO}
theorem HOk.write (ok:HOk P w H h) (mu:Mut (H x)) (he:e=x\/H e=some (.own x)) (k:∀ b u,b≠e->h.get? b=some u->h'.get? b=some u) (heo:∃ u,h'.get? e=some u)
  (new:ObjOk P w (upd H x o') h' x o'):HOk P w (upd H x o') h':=fun b u q=>by
 have nown:∀ c y,H c=some (.own y)->c≠x:=fun c y r z=>by subst z;rw [r] at mu;exact mu
 have ntup:∀ c xs,H c=some (.tup xs)->c≠x:=fun c xs r z=>by subst z;rw [r] at mu;exact mu
 by_cases hb:b=x
 .subst hb;rw [yn] at q;cases q;exact new
 .rw [yw hb] at q
  by_cases hbe:b=e
  .have q':H b=some (.own x):=by
    rcases he with z|z
    .exact absurd (hbe.trans z) hb
    .rw [hbe];exact z
   rw [q] at q';cases q'
   obtain ⟨v,hv⟩:=heo
   exact ⟨v,by rw [hbe];exact hv⟩
  .refine (ok b u q).stay (fun c v hc r=>k c v ?_ r) (fun c r=>by rw [yw (nown c b r)];exact r) fun c xs r=>by rw [yw (ntup c xs r)];exact r
   rcases hc with rfl|hc
   .exact hbe
   .rintro rfl
    rcases he with z|z
    .exact nown c b hc z
    .rw [hc] at z;cases z;exact hb rfl
end
structure Un (fs ex:List Addr) (H H':Hp) (h h':Heap):Prop where
 keep:∀ b o,h.get? b=some o->H b=none->b∉fs->b∉ex->h'.get? b=some o
 slot:∀ b o,h.get? b=some o->H b=none->b∈fs->b∉ex->∃ sl,h'.get? b=some { o with slots:=sl }
 free:∀ b o,h.get? b=some o->H b=none->b∉ex->H' b=none
 there:∀ b o,h.get? b=some o->b∉ex->∃ o',h'.get? b=some o'
 tups:∀ b xs,H b=some (.tup xs)->H' b=some (.tup xs)
 frzs:∀ b o u,H b=some (.frz o u)->H' b=some (.frz o u)
 tbls:∀ b ps,H b=some (.tbl ps)->∃ more,H' b=some (.tbl (ps++more))
section
variable {fs fs' ex ex':List Addr}{H H1 H2:Hp}{h h1 h2 h':Heap}{a x e:Addr}{o:HO}
theorem Un.any (u:Un fs ex H H1 h h1) {b:Addr}{ob:Obj}(q:h.get? b=some ob) (n:H b=none) (hx:b∉ex):∃ sl,h1.get? b=some { ob with slots:=sl }:=by
 by_cases hb:b∈fs
 .exact u.slot b ob q n hb hx
 .exact ⟨ob.slots,u.keep b ob q n hb hx⟩
theorem Un.kept (k:∀ b u,h.get? b=some u->h'.get? b=some u):Un fs ex H H h h' :=
 ⟨fun b ob q _ _ _=>k b ob q,fun b ob q _ _ _=>⟨ob.slots,k b ob q⟩,fun _ _ _ n _=>n,fun b ob q _=>⟨ob,k b ob q⟩,fun _ _ q=>q,fun _ _ _ q=>q,fun _ ps q=>⟨#[],by rw [q];simp⟩⟩
theorem Un.refl:Un fs ex H H h h:=Un.kept fun _ _ q=>q
theorem Un.laid (k:∀ b u,h.get? b=some u->h'.get? b=some u) (hp:h.objs.size<=a) (hn:H a=none):Un fs ex H (upd H a o) h h' where
 keep:=fun b u q _ _ _=>k b u q
 slot:=fun b u q _ _ _=>⟨u.slots,k b u q⟩
 free:=fun b u q n _=>by rw [yw (ne_of_lt (lt_of_lt_of_le (Heap.lt_size q) hp))];exact n
 there:=fun b u q _=>⟨u,k b u q⟩
 tups:=fun b xs q=>by rw [yw (yZ q hn)];exact q
 frzs:=fun b u xs q=>by rw [yw (yZ q hn)];exact q
 tbls:=fun b ps q=>⟨#[],by rw [yw (yZ q hn),q];simp⟩
theorem Un.write (mu:Mut (H x)) (he:e=x\/H e=some (.own x)) (k:∀ b u,b≠e->h.get? b=some u->h'.get? b=some u) (heo:∃ u,h'.get? e=some u):Un fs ex H (upd H x o) h h':=by
 have hx:∀ b,H b=none->b≠x:=fun b n z=>by subst z;rw [n] at mu;exact mu
 have hb:∀ b,H b=none->b≠e:=fun b n z=>by
  subst z
  rcases he with r|r
  .exact hx b n r
  .rw [n] at r;cases r
 have hm:∀ b u,H b=some u->¬ Mut (some u)->b≠x:=fun b u q nm z=>by subst z;rw [q] at mu;exact nm mu
 refine ⟨fun b u q n _ _=>k b u (hb b n) q,fun b u q n _ _=>⟨u.slots,k b u (hb b n) q⟩,fun b u q n _=>by rw [yw (hx b n)];exact n,fun b u q _=>?_,
  fun b xs q=>by rw [yw (hm b _ q fun z=>z)];exact q,fun b u xs q=>by rw [yw (hm b _ q fun z=>z)];exact q,fun b ps q=>⟨#[],by rw [yw (hm b _ q fun z=>z),q];simp⟩⟩
 by_cases hbe:b=e
 .subst hbe;exact heo
 .exact ⟨u,k b u hbe q⟩
end
def trk (h:Heap) (H:Hp):List Addr:=(List.range h.objs.size).filter fun a=>(H a).isSome
def ysX (h:Heap) (H:Hp):Heap:=PySem.W.hideAll h (trk h H)
theorem ypG (h:Heap) (H:Hp):(ysX h H).objs.size=h.objs.size:=PySem.W.hideAll_size _ _
theorem ysY {h:Heap}{H:Hp}{b:Addr}{o:Obj}(e:h.get? b=some o) (n:H b=none):(ysX h H).get? b=some o :=
 PySem.W.hideAll_get _ e fun hm=>by
  have q:(H b).isSome=true:=(List.mem_filter.mp hm).2
  rw [n] at q;simp at q
theorem yww {h:Heap}{H:Hp}{b:Addr}{o:Obj}(e:(ysX h H).get? b=some o):h.get? b=some o/\H b=none:=by
 have e':h.get? b=some o:=PySem.W.of_hideAll (trk h H) e
 refine ⟨e',?_⟩
 cases q:H b with
 | none=>rfl
 | some x =>
  have hm:b∈trk h H:=List.mem_filter.mpr ⟨List.mem_range.mpr (Heap.lt_size e'),by simp [q]⟩
  have z:(ysX h H).get? b=none:=PySem.W.hideAll_none (trk h H) hm
  rw [z] at e;cases e
noncomputable def ywx (g h:Heap) (L:Addr):List (Addr×Obj):=(List.range h.objs.size).filterMap fun a=>if a=L\/(g.get? a).isSome=true then none else (h.get? a).map fun o=>(a,o)
def rest (g h:Heap) (L d:Addr):List (Addr×Obj):=(ywx g h L).filter fun p=>decide (p.1≠d)
end L2
namespace L2
open PySem PySem.Spec PyProof.Rows
structure Mod (K:PySem.W.Frag) (mg:Str->Option Value) (base:Heap):Prop where
 kin:K.In base
 glob:base.Ns mainGlobals mg
 blt:∃ mb,base.Ns builtinsNs mb/\∀ x:Str,x≠"__name__"->mb x=bootBuiltins x
 nolimit:base.NoLimit
structure Cx where
 prog:Program
 w:World
 K:PySem.W.Frag
 mg:Str->Option Value
 base:Heap
 A:Around
 N:List Str
 s₀:Shared
 H₀:Hp
 env:Env
 outer:List Env
 stack:List Env
 ex:List Addr
 fn:Str->Bool
 calm:Bool
 pn:List (Addr×Obj)
 xe:Value->Shared->Prop
def frs (l:List Env):List Addr:=l.filterMap (·.frame)
abbrev Cx.fs (X:Cx):List Addr:=frs X.outer
noncomputable def Vis (sc:Scope) (x:Str):Prop:=sc.names.lookup x=some .local \/ sc.names.lookup x=some .cell\/sc.names.lookup x=some .free
def Loc (sc:Scope) (x:Str):Prop:=sc.names.lookup x=some .local \/ sc.names.lookup x=some .cell
noncomputable def Look (env:Env) (h:Heap) (m:Str->Option Value) (x:Str) (u:Value):Prop :=
 (env.kindOf x=some .local/\m x=some u)\/((env.kindOf x=some .cell\/env.kindOf x=some .free)/\∃ c,env.cells.lookup x=some c/\h.IsCell c (some u))
structure Cx.Ok (X:Cx):Prop where
 mod:Mod X.K X.mg X.base
 kind:X.env.scope.kind=.function
 glob:X.env.globals=mainGlobals
 blt:X.env.builtins=builtinsNs
 above:X.s₀.heap.objs.size<=X.env.locals
 inj:∀ x y c,X.env.cells.lookup x=some c->X.env.cells.lookup y=some c->x=y
 has:∀ x,(X.env.kindOf x=some .cell\/X.env.kindOf x=some .free)->∃ c,X.env.cells.lookup x=some c
 cab:∀ x c,X.fn x=true->X.env.cells.lookup x=some c->X.s₀.heap.objs.size<=c
 hd:X.calm=true->X.A.handled=none
 frames:X.A.frames=some X.stack
 stk:X.stack=X.outer\/(X.stack=X.env::X.outer/\X.env.frame=some X.env.locals)
 exf:∀ b∈X.ex,b≠X.env.locals/\∀ x c,X.env.cells.lookup x=some c->c≠b
 bs:∀ b o,X.base.get? b=some o->X.s₀.heap.get? b=some o/\X.H₀ b=none
 bsz:X.base.objs.size<=X.s₀.heap.objs.size
 noex:∀ b o,X.base.get? b=some o->b∉X.ex
 exfs:∀ b∈X.ex,b∉X.fs
 funs:X.s₀.heap.FunFrames X.base X.outer
 frf:∀ b∈X.fs,X.H₀ b=none
structure Inv (X:Cx) (pins:List (Addr×Obj)) (σ:List (Option V)) (H:Hp) (s:Shared):Prop where
 ok:X.Ok
 os:s.os=X.s₀.os
 bare:AllBare s.gens
 base:Un X.fs X.ex X.H₀ H X.s₀.heap s.heap
 loc:∃ m,s.heap.Ns X.env.locals m/\∀ (i:Nat) (x:Str) (v:V),X.N[i]?=some x->σ[i]?=some (some v)->Vis X.env.scope x->∃ u,RelV v u/\Look X.env s.heap m x u
 cell:∀ x c,X.env.cells.lookup x=some c->∃ v,s.heap.IsCell c v
 free:H X.env.locals=none
 freeC:∀ x c,X.env.cells.lookup x=some c->H c=none
 pin:∀ p∈X.pn++pins,s.heap.get? p.1=some p.2/\H p.1=none/\p.1≠X.env.locals/\p.1∉X.fs/\∀ v,p.2.data≠.cell v
 hok:HOk X.prog X.w H s.heap
 len:σ.length=X.N.length
section
variable {X:Cx}{pins:List (Addr×Obj)}{σ:List (Option V)}{H H':Hp}{s:Shared}{h':Heap}
theorem Cx.Ok.nofr (ok:X.Ok) {b:Addr}{o:Obj}(e:X.base.get? b=some o):b∉X.fs:=fun hb=>by
 have:=(ok.funs.mem hb).1
 rw [e] at this;cases this
theorem Inv.bs (I:Inv X pins σ H s):∀ b o,X.base.get? b=some o->s.heap.get? b=some o/\H b=none:=fun b o e =>
 ⟨I.base.keep b o (I.ok.bs b o e).1 (I.ok.bs b o e).2 (I.ok.nofr e) (I.ok.noex b o e),I.base.free b o (I.ok.bs b o e).1 (I.ok.bs b o e).2 (I.ok.noex b o e)⟩
theorem Inv.bk (I:Inv X pins σ H s):∀ b o,X.base.get? b=some o->s.heap.get? b=some o:=fun b o e=>(I.bs b o e).1
theorem Inv.mod (I:Inv X pins σ H s):Mod X.K X.mg X.base:=I.ok.mod
theorem Inv.kIn (I:Inv X pins σ H s):X.K.In s.heap:=I.ok.mod.kin.keeps I.bk
theorem Inv.lt (I:Inv X pins σ H s):X.env.locals<s.heap.objs.size:=let ⟨_,hn,_⟩:=I.loc;hn.lt
theorem Inv.sz (I:Inv X pins σ H s):X.s₀.heap.objs.size<=s.heap.objs.size:=Nat.le_trans I.ok.above (le_of_lt I.lt)
theorem Inv.nofs (I:Inv X pins σ H s) {a:Addr}(h:s.heap.objs.size<=a):a∉X.fs:=fun hb=>by
 obtain ⟨_,o,ho,_⟩:=I.ok.funs.mem hb
 exact absurd (lt_of_lt_of_le (Heap.lt_size ho) (Nat.le_trans I.sz h)) (lt_irrefl _)
theorem Inv.cne (I:Inv X pins σ H s):∀ x c,X.env.cells.lookup x=some c->c≠X.env.locals:=fun x c e z=>by
 obtain ⟨v,o,ho,hd⟩:=I.cell x c e
 obtain ⟨m,⟨o',es,ep,ho',hd',_⟩,_⟩:=I.loc
 rw [z,ho'] at ho;cases ho;rw [hd'] at hd;cases hd
theorem Inv.funs (I:Inv X pins σ H s):s.heap.FunFrames X.base X.outer:=by
 have all:∀ (l:List Env),(∀ b∈frs l,b∈X.fs)->X.s₀.heap.FunFrames X.base l->s.heap.FunFrames X.base l:=by
  intro l
  induction l with
  | nil=>intro _ _;trivial
  | cons env r ih =>
   intro hs hl
   obtain ⟨hk,⟨L,o,hf,hn,ho,hd⟩,hr⟩:=hl
   have hL:L∈X.fs:=hs L (by unfold frs;rw [List.filterMap_cons,hf];exact mem_cons_self)
   obtain ⟨sl,e⟩:=I.base.slot L o ho (I.ok.frf L hL) hL fun z=>I.ok.exfs L z hL
   exact ⟨hk,⟨L,_,hf,hn,e,hd⟩,ih (fun b hb=>hs b (by unfold frs;rw [List.filterMap_cons,hf];exact mem_cons_of_mem _ hb)) hr⟩
 exact all X.outer (fun _ hb=>hb) I.ok.funs
theorem Inv.stack (I:Inv X pins σ H s):s.heap.FunFrames X.base X.stack:=by
 rcases I.ok.stk with e|⟨e,hf⟩
 .rw [e];exact I.funs
 .rw [e]
  obtain ⟨m,hn,_⟩:=I.loc
  refine .cons (by rw [I.ok.kind];decide) hf hn ?_ I.funs
  exact Heap.get?_none_of_le (Nat.le_trans I.ok.bsz I.ok.above)
theorem Inv.stkSub (I:Inv X pins σ H s):∀ b∈frs X.stack,b∈X.env.locals::X.fs:=fun b hb=>by
 rcases I.ok.stk with e|⟨e,hf⟩
 .rw [e] at hb;exact mem_cons_of_mem _ hb
 .rw [e] at hb
  unfold frs at hb
  rw [List.filterMap_cons,hf] at hb
  exact hb
theorem Inv.stkFree (I:Inv X pins σ H s):∀ b∈frs X.stack,H b=none:=fun b hb=>by
 rcases mem_cons.mp (I.stkSub b hb) with e|hb
 .rw [e];exact I.free
 .obtain ⟨_,o,ho,_⟩:=I.ok.funs.mem hb
  exact I.base.free b o ho (I.ok.frf b hb) fun z=>I.ok.exfs b z hb
theorem Inv.step {g':Array GenState}{t':Nat}{d':Drawn}{ch:List Addr}(I:Inv X pins σ H s)
  (hch:∀ b∈ch,(b∈X.ex\/X.s₀.heap.objs.size<=b)/\b≠X.env.locals/\(∀ x c,X.env.cells.lookup x=some c->c≠b)/\∀ p∈X.pn++pins,p.1≠b)
  (keep:∀ b o,b≠X.env.locals->b∉X.fs->b∉ch->s.heap.get? b=some o->H b=none->h'.get? b=some o)
  (slot:∀ b o,b≠X.env.locals->b∈X.fs->b∉ch->s.heap.get? b=some o->H b=none->∃ sl,h'.get? b=some { o with slots:=sl }) (free:∀ b o,b∉ch->s.heap.get? b=some o->H b=none->H' b=none)
  (there:∀ b o,b∉ch->s.heap.get? b=some o->∃ o',h'.get? b=some o')
  (tups:∀ b xs,H b=some (.tup xs)->H' b=some (.tup xs)) (frzs:∀ b o u,H b=some (.frz o u)->H' b=some (.frz o u)) (tbls:∀ b ps,H b=some (.tbl ps)->∃ more,H' b=some (.tbl (ps++more)))
  (ns:∀ m,s.heap.Ns X.env.locals m->h'.Ns X.env.locals m) (hok:HOk X.prog X.w H' h') (hg:AllBare g') :
  Inv X pins σ H' { s with heap:=h',gens:=g',drawn:=d',toks:=t' }:=by
 have neL:∀ b o,X.s₀.heap.get? b=some o->b≠X.env.locals:=fun b o e=>ne_of_lt (lt_of_lt_of_le (Heap.lt_size e) I.ok.above)
 have neC:∀ b o,X.s₀.heap.get? b=some o->b∉X.ex->b∉ch:=fun b o e hx hb=>by
  rcases (hch b hb).1 with z|z
  .exact hx z
  .exact absurd (lt_of_lt_of_le (Heap.lt_size e) z) (lt_irrefl _)
 have cellK:∀ x c,X.env.cells.lookup x=some c->∀ v,s.heap.IsCell c v->h'.IsCell c v:=fun x c e v ⟨o,ho,hd⟩=>by
  have nch:c∉ch:=fun z=>(hch c z).2.2.1 x c e rfl
  by_cases hc:c∈X.fs
  .obtain ⟨sl,q⟩:=slot c o (I.cne x c e) hc nch ho (I.freeC x c e)
   exact ⟨_,q,hd⟩
  .exact ⟨o,keep c o (I.cne x c e) hc nch ho (I.freeC x c e),hd⟩
 refine ⟨I.ok,I.os,hg,⟨fun b o e n hb hx=>?_,fun b o e n hb hx=>?_,fun b o e n hx=>?_,fun b o e hx=>?_,fun b xs e=>tups b xs (I.base.tups b xs e),fun b o xs e=>frzs b o xs (I.base.frzs b o xs e),fun b ps e=>?_⟩,?_,fun x c e=>?_,?_,fun x c e=>?_,fun p hp=>?_,hok,I.len⟩
 .exact keep b o (neL b o e) hb (neC b o e hx) (I.base.keep b o e n hb hx) (I.base.free b o e n hx)
 .obtain ⟨sl,e1⟩:=I.base.slot b o e n hb hx
  obtain ⟨sl',e2⟩:=slot b _ (neL b o e) hb (neC b o e hx) e1 (I.base.free b o e n hx)
  exact ⟨sl',e2⟩
 .obtain ⟨o',e1⟩:=I.base.there b o e hx
  exact free b o' (neC b o e hx) e1 (I.base.free b o e n hx)
 .obtain ⟨o',e1⟩:=I.base.there b o e hx
  exact there b o' (neC b o e hx) e1
 .obtain ⟨m1,e1⟩:=I.base.tbls b ps e
  obtain ⟨m2,e2⟩:=tbls b _ e1
  exact ⟨m1++m2,by rw [e2,Array.append_assoc]⟩
 .obtain ⟨m,hn,hl⟩:=I.loc
  refine ⟨m,ns m hn,fun i x v e1 e2 e3=>?_⟩
  obtain ⟨u,r,l⟩:=hl i x v e1 e2 e3
  refine ⟨u,r,?_⟩
  rcases l with l|⟨k,c,e,z⟩
  .exact .inl l
  .exact .inr ⟨k,c,e,cellK x c e _ z⟩
 .obtain ⟨v,z⟩:=I.cell x c e
  exact ⟨v,cellK x c e v z⟩
 .obtain ⟨m,⟨o,_,_,ho,_⟩,_⟩:=I.loc
  exact free _ o (fun z=>(hch _ z).2.1 rfl) ho I.free
 .obtain ⟨v,o,ho,hd⟩:=I.cell x c e
  exact free c o (fun z=>(hch c z).2.2.1 x c e rfl) ho (I.freeC x c e)
 .obtain ⟨e,n,ne,nf,d⟩:=I.pin p hp
  have nch:p.1∉ch:=fun z=>(hch p.1 z).2.2.2 p hp rfl
  exact ⟨keep p.1 p.2 ne nf nch e n,free p.1 p.2 nch e n,ne,nf,d⟩
theorem Inv.un {t':Nat}(I:Inv X pins σ H s) (u:Un X.fs [] H H' s.heap h') (hok:HOk X.prog X.w H' h'):Inv X pins σ H' { s with heap:=h',toks:=t' }:=by
 obtain ⟨m,⟨o,es,ep,ho,r⟩,_⟩:=id I.loc
 obtain ⟨sl,hL⟩:=u.any ho I.free (by simp)
 exact I.step (g':=s.gens) (d':=s.drawn) (ch:=[]) (fun _ z=>nomatch z) (fun b o _ hb _ e n=>u.keep b o e n hb (by simp)) (fun b o _ hb _ e n=>u.slot b o e n hb (by simp)) (fun b o _ e n=>u.free b o e n (by simp)) (fun b o _ e=>u.there b o e (by simp)) u.tups u.frzs u.tbls (fun m' hm=>by
  obtain ⟨o',es',ep',ho',r'⟩:=hm
  rw [ho] at ho';cases ho'
  exact ⟨_,es',ep',hL,r'⟩) hok I.bare
theorem Inv.call {g':Array GenState}{t':Nat}{d':Drawn}{ch:List Addr}(I:Inv X pins σ H s) (u:Un (frs X.stack) ch H H' s.heap h') (hok:HOk X.prog X.w H' h') (hg:AllBare g')
  (hch:∀ b∈ch,(b∈X.ex\/X.s₀.heap.objs.size<=b)/\b≠X.env.locals/\(∀ x c,X.env.cells.lookup x=some c->c≠b)/\∀ p∈X.pn++pins,p.1≠b) :
  Inv X pins σ H' { s with heap:=h',gens:=g',drawn:=d',toks:=t' }:=by
 obtain ⟨m,⟨o,es,ep,ho,r⟩,_⟩:=id I.loc
 obtain ⟨sl,hL⟩:=u.any ho I.free fun z=>(hch _ z).2.1 rfl
 exact I.step (ch:=ch) hch (fun b o hL hb hc e n=>u.keep b o e n (fun z=>(mem_cons.mp (I.stkSub b z)).elim hL hb) hc) (fun b o _ _ hc e n=>u.any e n hc) (fun b o hc e n=>u.free b o e n hc) (fun b o hc e=>u.there b o e hc) u.tups u.frzs u.tbls (fun m' hm=>by
  obtain ⟨o',es',ep',ho',r'⟩:=hm
  rw [ho] at ho';cases ho'
  exact ⟨_,es',ep',hL,r'⟩) hok hg
theorem Inv.turned {t':Nat}{it:Addr}(I:Inv X pins σ H s) (k:∀ b o,b≠it->s.heap.get? b=some o->h'.get? b=some o) (hn:H it=none) (hL:it≠X.env.locals)
  (h1:it∈X.ex\/X.s₀.heap.objs.size<=it) (h2:∀ x c,X.env.cells.lookup x=some c->c≠it) (h3:∀ p∈X.pn++pins,p.1≠it):Inv X pins σ H { s with heap:=h',toks:=t' }:=by
 have nit:∀ b u,H b=some u->b≠it:=fun b u e z=>by rw [z,hn] at e;cases e
 refine I.step (g':=s.gens) (d':=s.drawn) (ch:=[it]) (fun b hb=>?_) (fun b o _ _ hc e _=>k b o (fun z=>hc (by simp [z])) e) (fun b o _ _ hc e _=>⟨o.slots,k b o (fun z=>hc (by simp [z])) e⟩) (fun _ _ _ _ n=>n)
  (fun b o hc e=>⟨o,k b o (fun z=>hc (by simp [z])) e⟩) (fun _ _ e=>e) (fun _ _ _ e=>e) (fun b ps e=>⟨#[],by rw [e];simp⟩) (fun m hm=>?_) (fun b u e=>?_) I.bare
 .have e:b=it:=by simpa using hb
  subst e
  exact ⟨h1,hL,h2,h3⟩
 .obtain ⟨o,es,ep,ho,r⟩:=hm
  exact ⟨o,es,ep,k _ o (Ne.symm hL) ho,r⟩
 .refine (I.hok b u e).stay (fun c v hc q=>k c v ?_ q) (fun _ q=>q) fun _ _ q=>q
  rcases hc with z|z
  .rw [z];exact nit b u e
  .exact nit c _ z
theorem Inv.tok (I:Inv X pins σ H s) (t:Nat):Inv X pins σ H { s with toks:=t }:=I.un (h':=s.heap) (t':=t) Un.refl I.hok
theorem Inv.kept {t':Nat}(I:Inv X pins σ H s) (k:∀ b u,s.heap.get? b=some u->h'.get? b=some u):Inv X pins σ H { s with heap:=h',toks:=t' }:=I.un (Un.kept k) (I.hok.kept k)
theorem Inv.laid {a:Addr}{o:HO}{t':Nat}(I:Inv X pins σ H s) (k:∀ b u,s.heap.get? b=some u->h'.get? b=some u) (hp:s.heap.objs.size<=a) (new:ObjOk X.prog X.w (upd H a o) h' a o) :
  Inv X pins σ (upd H a o) { s with heap:=h',toks:=t' }:=I.un (Un.laid k hp (I.hok.fresh hp)) (I.hok.laid k hp new)
theorem Inv.write {x e:Addr}{o:HO}{t':Nat}(I:Inv X pins σ H s) (mu:Mut (H x)) (he:e=x\/H e=some (.own x)) (k:∀ b u,b≠e->s.heap.get? b=some u->h'.get? b=some u) (heo:∃ u,h'.get? e=some u)
  (new:ObjOk X.prog X.w (upd H x o) h' x o):Inv X pins σ (upd H x o) { s with heap:=h',toks:=t' }:=I.un (Un.write mu he k heo) (I.hok.write mu he k heo new)
theorem Inv.pins_of {pins':List (Addr×Obj)}(I:Inv X pins σ H s) (h:∀ p∈pins',s.heap.get? p.1=some p.2/\H p.1=none/\p.1≠X.env.locals/\p.1∉X.fs/\∀ v,p.2.data≠.cell v):Inv X pins' σ H s :=
 ⟨I.ok,I.os,I.bare,I.base,I.loc,I.cell,I.free,I.freeC,fun p hp=>(List.mem_append.mp hp).elim (fun z=>I.pin p (mem_append_left _ z)) (h p),I.hok,I.len⟩
theorem ynn {N:List Str}(hN:N.Nodup) {i j:Nat}{x:Str}(a:N[i]?=some x) (b:N[j]?=some x):i=j:=by
 obtain ⟨h1,e1⟩:=List.getElem?_eq_some_iff.mp a
 obtain ⟨h2,e2⟩:=List.getElem?_eq_some_iff.mp b
 exact (List.getElem_inj hN).mp (e1.trans e2.symm)
theorem ypH {M:Model}{A:Around}{E:Value->Shared->Prop}{i:Nat}{x:Str}{v:V}{u:Value}{Q:Unit->Shared->Prop}(I:Inv X pins σ H s) (hN:X.N.Nodup) (hi:X.N[i]?=some x) (hx:Loc X.env.scope x) (r:RelV v u)
  (h:∀ s',Inv X pins (σ.set i (some v)) H s'->(∃ a,Heap.SameBut a s.heap s'.heap/\(a=X.env.locals\/X.env.cells.lookup x=some a))->Q () s') (hf:X.fn x=true\/X.env.scope.names.lookup x=some .local:=by first|exact .inl rfl|exact .inr rfl|assumption):wpAny M A (storeName X.env x u) Q E s:=by
 obtain ⟨m,hn,hl⟩:=id I.loc
 have hcls:(X.env.scope.kind == .class || (X.env.scope.kind == .module && X.env.locals != X.env.globals))=false:=by rw [I.ok.kind];rfl
 have hiσ:i<σ.length:=by rw [I.len];exact (List.getElem?_eq_some_iff.mp hi).1
 have cne:=I.cne
 have tracked:∀ {a:Addr}{h':Heap},(∃ o,s.heap.get? a=some o/\H a=none)->Heap.SameBut a s.heap h'->HOk X.prog X.w H h':=fun {a h'} ha hs b ob e=>by
  obtain ⟨_,_,hfree⟩:=ha
  refine (I.hok b ob e).stay (fun c w' hc q=>(hs.2 c ?_).trans q) (fun _ q=>q) fun _ _ q=>q
  rintro rfl
  rcases hc with rfl|hc
  .rw [hfree] at e;cases e
  .rw [hfree] at hc;cases hc
 rcases hx with hk|hk
 .refine wpAny_storeName_local hk hn (fun h' hn' hs=>?_) hcls
  obtain ⟨oL,_,_,hoL,_⟩:=id hn
  refine h _ ⟨I.ok,I.os,I.bare,⟨fun b o e n hb hx=>?_,fun b o e n hb hx=>?_,I.base.free,fun b o e hx=>?_,I.base.tups,I.base.frzs,I.base.tbls⟩,⟨_,hn',fun j y v' e1 e2 e3=>?_⟩,fun y c e=>?_,I.free,I.freeC,fun p hp=>?_,tracked ⟨oL,hoL,I.free⟩ hs,by simpa using I.len⟩ ⟨_,hs,.inl rfl⟩
  .exact (hs.2 b (ne_of_lt (lt_of_lt_of_le (Heap.lt_size e) I.ok.above))).trans (I.base.keep b o e n hb hx)
  .obtain ⟨sl,e1⟩:=I.base.slot b o e n hb hx
   exact ⟨sl,(hs.2 b (ne_of_lt (lt_of_lt_of_le (Heap.lt_size e) I.ok.above))).trans e1⟩
  .obtain ⟨o',e1⟩:=I.base.there b o e hx
   exact ⟨o',(hs.2 b (ne_of_lt (lt_of_lt_of_le (Heap.lt_size e) I.ok.above))).trans e1⟩
  .by_cases hj:j=i
   .subst hj
    rw [hi] at e1;cases e1
    rw [getElem?_set_self hiσ] at e2
    cases e2
    exact ⟨u,r,.inl ⟨hk,by simp⟩⟩
   .rw [getElem?_set_ne (Ne.symm hj)] at e2
    obtain ⟨u',r',q⟩:=hl j y v' e1 e2 e3
    refine ⟨u',r',?_⟩
    rcases q with ⟨k,e⟩|⟨k,c,e,z⟩
    .refine .inl ⟨k,?_⟩
     have:y≠x:=fun e=>hj (ynn hN e1 (e ▸ hi))
     simp [this,e]
    .exact .inr ⟨k,c,e,z.sameBut hs (cne y c e)⟩
  .obtain ⟨w',z⟩:=I.cell y c e
   exact ⟨w',z.sameBut hs (cne y c e)⟩
  .obtain ⟨e,n,ne,nf,d⟩:=I.pin p hp
   exact ⟨(hs.2 p.1 ne).trans e,n,ne,nf,d⟩
 .have hfn:X.fn x=true:=by
   rcases hf with z|z
   .exact z
   .rw [z] at hk;cases hk
  obtain ⟨c,hc⟩:=I.ok.has x (.inl hk)
  obtain ⟨w',z⟩:=I.cell x c hc
  refine wpAny_storeName_cell I.ok.kind hk hc z (fun h' hc' hs=>?_)
  obtain ⟨oc,hoc,hocd⟩:=id z
  refine h { s with heap:=h' } ⟨I.ok,I.os,I.bare,⟨fun b o e n hb hx=>?_,fun b o e n hb hx=>?_,I.base.free,fun b o e hx=>?_,I.base.tups,I.base.frzs,I.base.tbls⟩,⟨m,hn.sameBut hs (Ne.symm (cne x c hc)),fun j y v' e1 e2 e3=>?_⟩,fun y c' e=>?_,I.free,I.freeC,fun p hp=>?_,tracked ⟨oc,hoc,I.freeC x c hc⟩ hs,by simpa using I.len⟩ ⟨c,hs,.inr hc⟩
  .exact (hs.2 b (ne_of_lt (lt_of_lt_of_le (Heap.lt_size e) (I.ok.cab x c hfn hc)))).trans (I.base.keep b o e n hb hx)
  .obtain ⟨sl,e1⟩:=I.base.slot b o e n hb hx
   exact ⟨sl,(hs.2 b (ne_of_lt (lt_of_lt_of_le (Heap.lt_size e) (I.ok.cab x c hfn hc)))).trans e1⟩
  .obtain ⟨o',e1⟩:=I.base.there b o e hx
   exact ⟨o',(hs.2 b (ne_of_lt (lt_of_lt_of_le (Heap.lt_size e) (I.ok.cab x c hfn hc)))).trans e1⟩
  .by_cases hj:j=i
   .subst hj
    rw [hi] at e1;cases e1
    rw [getElem?_set_self hiσ] at e2
    cases e2
    exact ⟨u,r,.inr ⟨.inl hk,c,hc,hc'⟩⟩
   .rw [getElem?_set_ne (Ne.symm hj)] at e2
    obtain ⟨u',r',q⟩:=hl j y v' e1 e2 e3
    refine ⟨u',r',?_⟩
    rcases q with q|⟨k,c',e,z'⟩
    .exact .inl q
    .refine .inr ⟨k,c',e,z'.sameBut hs ?_⟩
     rintro rfl
     exact hj (ynn hN e1 (I.ok.inj _ _ _ e hc ▸ hi))
  .by_cases hcc:c'=c
   .subst hcc;exact ⟨_,hc'⟩
   .obtain ⟨w2,z2⟩:=I.cell y c' e
    exact ⟨w2,z2.sameBut hs hcc⟩
  .obtain ⟨e,n,ne,nf,d⟩:=I.pin p hp
   refine ⟨(hs.2 p.1 ?_).trans e,n,ne,nf,d⟩
   intro q
   rw [q,hoc] at e
   have q':oc=p.2:=Option.some.inj e
   exact d w' (by rw [<- q'];exact hocd)
theorem yno {M:Model}{A:Around}{E:Value->Shared->Prop}{i:Nat}{x:Str}{v:V}{u:Value}{Q:Unit->Shared->Prop}(I:Inv X pins σ H s) (hN:X.N.Nodup) (hi:X.N[i]?=some x) (hx:Loc X.env.scope x) (r:RelV v u)
  (h:∀ s',Inv X pins (σ.set i (some v)) H s'->Q () s') (hf:X.fn x=true\/X.env.scope.names.lookup x=some .local:=by first|exact .inl rfl|exact .inr rfl|assumption):wpAny M A (storeName X.env x u) Q E s :=
 ypH I hN hi hx r (fun s' I' _=>h s' I') hf
theorem Inv.call' {s':Shared}{ch:List Addr}(I:Inv X pins σ H s) (ho:s'.os=s.os) (u:Un (frs X.stack) ch H H' s.heap s'.heap) (hok:HOk X.prog X.w H' s'.heap) (hg:AllBare s'.gens)
  (hch:∀ b∈ch,(b∈X.ex\/X.s₀.heap.objs.size<=b)/\b≠X.env.locals/\(∀ x c,X.env.cells.lookup x=some c->c≠b)/\∀ p∈X.pn++pins,p.1≠b):Inv X pins σ H' s':=by
 obtain ⟨h',g',d',t',o'⟩:=s'
 have e:o'=s.os:=ho
 subst e
 exact I.call (g':=g') (t':=t') (d':=d') u hok hg hch
end
abbrev XK:=Value->Option Addr->Hp->Prop
abbrev St:=List (Option V)
abbrev VK:=V->Hp->Prop
abbrev TE:=St->Hp->VK->Prop
abbrev TT:=St->Hp->(Bool->Hp->Prop)->Prop
abbrev TA:=St->Hp->(List V->Hp->Prop)->Prop
structure Ends where
 nx:St->Hp->Prop
 rt:VK
 bk:St->Hp->Prop:=fun _ _=>False
 ct:St->Hp->Prop:=fun _ _=>False
abbrev TS:=Ends->St->Hp->Prop
def EP (X:Cx) (pins:List (Addr×Obj)) (σ:St) (Q:VK) (u:Value) (s':Shared):Prop:=∃ v H',Inv X pins σ H' s'/\RelV v u/\Q v H'
noncomputable def TP (X:Cx) (pins:List (Addr×Obj)) (σ:St) (Q:Bool->Hp->Prop) (b:Bool) (s':Shared):Prop:=∃ H',Inv X pins σ H' s'/\Q b H'
def AP (X:Cx) (pins:List (Addr×Obj)) (σ:St) (Q:List V->Hp->Prop) (us:List Value) (s':Shared):Prop:=∃ vs H',Inv X pins σ H' s'/\Vals vs us/\Q vs H'
def SP (X:Cx) (pins:List (Addr×Obj)) (D:Ends) (f:Flow) (s':Shared):Prop :=
 match f with
 | .next=>∃ σ' H',Inv X pins σ' H' s'/\D.nx σ' H'
 | .brk=>∃ σ' H',Inv X pins σ' H' s'/\D.bk σ' H'
 | .cont=>∃ σ' H',Inv X pins σ' H' s'/\D.ct σ' H'
 | .ret u=>∃ v σ' H',Inv X pins σ' H' s'/\RelV v u/\D.rt v H'
def PE (X:Cx) (e:Expr) (t:TE):Prop :=
 ∀ (pins:List (Addr×Obj)) (s:Shared) (σ:St) (H:Hp) (Q:VK),Inv X pins σ H s->t σ H Q->wpAny (model X.prog X.w) X.A (eval e X.env) (EP X pins σ Q) X.xe s
def PT (X:Cx) (e:Expr) (t:TT):Prop :=
 ∀ (pins:List (Addr×Obj)) (s:Shared) (σ:St) (H:Hp) (Q:Bool->Hp->Prop),Inv X pins σ H s->t σ H Q->wpAny (model X.prog X.w) X.A (isTrue e X.env (eval e X.env)) (TP X pins σ Q) X.xe s
def PW (X:Cx) (e:Expr) (t:TT):Prop :=
 ∀ (whole:Sem Value) (pins:List (Addr×Obj)) (s:Shared) (σ:St) (H:Hp) (Q:Bool->Hp->Prop),Inv X pins σ H s->t σ H Q->wpAny (model X.prog X.w) X.A (isTrue e X.env whole) (TP X pins σ Q) X.xe s
theorem PW.pt {X:Cx}{e:Expr}{t:TT}(h:PW X e t):PT X e t:=h _
def PA (X:Cx) (es:List Expr) (t:TA):Prop :=
 ∀ (pos:Pos) (pins:List (Addr×Obj)) (s:Shared) (σ:St) (H:Hp) (Q:List V->Hp->Prop),Inv X pins σ H s->t σ H Q->wpAny (model X.prog X.w) X.A (spliced (backTo pos (starEach es X.env))) (AP X pins σ Q) X.xe s
def PS (X:Cx) (st:Stmt) (t:TS):Prop :=
 ∀ (pins:List (Addr×Obj)) (s:Shared) (σ:St) (H:Hp) (D:Ends),Inv X pins σ H s->t D σ H->wpAny (model X.prog X.w) X.A (exec st X.env) (SP X pins D) X.xe s
def PSs (X:Cx) (st:List Stmt) (t:TS):Prop :=
 ∀ (pins:List (Addr×Obj)) (s:Shared) (σ:St) (H:Hp) (D:Ends),Inv X pins σ H s->t D σ H->wpAny (model X.prog X.w) X.A (execs st X.env) (SP X pins D) X.xe s
theorem thn {α:Type}{t:Sem α}{Q Q':α->Shared->Prop}{M:Model}{A:Around}{E:Value->Shared->Prop}{s:Shared}(h:wpAny M A t Q E s) (hQ:∀ a s,Q a s->Q' a s):wpAny M A t Q' E s:=wpAny_mono h hQ fun _ _ x=>x
end L2
namespace L2
open PySem PySem.Spec PyProof.Rows
section
variable {X:Cx}
def ypA (i:Nat):TE:=fun σ H Q=>∃ v,σ[i]?=some (some v)/\Q v H
def tC (v:V):TE:=fun _ H Q=>Q v H
theorem yiP {i:Nat}{x:Str}{pos:Pos}(hN:X.N[i]?=some x) (hv:Vis X.env.scope x) (hd:(x == ("__debug__":Str))=false:=by decide) (hcd:(x == ("__classdict__":Str))=false:=by decide):PE X (.Name x pos) (ypA i):=by
 intro pins s σ H Q I h
 obtain ⟨v,e,h⟩:=h
 obtain ⟨m,hn,hl⟩:=I.loc
 obtain ⟨u,r,l⟩:=hl i x v hN e hv
 have fin:EP X pins σ Q u s:=⟨v,H,I,r,h⟩
 rcases l with ⟨hk,hm⟩|⟨hk,c,hc,hcell⟩
 .exact wpAny_Name (wpAny_loadName_local I.ok.kind hk hn hm fin) hd
 .rcases hk with hk|hk
  .exact wpAny_Name (wpAny_loadName_cell I.ok.kind hk hc hcell fin) hd
  .exact wpAny_Name (wpAny_loadName_free I.ok.kind hk hc hcell fin hcd) hd
theorem yzw {i j pos}:PE X (.Constant (.int i) j pos) (tC (.int i)):=fun _ _ _ H _ I h=>wpAny_Constant_int ⟨.int i,H,I.tok _,⟨_,rfl⟩,h⟩
theorem yCH {b j pos}:PE X (.Constant (.bool b) j pos) (tC (.bl b)):=fun _ _ _ H _ I h=>Constant_bool ⟨.bl b,H,I,rfl,h⟩
theorem yzx {j pos}:PE X (.Constant .none j pos) (tC .non):=fun _ _ _ H _ I h=>Constant_none ⟨.non,H,I,rfl,h⟩
theorem yzy {x j pos}:PE X (.Constant (.str x) j pos) (tC (.str x)):=fun _ _ _ H _ I h=>Calls.Constant_str ⟨.str x,H,I.tok _,⟨_,rfl⟩,h⟩
def Gl (X:Cx) (x:Str):Prop:=X.env.kindOf x=some .globalImplicit
theorem yhq {E:Value->Shared->Prop}{pins:List (Addr×Obj)}{s:Shared}{σ:St}{H:Hp}{x:Str}{u:Value}{pos:Pos}{Q:Value->Shared->Prop}(I:Inv X pins σ H s) (hg:Gl X x) (hm:X.mg x=some u) (h:Q u s)
  (hd:(x == ("__debug__":Str))=false:=by decide):wpAny (model X.prog X.w) X.A (eval (.Name x pos) X.env) Q E s :=
 Calls.Name_function_global I.ok.kind hg (Calls.loadGlobal_global (by rw [I.ok.glob];exact I.mod.glob.keeps I.bk) hm h) hd
theorem ykz {E:Value->Shared->Prop}{pins:List (Addr×Obj)}{s:Shared}{σ:St}{H:Hp}{x:Str}{u:Value}{pos:Pos}{Q:Value->Shared->Prop}(I:Inv X pins σ H s) (hg:Gl X x) (hm:X.mg x=none) (hv:bootBuiltins x=some u) (h:Q u s)
  (hn:x≠"__name__":=by decide) (hd:(x == ("__debug__":Str))=false:=by decide):wpAny (model X.prog X.w) X.A (eval (.Name x pos) X.env) Q E s:=by
 obtain ⟨mb,h1,h2⟩:=I.mod.blt
 exact Calls.Name_function_global I.ok.kind hg (Calls.loadGlobal_builtin (by rw [I.ok.glob];exact I.mod.glob.keeps I.bk) hm (by rw [I.ok.blt];exact h1.keeps I.bk) ((h2 x hn).trans hv) h) hd
theorem ylY {x:Str}{v:V}{u:Value}{pos:Pos}(hg:Gl X x) (hm:X.mg x=some u) (r:RelV v u) (hd:(x == ("__debug__":Str))=false:=by decide):PE X (.Name x pos) (tC v) :=
 fun _ _ _ H _ I h=>yhq I hg hm ⟨v,H,I,r,h⟩ hd
theorem ywy {x:Str}{v:V}{u:Value}{pos:Pos}(hg:Gl X x) (hm:X.mg x=none) (hv:bootBuiltins x=some u) (r:RelV v u) (hn:x≠"__name__":=by decide) (hd:(x == ("__debug__":Str))=false:=by decide):PE X (.Name x pos) (tC v) :=
 fun _ _ _ H _ I h=>ykz I hg hm hv ⟨v,H,I,r,h⟩ hn hd
variable {a b:Expr}{ta tb:TE}{pos:Pos}
def tB (t:TE):TT:=fun σ H Q=>t σ H fun x H1=>∃ c,x=.bl c/\Q c H1
theorem yzz {e:Expr}{t:TE}(h:PE X e t) (he:∀ whole,isTrue e X.env whole=(do let v <- whole;standAt e.pos;holding [v] (truthy v)):=by intro _;rfl):PT X e (tB t):=by
 intro pins s σ H Q I hw
 refine isTrue_plain (thn (h pins s σ H _ I hw) fun v s1 ⟨x,H1,I1,r1,q1⟩=>?_) (he _)
 obtain ⟨d,rfl,q⟩:=q1
 cases r1
 exact wpAny_truthy_bool ⟨H1,I1,q⟩
variable {tA tB':TT}{rest:List Expr}
def yFh (t u:TT):TT:=fun σ H Q=>t σ H fun c H1=>if c=true then u σ H1 Q else Q false H1
def tOr (t u:TT):TT:=fun σ H Q=>t σ H fun c H1=>if c=true then Q true H1 else u σ H1 Q
def yCI (t:TT):TT:=fun σ H Q=>t σ H fun c H1=>Q (!c) H1
theorem ywz (ha:PT X a tA):PW X (.BoolOp .And [a] pos) tA:=by
 intro wh pins s σ H Q I h
 refine isTrue_and (thn (ha pins s σ H Q I h) fun c s1 e=>?_)
 cases c with
 | true=>exact isTrue_and_nil e
 | false=>exact e
theorem yzA (ha:PT X a tA):PW X (.BoolOp .Or [a] pos) tA:=by
 intro wh pins s σ H Q I h
 refine isTrue_or (thn (ha pins s σ H Q I h) fun c s1 e=>?_)
 cases c with
 | false=>exact isTrue_or_nil e
 | true=>exact e
theorem yzB (ha:PT X a tA) (hb:PW X (.BoolOp .And (b::rest) pos) tB'):PW X (.BoolOp .And (a::b::rest) pos) (yFh tA tB'):=by
 intro wh pins s σ H Q I h
 refine isTrue_and (thn (ha pins s σ H _ I h) fun c s1 ⟨H1,I1,q1⟩=>?_)
 cases c with
 | true=>exact hb wh pins s1 σ H1 Q I1 q1
 | false=>exact ⟨H1,I1,q1⟩
theorem yCJ (ha:PT X a tA) (hb:PW X (.BoolOp .Or (b::rest) pos) tB'):PW X (.BoolOp .Or (a::b::rest) pos) (tOr tA tB'):=by
 intro wh pins s σ H Q I h
 refine isTrue_or (thn (ha pins s σ H _ I h) fun c s1 ⟨H1,I1,q1⟩=>?_)
 cases c with
 | true=>exact ⟨H1,I1,q1⟩
 | false=>exact hb wh pins s1 σ H1 Q I1 q1
theorem yzC (ha:PT X a tA):PT X (.UnaryOp .Not a pos) (yCI tA):=by
 intro pins s σ H Q I h
 exact isTrue_not (ha pins s σ H (fun c H1=>Q (!c) H1) I h)
def yzD (ta tb:TE):TE:=fun σ H Q=>ta σ H fun x H1=>∃ c,x=.bl c/\if c=true then tb σ H1 Q else Q (.bl false) H1
def yzE (ta:TE):TE:=fun σ H Q=>ta σ H fun x H1=>∃ c,x=.bl c/\Q (.bl (!c)) H1
theorem yzF {op} {t:TE}(h:PE X a t):PE X (.BoolOp op [a] pos) t:=fun pins s σ H Q I hw=>BoolOp_one (h pins s σ H Q I hw)
theorem yzG (ha:PE X a ta) (hb:PE X (.BoolOp .And (b::rest) pos) tb):PE X (.BoolOp .And (a::b::rest) pos) (yzD ta tb):=by
 intro pins s σ H Q I h
 refine BoolOp_and (thn (ha pins s σ H _ I h) fun v s1 ⟨x,H1,I1,r1,q1⟩=>?_)
 obtain ⟨c,rfl,q1⟩:=q1
 cases r1
 refine wpAny_truthy_bool ?_
 cases c with
 | true=>exact hb pins s1 σ H1 Q I1 q1
 | false=>exact ⟨.bl false,H1,I1,rfl,q1⟩
theorem yzH (ha:PE X a ta):PE X (.UnaryOp .Not a pos) (yzE ta):=by
 intro pins s σ H Q I h
 refine UnaryOp_ (thn (ha pins s σ H _ I h) fun v s1 ⟨x,H1,I1,r1,q1⟩=>?_)
 obtain ⟨c,rfl,q1⟩:=q1
 cases r1
 exact not_of (wpAny_truthy_bool ⟨.bl (!c),H1,I1,rfl,q1⟩)
def tIf (t:TT) (ta tb:TE):TE:=fun σ H Q=>t σ H fun c H1=>if c=true then ta σ H1 Q else tb σ H1 Q
theorem ysZ {c:Expr}(hc:PT X c tA) (ha:PE X a ta) (hb:PE X b tb):PE X (.IfExp c a b pos) (tIf tA ta tb):=by
 intro pins s σ H Q I h
 refine wpAny_IfExp (thn (hc pins s σ H _ I h) fun d s1 ⟨H1,I1,q1⟩=>?_)
 cases d with
 | true=>exact ha pins s1 σ H1 Q I1 q1
 | false=>exact hb pins s1 σ H1 Q I1 q1
end
end L2
namespace L2
open PySem PySem.Spec PyProof.Rows
def SqL (K:PySem.W.Frag) (H:Hp) (a:Addr) (xs:List V):Prop :=
 Rd H a (.lst xs) \/
  ∃ (o:Obj) (its:Array Value) (n:Nat),K.lookup a=some o/\o.cls=.type "list"/\o.dict=none/\o.data=.seq its n/\its.size<=sizeLine/\Vals xs its.toList
def SqT (K:PySem.W.Frag) (H:Hp) (a:Addr) (xs:List V):Prop :=
 Rd H a (.tup xs) \/
  ∃ (o:Obj) (its:Array Value) (n:Nat),K.lookup a=some o/\o.cls=.type "tuple"/\o.data=.seq its n/\its.size<=sizeLine/\Vals xs its.toList
noncomputable def yFU:Value->Option V
 | .none=>some .non
 | .bool b=>some (.bl b)
 | .int i _=>some (.int i)
 | .str x _=>some (.str x)
 | .bytes b _=>some (.byt b)
 | .float b _=>some (.flt b)
 | .ref a=>some (.ref a)
 | .type n=>some (.ty n)
 | _=>none
theorem RelV.abs {x:V}{u:Value}(r:RelV x u):yFU u=some x:=by
 cases x with
 | non=>cases r;rfl
 | bl _=>cases r;rfl
 | int _=>obtain ⟨t,rfl⟩:=r;rfl
 | str _=>obtain ⟨t,rfl⟩:=r;rfl
 | byt _=>obtain ⟨t,rfl⟩:=r;rfl
 | flt _=>obtain ⟨t,rfl⟩:=r;rfl
 | ref _=>cases r;rfl
 | ty _=>cases r;rfl
theorem RelV.inj {x y:V}{u:Value}(r:RelV x u) (q:RelV y u):x=y:=Option.some.inj (r.abs.symm.trans q.abs)
theorem Vals.inj:∀ {xs ys:List V}{us:List Value},Vals xs us->Vals ys us->xs=ys
 | _,_,_,.nil,.nil=>rfl
 | _,_,_,.cons r t,.cons r' t'=>by rw [r.inj r',Vals.inj t t']
section
variable {X:Cx}{pins:List (Addr×Obj)}{σ:St}{H:Hp}{s:Shared}{a:Addr}{xs ys:List V}
theorem SqL.of {K:PySem.W.Frag}(h:H a=some (.lst xs)):SqL K H a xs:=.inl (.inl h)
theorem SqT.of {K:PySem.W.Frag}(h:H a=some (.tup xs)):SqT K H a xs:=.inl (.inl h)
theorem Inv.list (I:Inv X pins σ H s) (h:SqL X.K H a xs):∃ its:List Value,Vals xs its/\PlainL s.heap a its.toArray/\xs.length<=sizeLine:=by
 rcases h with h|⟨o,its,n,hk,hc,hd,hs,hz,r⟩
 .obtain ⟨z,its,n,r,e⟩:=h.ok I.hok
  exact ⟨its,r,⟨_,n,e,rfl,rfl,rfl⟩,z⟩
 .refine ⟨its.toList,r,⟨o,n,I.kIn a o hk,hc,hd,by simpa using hs⟩,?_⟩
  have e:=r.length
  simp only [Array.length_toList] at e
  omega
theorem Inv.tuple (I:Inv X pins σ H s) (h:SqT X.K H a xs):∃ its:List Value,Vals xs its/\IsTup s.heap a its.toArray/\xs.length<=sizeLine:=by
 rcases h with h|⟨o,its,n,hk,hc,hs,hz,r⟩
 .obtain ⟨z,its,r,p⟩:=h.ok I.hok
  exact ⟨its,r,p,z⟩
 .refine ⟨its.toList,r,⟨o,I.kIn a o hk,hc,n,by simpa using hs⟩,?_⟩
  have e:=r.length
  simp only [Array.length_toList] at e
  omega
theorem Inv.list_inj (I:Inv X pins σ H s) (h:SqL X.K H a xs) (h':SqL X.K H a ys):xs=ys:=by
 obtain ⟨its,r,⟨o,n,e,_,_,d⟩,_⟩:=I.list h
 obtain ⟨its',r',⟨o',n',e',_,_,d'⟩,_⟩:=I.list h'
 rw [e] at e';cases e'
 rw [d] at d'
 injection d' with d1 _
 have:its=its':=by simpa using congrArg Array.toList d1
 subst this
 exact r.inj r'
end
abbrev Cx.wish (X:Cx) (E:Value->Shared->Prop):Cx:={ X with xe:=E }
abbrev Cx.nox (X:Cx):Cx:=X.wish fun _ _=>False
theorem Cx.Ok.wish {X:Cx}(ok:X.Ok) (E:Value->Shared->Prop):(X.wish E).Ok :=
 ⟨ok.mod,ok.kind,ok.glob,ok.blt,ok.above,ok.inj,ok.has,ok.cab,ok.hd,ok.frames,ok.stk,ok.exf,ok.bs,ok.bsz,ok.noex,ok.exfs,ok.funs,ok.frf⟩
theorem Cx.Ok.unwish {X:Cx}{E:Value->Shared->Prop}(ok:(X.wish E).Ok):X.Ok :=
 ⟨ok.mod,ok.kind,ok.glob,ok.blt,ok.above,ok.inj,ok.has,ok.cab,ok.hd,ok.frames,ok.stk,ok.exf,ok.bs,ok.bsz,ok.noex,ok.exfs,ok.funs,ok.frf⟩
section
variable {X:Cx}{pins:List (Addr×Obj)}{σ:St}{H:Hp}{s:Shared}{E:Value->Shared->Prop}
theorem Inv.wish (I:Inv X pins σ H s) (E:Value->Shared->Prop):Inv (X.wish E) pins σ H s:=⟨I.ok.wish E,I.os,I.bare,I.base,I.loc,I.cell,I.free,I.freeC,I.pin,I.hok,I.len⟩
theorem Inv.unwish (I:Inv (X.wish E) pins σ H s):Inv X pins σ H s:=⟨I.ok.unwish,I.os,I.bare,I.base,I.loc,I.cell,I.free,I.freeC,I.pin,I.hok,I.len⟩
theorem SP.unwish {D:Ends}{f:Flow}{s':Shared}(h:SP (X.wish E) pins D f s'):SP X pins D f s':=by
 cases f with
 | next=>obtain ⟨σ',H',I,q⟩:=h;exact ⟨σ',H',I.unwish,q⟩
 | brk=>obtain ⟨σ',H',I,q⟩:=h;exact ⟨σ',H',I.unwish,q⟩
 | cont=>obtain ⟨σ',H',I,q⟩:=h;exact ⟨σ',H',I.unwish,q⟩
 | ret u=>obtain ⟨v,σ',H',I,r,q⟩:=h;exact ⟨v,σ',H',I.unwish,r,q⟩
theorem PSs.nox {st:List Stmt}{t:TS}(h:PSs X.nox st t):PSs X st t:=fun pins s σ H D I hw =>
 wpAny_mono (h pins s σ H D (I.wish _) hw) (fun _ _ q=>q.unwish) fun _ _ z=>False.elim z
end
section
variable {X:Cx}{st:Stmt}{rest:List Stmt}{t u:TS}{e:Expr}{te:TE}{pos:Pos}
def yzI:TS:=fun D σ H=>D.nx σ H
def yCK (t u:TS):TS:=fun D σ H=>t { D with nx:=u D } σ H
theorem ywA:PSs X [] yzI:=fun _ _ σ H _ I h=>wpAny_execs_nil ⟨σ,H,I,h⟩
theorem ynp (h1:PS X st t) (h2:PSs X rest u):PSs X (st::rest) (yCK t u):=by
 intro pins s σ H D I h
 refine wpAny_execs_cons (thn (h1 pins s σ H { D with nx:=u D } I h) fun f s1 q=>?_)
 cases f with
 | next =>
  obtain ⟨σ',H',I',q⟩:=q
  exact h2 pins s1 σ' H' D I' q
 | ret v=>exact q
 | brk=>exact q
 | cont=>exact q
theorem ypI (h1:PS X st t):PSs X [st] t:=by
 intro pins s σ H D I h
 refine wpAny_execs_cons (thn (h1 pins s σ H D I h) fun f s1 q=>?_)
 cases f with
 | next=>exact wpAny_execs_nil q
 | ret v=>exact q
 | brk=>exact q
 | cont=>exact q
theorem Inv.quiet {pins:List (Addr×Obj)}{σ:St}{H:Hp}{s:Shared}(I:Inv X pins σ H s):interactive X.env=false:=by simp [interactive,I.ok.kind]
def ypJ (te:TE):TS:=fun D σ H=>te σ H fun _ H1=>D.nx σ H1
theorem yjs (he:PE X e te) (hs:swapsWith e none pos.line X.env=pure false:=by rfl):PS X (.Expr e pos) (ypJ te):=by
 intro pins s σ H D I h
 exact wpAny_Expr_any (thn (he pins s σ H _ I h) fun v s1 ⟨x,H1,I1,r1,q1⟩=>⟨σ,H1,I1,q1⟩) I.quiet hs
def yFi (te:TE):TS:=fun D σ H=>te σ H D.rt
theorem yzJ (he:PE X e te):PS X (.Return (some e) pos) (yFi te):=by
 intro pins s σ H D I h
 exact wpAny_Return_some (thn (he pins s σ H _ I h) fun v s1 ⟨x,H1,I1,r1,q1⟩=>⟨x,σ,H1,I1,r1,q1⟩)
def yFj (c:TT) (t u:TS):TS:=fun D σ H=>c σ H fun b H1=>if b=true then t D σ H1 else u D σ H1
theorem yCL {c:Expr}{a b:List Stmt}{tc:TT}(hc:PT X c tc) (ha:PSs X a t) (hb:PSs X b u):PS X (.If c a b pos) (yFj tc t u):=by
 intro pins s σ H D I h
 refine wpAny_If (thn (hc pins s σ H _ I h) fun d s1 ⟨H1,I1,q1⟩=>?_)
 cases d with
 | true=>exact ha pins s1 σ H1 D I1 q1
 | false=>exact hb pins s1 σ H1 D I1 q1
def yvy:TS:=fun _ _ _=>False
theorem yta:PS X st yvy:=fun _ _ _ _ _ _ h=>h.elim
end
abbrev TG:=V->St->Hp->(St->Hp->Prop)->Prop
abbrev TGs:=List V->St->Hp->(St->Hp->Prop)->Prop
def PG (X:Cx) (target:Expr) (t:TG):Prop :=
 ∀ (pins:List (Addr×Obj)) (s:Shared) (σ:St) (H:Hp) (v:V) (u:Value) (Q:St->Hp->Prop),Inv X pins σ H s->RelV v u->t v σ H Q ->
  wpAny (model X.prog X.w) X.A (assign target X.env u) (fun _ s'=>∃ σ' H',Inv X pins σ' H' s'/\Q σ' H') X.xe s
def PGs (X:Cx) (ts:List Expr) (t:TGs):Prop :=
 ∀ (pins:List (Addr×Obj)) (s:Shared) (σ:St) (H:Hp) (vs:List V) (us:List Value) (Q:St->Hp->Prop),Inv X pins σ H s->Vals vs us->t vs σ H Q ->
  wpAny (model X.prog X.w) X.A (assignInOrder ((assignEach ts X.env).map (·.2)) us) (fun _ s'=>∃ σ' H',Inv X pins σ' H' s'/\Q σ' H') X.xe s
abbrev yCM:=V->V->V->Hp->(Hp->Prop)->Prop
def yFk (X:Cx) (t:yCM):Prop :=
 ∀ (pins:List (Addr×Obj)) (s:Shared) (σ:St) (H:Hp) (o i v:V) (ov iv u:Value) (Q:Hp->Prop),Inv X pins σ H s->RelV o ov->RelV i iv->RelV v u->t o i v H Q ->
  wpAny (model X.prog X.w) X.A (setItem ov iv u) (fun _ s'=>∃ H',Inv X pins σ H' s'/\Q H') X.xe s
section
variable {X:Cx}{pos:Pos}
def yoG (i:Nat):TG:=fun v σ H Q=>Q (σ.set i (some v)) H
theorem yjt {i:Nat}{x:Str}(hN:X.N.Nodup) (hi:X.N[i]?=some x) (hx:Loc X.env.scope x) (hf:X.fn x=true\/X.env.scope.names.lookup x=some .local:=by first|exact .inl rfl|exact .inr rfl|assumption):PG X (.Name x pos) (yoG i):=by
 intro pins s σ H v u Q I r h
 exact wpAny_assign_Name (yno I hN hi hx r (fun s' I'=>⟨_,H,I',h⟩) hf)
def yFl:TGs:=fun vs σ H Q=>vs=[]/\Q σ H
def yzK (t:TG) (u:TGs):TGs:=fun vs σ H Q=>∃ v r,vs=v::r/\t v σ H fun σ' H'=>u r σ' H' Q
theorem ywB:PGs X [] yFl:=by
 intro pins s σ H vs us Q I r h
 obtain ⟨e,h⟩:=h
 subst e
 cases r
 exact assignInOrder_nil ⟨σ,H,I,h⟩
theorem ytb {e:Expr}{es:List Expr}{t:TG}{u:TGs}(h1:PG X e t) (h2:PGs X es u)
  (hs:(assignEach (e::es) X.env).map (·.2)=assign e X.env::(assignEach es X.env).map (·.2):=by rfl):PGs X (e::es) (yzK t u):=by
 intro pins s σ H vs us Q I r h
 obtain ⟨v,vr,e1,h⟩:=h
 subst e1
 cases r with
 | cons r rr =>
  rw [hs]
  refine assignInOrder_cons (thn (h1 pins s σ H _ _ _ I r h) fun _ s1 ⟨σ1,H1,I1,q1⟩=>?_)
  exact h2 pins s1 σ1 H1 _ _ Q I1 rr q1
def yFm (K:PySem.W.Frag) (n:Nat) (t:TGs):TG:=fun v σ H Q=>∃ a xs,v=.ref a/\SqT K H a xs/\xs.length=n/\t xs σ H Q
theorem yzL {es:List Expr}{k:Nat}{t:TGs}{n:Nat}(hc:X.calm=true) (h:PGs X es t)
  (hn:(assignEach es X.env).length=n:=by rfl) (hst:(assignEach es X.env).findIdx? (·.1)=none:=by rfl):PG X (.Tuple es k pos) (yFm X.K n t):=by
 intro pins s σ H v u Q I r hw
 obtain ⟨a,xs,e1,hq,hl,hw⟩:=hw
 subst e1
 cases r
 obtain ⟨its,rv,ht,hz⟩:=I.tuple hq
 refine assign_Tuple_tuple (I.ok.hd hc) ht (by simp [hn,<- hl,rv.length]) hst fun h' hx=>?_
 have I1:Inv X pins σ H { s with heap:=h' }:=I.kept (t':=s.toks) fun b o e=>hx b o (ne_of_lt (Heap.lt_size e)) e
 exact h pins _ σ H xs _ Q I1 (by simpa using rv) hw
def yFn (to ti:TE) (t:yCM):TG:=fun v σ H Q=>to σ H fun o H1=>ti σ H1 fun i H2=>t o i v H2 fun H3=>Q σ H3
theorem yzM {o i:Expr}{to ti:TE}{t:yCM}(ho:PE X o to) (hi:PE X i ti) (hs:yFk X t)
  (ha:∀ v,assign (.Subscript o i pos) X.env v=(do
   let ov <- holding [v] (eval o X.env)
   let iv <- holding [v,ov] (eval i X.env)
   standAt pos
   holding [v,ov,iv] (setItem ov iv v)
   release [v,ov,iv] []):=by intro _;rfl):PG X (.Subscript o i pos) (yFn to ti t):=by
 intro pins s σ H v u Q I r h
 rw [ha]
 refine wpAny_bind (wpAny_holding (thn (ho pins s σ H _ I h) fun ov s1 ⟨x,H1,I1,r1,q1⟩=>?_))
 refine wpAny_bind (wpAny_holding (thn (hi pins s1 σ H1 _ I1 q1) fun iv s2 ⟨y,H2,I2,r2,q2⟩=>?_))
 refine wpAny_bind (wpAny_standAt (wpAny_bind (wpAny_holding (thn (hs pins s2 σ H2 x y v ov iv u _ I2 r1 r2 r q2) fun _ s3 ⟨H3,I3,q3⟩=>?_))))
 exact wpAny_release ⟨σ,H3,I3,q3⟩
def yvz (te:TE) (g:TG):TS:=fun D σ H=>te σ H fun x H1=>g x σ H1 D.nx
theorem yzN {tg e:Expr}{te:TE}{g:TG}(he:PE X e te) (hg:PG X tg g) (hs:swapsWithSole [tg] e pos.line X.env=pure false:=by rfl) (hw:swappedStores [tg] e X.env=pure none:=by rfl)
  (h1:(assignEach [tg] X.env).map (·.2)=[assign tg X.env]:=by rfl):PS X (.Assign [tg] e pos) (yvz te g):=by
 intro pins s σ H D I h
 refine wpAny_Assign_stores (thn (he pins s σ H _ I h) fun v s1 ⟨x,H1,I1,r1,q1⟩=>?_) hs hw
 rw [h1]
 exact thn (hg pins s1 σ H1 x v _ I1 r1 q1) fun _ s2 q=>q
theorem yvA {i:Nat}{x:Str}{e:Expr}{te:TE}{pos':Pos}(hN:X.N.Nodup) (hi:X.N[i]?=some x) (hx:Loc X.env.scope x) (he:PE X e te) (hs:swapsWith e (some (.Name x pos')) pos.line X.env=pure false:=by rfl) (hf:X.fn x=true\/X.env.scope.names.lookup x=some .local:=by first|exact .inl rfl|exact .inr rfl|assumption) :
  PS X (.Assign [.Name x pos'] e pos) (yvz te (yoG i)):=by
 intro pins s σ H D I h
 refine wpAny_Assign_Name (thn (he pins s σ H _ I h) fun v s1 ⟨y,H1,I1,r1,q1⟩=>?_) hs
 exact yno I1 hN hi hx r1 (fun s2 I2=>⟨_,H1,I2,q1⟩) hf
end
section
variable {X:Cx}{pos:Pos}
noncomputable def yvB (c:TT) (tb:TS):TS:=fun D σ H=>∃ W:Nat->St->Hp->Prop,(∃ m,W m σ H)/\∀ m σ H,W m σ H ->
 c σ H fun b H1=>if b=true then ∃ N:St->Hp->Prop,(∀ σ' H',N σ' H'->∃ m',m'<m/\W m' σ' H')/\tb { D with nx:=N,ct:=N,bk:=D.nx } σ H1 else D.nx σ H1
theorem ytc {c:Expr}{body:List Stmt}{tc:TT}{tb:TS}(hp:PassesOwn (model X.prog X.w) X.A X.env X.xe) (hc:PT X c tc) (hb:PSs X body tb):PS X (.While c body [] pos) (yvB tc tb):=by
 intro pins s σ H D I h
 obtain ⟨W,⟨m0,w0⟩,turn⟩:=h
 refine wpAny_While (codeAny_whileLoop (fun n s'=>∃ σ' H',Inv X pins σ' H' s'/\W n σ' H') ?_ m0 ⟨σ,H,I,w0⟩)
 rintro n s1 ⟨σ1,H1,I1,w1⟩
 refine wpAny_passesOwn hp (thn (hc pins s1 σ1 H1 _ I1 (turn n σ1 H1 w1)) fun b s2 ⟨H2,I2,q2⟩=>?_)
 cases b with
 | true =>
  obtain ⟨N,hN,q2⟩:=q2
  rw [if_pos rfl]
  refine wpAny_passesOwn hp (thn (hb pins s2 σ1 H2 _ I2 q2) fun f s3 q3=>?_)
  cases f with
  | next =>
   obtain ⟨σ3,H3,I3,n3⟩:=q3
   obtain ⟨m',hm,w3⟩:=hN σ3 H3 n3
   exact ⟨m',hm,σ3,H3,I3,w3⟩
  | cont =>
   obtain ⟨σ3,H3,I3,n3⟩:=q3
   obtain ⟨m',hm,w3⟩:=hN σ3 H3 n3
   exact ⟨m',hm,σ3,H3,I3,w3⟩
  | brk=>exact q3
  | ret v=>exact q3
 | false =>
  rw [if_neg Bool.false_ne_true]
  exact wpAny_execs_nil ⟨σ1,H2,I2,q2⟩
end
structure It where
 go:Nat->Hp->Prop
 yld:Nat->Hp->V->Hp->Prop
 stop:Nat->Hp->Prop
noncomputable def yoH (X:Cx) (pins:List (Addr×Obj)) (H:Hp) (b:Addr):Prop :=
 H b=none/\b≠X.env.locals/\b∉X.fs/\(b∈X.ex\/X.s₀.heap.objs.size<=b)/\(∀ x c,X.env.cells.lookup x=some c->c≠b)/\∀ p∈X.pn++pins,p.1≠b
theorem Inv.fpOk {X:Cx}{pins:List (Addr×Obj)}{σ:St}{H H':Hp}{s:Shared}{b:Addr}(I:Inv X pins σ H s) (hb:s.heap.objs.size<=b) (hn:H' b=none):yoH X pins H' b:=by
 refine ⟨hn,Nat.ne_of_gt (lt_of_lt_of_le I.lt hb),I.nofs hb,.inr (Nat.le_trans I.sz hb),fun x c e z=>?_,fun p hp z=>?_⟩
 .obtain ⟨v,q⟩:=I.cell x c e
  exact absurd (lt_of_lt_of_le q.lt (by rw [z];exact hb)) (lt_irrefl _)
 .exact absurd (lt_of_lt_of_le (Heap.lt_size (I.pin p hp).1) (by rw [z];exact hb)) (lt_irrefl _)
structure Turn (P:Program) (w:World) (K:PySem.W.Frag) (tg:Expr) (J:It) (fp:List Addr) (it:Addr) (tn:Nat->Heap->Prop):Prop where
 mem:it∈fp
 obj:∀ i h,tn i h->∀ b∈fp,∃ o,h.get? b=some o/\∀ v,o.data≠.cell v
 keep:∀ i h h',tn i h->(∀ b∈fp,∀ o,h.get? b=some o->h'.get? b=some o)->tn i h'
 item:∀ (X:Cx),X.prog=P->X.w=w->X.K=K->X.calm=true->∀ (i:Nat) (pins:List (Addr×Obj)) (s:Shared) (σ:St) (H:Hp) (E:Value->Shared->Prop),Inv X pins σ H s->(∀ b∈fp,yoH X pins H b)->tn i s.heap->J.go i H ->
  wpAny (model P w) X.A (pyNext (.ref it)) (fun r s1=>∃ u,r=some u /\
   wpAny (model P w) X.A (letOwnedTupleGo tg (.ref it) u) (fun _ s2=>∃ x H',Inv X pins σ H' s2/\RelV x u/\J.yld i H x H'/\tn (i+1) s2.heap/\∀ b∈fp,H' b=none) E s1) E s
 done:∀ (X:Cx),X.prog=P->X.w=w->X.K=K->X.calm=true->∀ (i:Nat) (pins:List (Addr×Obj)) (s:Shared) (σ:St) (H:Hp) (E:Value->Shared->Prop),Inv X pins σ H s->(∀ b∈fp,yoH X pins H b)->tn i s.heap->J.stop i H ->
  wpAny (model P w) X.A (pyNext (.ref it)) (fun r s1=>r=none/\Inv X pins σ H s1) E s
 self:∀ (A:Around) (i:Nat) (s:Shared) (Q:Value->Shared->Prop) (E:Value->Shared->Prop),tn i s.heap->Q (.ref it) s->wpAny (model P w) A (pyIter (.ref it)) Q E s
abbrev TI:=St->Hp->(It->Hp->Prop)->Prop
def PIE (X:Cx) (pins:List (Addr×Obj)) (σ:St) (tg:Expr) (R:It->Hp->Prop) (itv:Value) (s2:Shared):Prop :=
 ∃ (it:Addr) (fp:List Addr) (tn:Nat->Heap->Prop) (J:It) (H':Hp),itv=.ref it/\Inv X pins σ H' s2/\Turn X.prog X.w X.K tg J fp it tn/\tn 0 s2.heap/\(∀ b∈fp,yoH X pins H' b)/\R J H'
def PI (X:Cx) (tg iter:Expr) (wi:TI):Prop :=
 ∀ (pins:List (Addr×Obj)) (s:Shared) (σ:St) (H:Hp) (R:It->Hp->Prop),Inv X pins σ H s->wi σ H R ->
  wpAny (model X.prog X.w) X.A (eval iter X.env) (fun v s1=>wpAny (model X.prog X.w) X.A (pyIter v) (PIE X pins σ tg R) X.xe s1) X.xe s
theorem ypK {M:Model}{A:Around}{E:Value->Shared->Prop}{s:Shared}{tg:Expr}{it:Addr}{u:Value}{o:Obj}{n:String}{vs:Array Value}{Q:Unit->Shared->Prop}(ho:s.heap.get? it=some o) (hc:o.cls=.type n) (hd:o.data=.fields vs)
    (hn:["enumerate","zip","dict_itemiterator","dict_reverseitemiterator","odict_iterator","itertools.zip_longest","itertools.pairwise"].contains n=false) (hQ:Q () s):wpAny M A (letOwnedTupleGo tg (.ref it) u) Q E s:=by
  unfold letOwnedTupleGo
  cases tg<;>first
    | exact wpAny_pure hQ
    | (cases u<;>first
        | exact wpAny_pure hQ
        | (refine wpAny_bind (wpAny_load ho ?_)
           rw [hc,hd]
           show wpAny M A (if (["enumerate","zip","dict_itemiterator","dict_reverseitemiterator","odict_iterator","itertools.zip_longest","itertools.pairwise"].contains n && vs[0]? == some (rawInt _))=true then _ else _) Q E s
           rw [if_neg (by intro h;rw [hn,Bool.false_and] at h;cases h)]
           exact wpAny_pure hQ))
def Itl (K:PySem.W.Frag) (a:Addr):It :=
 ⟨fun i H=>∃ xs x,SqL K H a xs/\xs[i]?=some x,fun i H x H'=>H'=H/\∀ xs,SqL K H a xs->xs[i]?=some x,fun i H=>∃ xs,SqL K H a xs/\xs.length<=i⟩
def Itr (lo:Int) (n:Nat):It:=⟨fun i _=>i<n,fun i H x H'=>H'=H/\x=.int (lo+i),fun i _=>n<=i⟩
theorem ypL {P:Program}{w:World}{K:PySem.W.Frag}{tg:Expr}(a it:Addr):Turn P w K tg (Itl K a) [it] it (fun i h=>h.IsListIter it a i) where
 mem:=by simp
 obj:=fun i h st b hb=>by
  have e:b=it:=by simpa using hb
  subst e
  obtain ⟨o,e,c,d⟩:=st
  exact ⟨o,e,fun v z=>by rw [d] at z;cases z⟩
 keep:=fun i h h' st k=>st.at fun o e=>k it (by simp) o e
 item:=by
  intro X hP hw hK hc i pins s σ H E I hf st hg
  subst hP hw hK
  obtain ⟨xs,x,hq,hx⟩:=hg
  obtain ⟨its,rv,p,hz⟩:=I.list hq
  obtain ⟨u,hu,ru⟩:=rv.get hx
  obtain ⟨f0,f1,f2,f3,f4,f5⟩:=hf it (by simp)
  refine wpAny_pyNext_list_item st p.isList (x:=u) (by simpa using hu) fun h' st' sb=>?_
  have I1:Inv X pins σ H { s with heap:=h' }:=I.turned (t':=s.toks) (fun b o hb e=>(sb.2 b hb).trans e) f0 f1 f3 f4 f5
  obtain ⟨o,e,c,d⟩:=id st'
  exact ⟨u,rfl,ypK (s:={ s with heap:=h' }) e c d (by decide) ⟨x,H,I1,ru,⟨rfl,fun ys hy=>by rw [I.list_inj hy hq];exact hx⟩,st',fun b hb=>(hf b hb).1⟩⟩
 done:=by
  intro X hP hw hK hc i pins s σ H E I hf st hg
  subst hP hw hK
  obtain ⟨xs,hq,hx⟩:=hg
  obtain ⟨its,rv,p,hz⟩:=I.list hq
  obtain ⟨f0,f1,f2,f3,f4,f5⟩:=hf it (by simp)
  have hl:=rv.length
  exact wpAny_pyNext_list_end (I.ok.hd hc) st p.isList (by simp;omega) fun h' eb=>⟨rfl,I.turned (t':=s.toks) (fun b o hb e=>eb b o hb e) f0 f1 f3 f4 f5⟩
 self:=fun _ _ _ _ _ st h=>wpAny_pyIter_listiter st h
theorem yoI {P:Program}{w:World}{K:PySem.W.Frag}{tg:Expr}(it:Addr) (lo:Int) (n:Nat):Turn P w K tg (Itr lo n) [it] it (fun i h=>IsRangeIter h it (lo+(i:Nat)*1) ((n:Int)-(i:Nat)) 1) where
 mem:=by simp
 obj:=fun i h st b hb=>by
  have e:b=it:=by simpa using hb
  subst e
  exact ⟨_,st,fun v z=>by
   have z':Data.fields _=Data.cell v:=z
   cases z'⟩
 keep:=fun i h h' st k=>k it (by simp) _ st
 item:=by
  intro X hP hw hK hc i pins s σ H E I hf st hg
  subst hP hw hK
  obtain ⟨f0,f1,f2,f3,f4,f5⟩:=hf it (by simp)
  have W:=Walks.range (prog:=X.prog) (w:=X.w) (I.ok.hd hc) it lo 1 n
  refine W.item i s _ _ hg st fun v h' tk hv st' kk=>?_
  obtain ⟨t,rfl⟩:=hv
  have I1:Inv X pins σ H { s with heap:=h',toks:=tk }:=I.turned (fun b o hb e=>kk b o (by simpa using hb) e) f0 f1 f3 f4 f5
  refine ⟨_,rfl,ypK (s:={ s with heap:=h',toks:=tk }) (n:="range_iterator") st' rfl rfl (by decide) ⟨.int (lo+i),H,I1,⟨t,?_⟩,⟨rfl,rfl⟩,st',fun b hb=>(hf b hb).1⟩⟩
  rw [Int.mul_one]
 done:=by
  intro X hP hw hK hc i pins s σ H E I hf st hg
  subst hP hw hK
  obtain ⟨f0,f1,f2,f3,f4,f5⟩:=hf it (by simp)
  exact wpAny_pyNext_range_end (I.ok.hd hc) st (by have:n<=i:=hg;omega) fun h' eb=>⟨rfl,I.turned (t':=s.toks) (fun b o hb e=>eb b o hb e) f0 f1 f3 f4 f5⟩
 self:=fun _ _ _ _ _ st h=>wpAny_pyIter_rangeiter st h
end L2
namespace L2
open PySem PySem.Spec PyProof.Rows
section
variable {X:Cx}{tg:Expr}
def ytd (K:PySem.W.Frag) (tl:TE):TI:=fun σ H R=>tl σ H fun x H1=>∃ a,x=.ref a/\(∃ xs,SqL K H1 a xs)/\R (Itl K a) H1
theorem ylZ {l:Expr}{tl:TE}(hl:PE X l tl):PI X tg l (ytd X.K tl):=by
 intro pins s σ H R I h
 refine thn (hl pins s σ H _ I h) fun v s1 ⟨x,H1,I1,r1,q1⟩=>?_
 obtain ⟨a,e,⟨xs,hq⟩,q⟩:=q1
 subst e
 cases r1
 obtain ⟨its,rv,p,hz⟩:=I1.list hq
 refine wpAny_pyIter_list p.isList ?_
 refine ⟨s1.heap.objs.size,[s1.heap.objs.size],_,_,H1,rfl,I1.kept (t':=s1.toks) fun b o e=>Heap.get?_push_of_some _ e,ypL a _,⟨_,Heap.get?_push_size _ rfl,rfl,rfl⟩,fun b hb=>?_,q⟩
 have e:b=s1.heap.objs.size:=by simpa using hb
 subst e
 exact I1.fpOk (Nat.le_refl _) (I1.hok.fresh (Nat.le_refl _))
theorem yte {pins:List (Addr×Obj)}{σ:St}{H:Hp}{s:Shared}{R:It->Hp->Prop}{E:Value->Shared->Prop}{lo hi:Int}{t u v:Tok}{tk:Nat}(I:Inv X pins σ H s) (h1:-(2 ^ 62)<=lo) (h2:lo<2 ^ 62) (h3:-(2 ^ 62)<=hi) (h4:hi<2 ^ 62)
  (q:R (Itr lo (hi-lo).toNat) H):wpAny (model X.prog X.w) X.A (pyIter (.ref s.heap.objs.size)) (PIE X pins σ tg R) E { s with heap:=s.heap.push { cls:=.type "range",data:=.fields #[.int lo t,.int hi u,.int 1 v] },toks:=tk }:=by
 refine wpAny_pyIter_range (IsRange.new ..) (small_one h1 h2 h3 h4) ?_
 have I1:Inv X pins σ H { s with heap:=s.heap.push { cls:=.type "range",data:=.fields #[.int lo t,.int hi u,.int 1 v] },toks:=tk }:=I.kept fun b o e=>Heap.get?_push_of_some _ e
 refine ⟨(s.heap.push { cls:=.type "range",data:=.fields #[.int lo t,.int hi u,.int 1 v] }).objs.size,[(s.heap.push { cls:=.type "range",data:=.fields #[.int lo t,.int hi u,.int 1 v] }).objs.size],_,_,H,rfl,
  I1.kept (t':=tk) fun b o e=>Heap.get?_push_of_some _ e,yoI _ lo (hi-lo).toNat,?_,fun b hb=>?_,q⟩
 .have e1:lo+((0:Nat):Int)*1=lo:=by simp
  have e2:(((hi-lo).toNat:Nat):Int)-((0:Nat):Int)=Builtin.Range.rangeSize lo hi 1:=by rw [rangeSize_one];split<;>omega
  show IsRangeIter _ _ (lo+((0:Nat):Int)*1) ((((hi-lo).toNat:Nat):Int)-((0:Nat):Int)) 1
  rw [e1,e2]
  exact Heap.get?_push_size _ rfl
 .have e:b=(s.heap.push { cls:=.type "range",data:=.fields #[.int lo t,.int hi u,.int 1 v] }).objs.size:=by simpa using hb
  subst e
  exact I1.fpOk (Nat.le_refl _) (I1.hok.fresh (Nat.le_refl _))
def yzO (ta:TA):TI:=fun σ H R=>ta σ H fun vs H1=>∃ j:Int,vs=[.int j]/\-(2 ^ 62)<=j/\j<2 ^ 62/\R (Itr 0 j.toNat) H1
theorem ypM {a:Expr}{ta:TA}{p pos:Pos}(hg:Gl X "range") (hm:X.mg "range" = none) (ha:PA X [a] ta) (hs:starEach [a] X.env=[(false,eval a X.env)]:=by rfl):PI X tg (.Call (.Name "range" p) [a] [] pos) (yzO ta):=by
 intro pins s σ H R I h
 refine Call_ (ykz I hg hm boot_range (PyProof.Rows.callWith_type1 (thn (ha pos pins s σ H _ I h) fun us s1 ⟨vs,H1,I1,r1,q1⟩=>?_) hs rfl))
 obtain ⟨j,e,q1,q2,q⟩:=q1
 subst e
 cases r1 with
 | cons r rr =>
  cases rr
  obtain ⟨t,rfl⟩:=r
  exact call_range_1 (yte I1 (by omega) (by omega) q1 q2 (by simpa using q))
noncomputable def yCq (wi:TI) (g:TG) (tb:TS):TS:=fun D σ H=>wi σ H fun J H1=>∃ W:Nat->Nat->St->Hp->Prop,(∃ m,W 0 m σ H1)/\∀ i m σ H,W i m σ H ->
 (J.stop i H/\D.nx σ H)\/(J.go i H/\∃ N:St->Hp->Prop,(∀ σ' H',N σ' H'->∃ m',m'<m/\W (i+1) m' σ' H')/\∀ x H',J.yld i H x H'->g x σ H' fun σ2 H2=>tb { D with nx:=N,ct:=N,bk:=D.nx } σ2 H2)
def ynq (fp:List Addr) (h:Heap):List (Addr×Obj):=fp.filterMap fun b=>(h.get? b).map fun o=>(b,o)
theorem ybC {fp:List Addr}{h:Heap}{b:Addr}{o:Obj}(hb:b∈fp) (e:h.get? b=some o):(b,o)∈ynq fp h:=List.mem_filterMap.mpr ⟨b,hb,by rw [e];rfl⟩
theorem ypN {fp:List Addr}{h:Heap}{p:Addr×Obj}(hp:p∈ynq fp h):p.1∈fp/\h.get? p.1=some p.2:=by
 obtain ⟨b,hb,e⟩:=List.mem_filterMap.mp hp
 cases q:h.get? b with
 | none=>rw [q] at e;cases e
 | some o =>
  rw [q] at e
  have e':(b,o)=p:=Option.some.inj e
  subst e'
  exact ⟨hb,q⟩
theorem Inv.pinned {pins:List (Addr×Obj)}{σ:St}{H:Hp}{s:Shared}{fp:List Addr}(I:Inv X pins σ H s) (hf:∀ b∈fp,yoH X pins H b) (ho:∀ b∈fp,∃ o,s.heap.get? b=some o/\∀ v,o.data≠.cell v):Inv X (pins++ynq fp s.heap) σ H s :=
 I.pins_of fun p hp=>(List.mem_append.mp hp).elim (fun z=>I.pin p (mem_append_right _ z)) fun z=>by
  obtain ⟨hb,e⟩:=ypN z
  obtain ⟨f0,f1,f2,_⟩:=hf p.1 hb
  obtain ⟨o,e',d⟩:=ho p.1 hb
  rw [e] at e';cases e'
  exact ⟨e,f0,f1,f2,d⟩
theorem Inv.unpinned {pins pl:List (Addr×Obj)}{σ:St}{H:Hp}{s:Shared}(I:Inv X (pins++pl) σ H s):Inv X pins σ H s:=I.pins_of fun p hp=>I.pin p (mem_append_right _ (mem_append_left _ hp))
theorem ypO {iter:Expr}{body:List Stmt}{wi:TI}{g:TG}{tb:TS}{pos:Pos}(hp:PassesOwn (model X.prog X.w) X.A X.env X.xe) (hc:X.calm=true) (hi:PI X tg iter wi) (hg:PG X tg g) (hb:PSs X body tb)
  (hs:∀ x,foldedSetIterable iter X.env x=pure x:=by intro _;rfl):PS X (.For tg iter body [] pos) (yCq wi g tb):=by
 intro pins s σ H D I h
 refine wpAny_For (thn (hi pins s σ H _ I h) fun v s1 h1=>thn h1 fun itv s2 h2=>?_) hs
 obtain ⟨it,fp,tn,J,H2,e,I2,T,st2,f2,W,⟨m0,w0⟩,turn⟩:=h2
 subst e
 have stat:∀ {H':Hp},(∀ b∈fp,H' b=none)->∀ b∈fp,yoH X pins H' b:=fun hn b hb=>⟨hn b hb,(f2 b hb).2⟩
 refine codeAny_forLoop_any (fun n s'=>∃ i σ' H',Inv X pins σ' H' s'/\tn i s'.heap/\(∀ b∈fp,H' b=none)/\W i n σ' H') ?_ m0 ⟨0,σ,H2,I2,st2,fun b hb=>(f2 b hb).1,w0⟩
 rintro n s3 ⟨i,σ3,H3,I3,st3,fr3,w3⟩
 rcases turn i n σ3 H3 w3 with ⟨stop,qn⟩|⟨go,N,hN,step⟩
 .refine wpAny_passesOwn hp (thn (T.done X rfl rfl rfl hc i pins s3 σ3 H3 X.xe I3 (stat fr3) st3 stop) fun r s4 ⟨hr,I4⟩=>?_)
  subst hr
  exact wpAny_execs_nil ⟨σ3,H3,I4,qn⟩
 .refine wpAny_passesOwn hp (thn (T.item X rfl rfl rfl hc i pins s3 σ3 H3 X.xe I3 (stat fr3) st3 go) fun r s4 ⟨u,hr,h4⟩=>?_)
  subst hr
  refine wpAny_passesOwn hp (thn h4 fun _ s5 ⟨x,H5,I5,r5,y5,st5,fr5⟩=>?_)
  have I5':=I5.pinned (stat fr5) (T.obj _ _ st5)
  refine wpAny_passesOwn hp (thn (hg _ s5 σ3 H5 x u _ I5' r5 (step x H5 y5)) fun _ s6 ⟨σ6,H6,I6,q6⟩=>?_)
  refine wpAny_passesOwn hp (thn (hb _ s6 σ6 H6 _ I6 q6) fun f s7 q7=>?_)
  have again:∀ {σ7:St}{H7:Hp},Inv X (pins++ynq fp s5.heap) σ7 H7 s7->N σ7 H7->∃ m,m<n/\∃ i σ' H',Inv X pins σ' H' s7/\tn i s7.heap/\(∀ b∈fp,H' b=none)/\W i m σ' H':=fun {σ7 H7} I7 n7=>by
   obtain ⟨m',hm,w7⟩:=hN σ7 H7 n7
   refine ⟨m',hm,i+1,σ7,H7,I7.unpinned,T.keep _ _ _ st5 fun b hb o e=>(I7.pin (b,o) (mem_append_right _ (mem_append_right _ (ybC hb e)))).1,fun b hb=>?_,w7⟩
   obtain ⟨o,e,d⟩:=T.obj _ _ st5 b hb
   exact (I7.pin (b,o) (mem_append_right _ (mem_append_right _ (ybC hb e)))).2.1
  cases f with
  | next=>obtain ⟨σ7,H7,I7,n7⟩:=q7;exact again I7 n7
  | cont=>obtain ⟨σ7,H7,I7,n7⟩:=q7;exact again I7 n7
  | brk=>obtain ⟨σ7,H7,I7,q7⟩:=q7;exact ⟨σ7,H7,I7.unpinned,q7⟩
  | ret v=>obtain ⟨x7,σ7,H7,I7,r7,q7⟩:=q7;exact ⟨x7,σ7,H7,I7.unpinned,r7,q7⟩
end
end L2
namespace L2
open PySem PySem.Spec PyProof.Rows
abbrev R2:=V->V->Hp->VK->Prop
def OpR (X:Cx) (f:Value->Value->Sem Value) (r:R2):Prop :=
 ∀ (pins:List (Addr×Obj)) (s:Shared) (σ:St) (H:Hp) (x y:V) (v u:Value) (Q:VK),Inv X pins σ H s->RelV x v->RelV y u->r x y H Q ->
  wpAny (model X.prog X.w) X.A (f v u) (EP X pins σ Q) X.xe s
def UnR (X:Cx) (f:Value->Sem Value) (r:V->Hp->VK->Prop):Prop :=
 ∀ (pins:List (Addr×Obj)) (s:Shared) (σ:St) (H:Hp) (x:V) (v:Value) (Q:VK),Inv X pins σ H s->RelV x v->r x H Q ->
  wpAny (model X.prog X.w) X.A (f v) (EP X pins σ Q) X.xe s
def yfg (X:Cx) (f:Value) (r:List V->Hp->VK->Prop):Prop :=
 ∀ (pins:List (Addr×Obj)) (s:Shared) (σ:St) (H:Hp) (xs:List V) (us:List Value) (Q:VK),Inv X pins σ H s->Vals xs us->r xs H Q ->
  wpAny (model X.prog X.w) X.A (call f us) (EP X pins σ Q) X.xe s
def tOp (r:R2) (ta tb:TE):TE:=fun σ H Q=>ta σ H fun x H1=>tb σ H1 fun y H2=>r x y H2 Q
def tUn (r:V->Hp->VK->Prop) (ta:TE):TE:=fun σ H Q=>ta σ H fun x H1=>r x H1 Q
def rI (C:Int->Int->Prop) (g:Int->Int->V):R2:=fun x y H Q=>∃ i j,x=.int i/\y=.int j/\C i j/\Q (g i j) H
def rI0 (g:Int->Int->V):R2:=fun x y H Q=>∃ i j,x=.int i/\y=.int j/\Q (g i j) H
def rU (g:Int->V):V->Hp->VK->Prop:=fun x H Q=>∃ i,x=.int i/\Q (g i) H
section
variable {X:Cx}{a b c:Expr}{ta tb tc:TE}{pos:Pos}
theorem yCN (ha:PE X a ta) (hb:PE X b tb) {pins:List (Addr×Obj)}{s:Shared}{σ:St}{H:Hp}{R:V->V->Hp->Prop}(I:Inv X pins σ H s)
  (h:ta σ H fun x H1=>tb σ H1 fun y H2=>R x y H2) {Q:Value->Shared->Prop}{f:Value->Value->Sem Value}
  (hf:∀ v u s2 x y H2,Inv X pins σ H2 s2->RelV x v->RelV y u->R x y H2->wpAny (model X.prog X.w) X.A (f v u) Q X.xe s2) :
  wpAny (model X.prog X.w) X.A (eval a X.env) (fun v s₁=>wpAny (model X.prog X.w) X.A (eval b X.env) (fun u s₂=>wpAny (model X.prog X.w) X.A (f v u) Q X.xe s₂) X.xe s₁) X.xe s:=by
 refine thn (ha pins s σ H _ I h) fun v s1 ⟨x,H1,I1,r1,q1⟩=>?_
 refine thn (hb pins s1 σ H1 _ I1 q1) fun u s2 ⟨y,H2,I2,r2,q2⟩=>?_
 exact hf v u s2 x y H2 I2 r1 r2 q2
theorem yzP {op:Operator}{r:R2}(ho:OpR X (binaryOp op) r) (ha:PE X a ta) (hb:PE X b tb):PE X (.BinOp a op b pos) (tOp r ta tb):=by
 intro pins s σ H Q I h
 exact wpAny_BinOp (yCN ha hb I h fun v u s2 x y H2 I2 rx ry q=>ho pins s2 σ H2 x y v u Q I2 rx ry q)
theorem yCO {op:UnaryOp}{r:V->Hp->VK->Prop}(ho:UnR X (unaryOp op) r) (ha:PE X a ta):PE X (.UnaryOp op a pos) (tUn r ta):=by
 intro pins s σ H Q I h
 exact UnaryOp_ (thn (ha pins s σ H _ I h) fun v s1 ⟨x,H1,I1,r1,q1⟩=>ho pins s1 σ H1 x v Q I1 r1 q1)
theorem opI {f:Value->Value->Sem Value}{C:Int->Int->Prop}{g:Int->Int->Int}
  (rule:∀ (i j:Int) (t u:Tok) (s:Shared) (Q:Value->Shared->Prop) (E:Value->Shared->Prop),C i j->Q (.int (g i j) s.toks) { s with toks:=s.toks+1 }->wpAny (model X.prog X.w) X.A (f (.int i t) (.int j u)) Q E s) :
  OpR X f (rI C fun i j=>.int (g i j)):=by
 intro pins s σ H x y v u Q I rx ry h
 obtain ⟨i,j,rfl,rfl,hc,q⟩:=h
 obtain ⟨t,rfl⟩:=rx
 obtain ⟨t',rfl⟩:=ry
 exact rule i j t t' s _ _ hc ⟨.int (g i j),H,I.tok _,⟨_,rfl⟩,q⟩
theorem yFo {f:Value->Value->Sem Value}{g:Int->Int->Int}
  (rule:∀ (i j:Int) (t u:Tok) (s:Shared) (Q:Value->Shared->Prop) (E:Value->Shared->Prop),Q (.int (g i j) s.toks) { s with toks:=s.toks+1 }->wpAny (model X.prog X.w) X.A (f (.int i t) (.int j u)) Q E s) :
  OpR X f (rI0 fun i j=>.int (g i j)):=by
 intro pins s σ H x y v u Q I rx ry h
 obtain ⟨i,j,rfl,rfl,q⟩:=h
 obtain ⟨t,rfl⟩:=rx
 obtain ⟨t',rfl⟩:=ry
 exact rule i j t t' s _ _ ⟨.int (g i j),H,I.tok _,⟨_,rfl⟩,q⟩
theorem yCr {f:Value->Value->Sem Value}{g:Int->Int->Bool}
  (rule:∀ (i j:Int) (t u:Tok) (s:Shared) (Q:Value->Shared->Prop) (E:Value->Shared->Prop),Q (.bool (g i j)) s->wpAny (model X.prog X.w) X.A (f (.int i t) (.int j u)) Q E s) :
  OpR X f (rI0 fun i j=>.bl (g i j)):=by
 intro pins s σ H x y v u Q I rx ry h
 obtain ⟨i,j,rfl,rfl,q⟩:=h
 obtain ⟨t,rfl⟩:=rx
 obtain ⟨t',rfl⟩:=ry
 exact rule i j t t' s _ _ ⟨.bl (g i j),H,I,rfl,q⟩
def yFp (i j:Int):Prop:=0<j/\j<1073741824
def yCP (i j:Int):Prop:=0<=j/\j<=1000000/\i.natAbs<2 ^ 64
def CMul (i j:Int):Prop:=(-(2 ^ 64)<i/\i<2 ^ 64)\/(-(2 ^ 64)<j/\j<2 ^ 64)
theorem CMul.ok {i j:Int}(h:CMul i j):IntMulOk i j:=by
 rcases h with ⟨h1,h2⟩|⟨h1,h2⟩
 .exact .of_left (intBits_le_64 h1 h2)
 .exact .of_right (intBits_le_64 h1 h2)
theorem ycv:OpR X (binaryOp .Add) (rI0 fun i j=>.int (i+j)):=yFo fun _ _ _ _ _ _ _ q=>add_int q
theorem yiQ:OpR X (binaryOp .Sub) (rI0 fun i j=>.int (i-j)):=yFo fun _ _ _ _ _ _ _ q=>sub_int q
theorem ypP:OpR X (binaryOp .Mult) (rI CMul fun i j=>.int (i*j)):=opI fun _ _ _ _ _ _ _ hc q=>mul_int q hc.ok
theorem yju:OpR X (binaryOp .FloorDiv) (rI yFp fun i j=>.int (i/j)):=opI fun i j _ _ _ _ _ hc q=>by
 have h1:(0:Int)<j:=hc.1
 have h2:j<1073741824:=hc.2
 exact floordiv_int (by omega) (by rw [Int.fdiv_eq_ediv_of_nonneg i (by omega)];exact q) (.inl (PyProof.noPylong_small (by omega)))
theorem yel:OpR X (binaryOp .Mod) (rI (fun _ j=>0<j) fun i j=>.int (i%j)):=opI fun i j _ _ _ _ _ hc q=>by
 have h1:(0:Int)<j:=hc
 exact mod_int' (by omega) (by rw [Int.fmod_eq_emod_of_nonneg i (by omega)];exact q)
theorem yvC:OpR X (binaryOp .Pow) (rI yCP fun i j=>.int (i ^ j.toNat)):=opI fun _ _ _ _ _ _ _ hc q=>pow_int_small hc.1 hc.2.1 hc.2.2 q
theorem unI {f:Value->Sem Value}{g:Int->Int}
  (rule:∀ (i:Int) (t:Tok) (s:Shared) (Q:Value->Shared->Prop) (E:Value->Shared->Prop),Q (.int (g i) s.toks) { s with toks:=s.toks+1 }->wpAny (model X.prog X.w) X.A (f (.int i t)) Q E s) :
  UnR X f (rU fun i=>.int (g i)):=by
 intro pins s σ H x v Q I rx h
 obtain ⟨i,rfl,q⟩:=h
 obtain ⟨t,rfl⟩:=rx
 exact rule i t s _ _ ⟨.int (g i),H,I.tok _,⟨_,rfl⟩,q⟩
theorem ynr:UnR X (unaryOp .USub) (rU fun i=>.int (-i)):=unI fun _ _ _ _ _ q=>neg_int q
end
noncomputable def yvD:V->V->Bool
 | .non,.non=>true|.non,.int _=>true|.int _,.non=>true|.non,.bl _=>true|.bl _,.non=>true|.non,.str _=>true|.str _,.non=>true
 | .int _,.int _=>true|.bl _,.bl _=>true|.str _,.str _=>true|.byt _,.byt _=>true
 | .int _,.str _=>true|.str _,.int _=>true|.bl _,.str _=>true|.str _,.bl _=>true
 | _,_=>false
def rEq:R2:=fun x y H Q=>yvD x y=true/\Q (.bl (decide (x=y))) H
def rNe:R2:=fun x y H Q=>yvD x y=true/\Q (.bl (!decide (x=y))) H
theorem ypQ {i j:Int}:decide (V.int i=V.int j)=(i == j):=by
 rw [Bool.eq_iff_iff]
 simp
theorem yvE {i j:Bool}:decide (V.bl i=V.bl j)=(i == j):=by
 rw [Bool.eq_iff_iff]
 simp
theorem ypR {i j:Str}:decide (V.str i=V.str j)=(i == j):=by
 rw [Bool.eq_iff_iff]
 simp
theorem ypS {i j:Array UInt8}:decide (V.byt i=V.byt j)=(i.toList == j.toList):=by
 rw [Bool.eq_iff_iff]
 cases i
 cases j
 simp
section
variable {X:Cx}{a b c:Expr}{ta tb tc:TE}{pos:Pos}
theorem ybc {pins:List (Addr×Obj)}{σ:St}{H:Hp}{s:Shared}{Q:VK}{k k':Bool}(I:Inv X pins σ H s) (q:Q (.bl k) H) (e:k=k'):EP X pins σ Q (.bool k') s:=by
 subst e
 exact ⟨.bl k,H,I,rfl,q⟩
theorem ybd:OpR X (compareOp .Eq) rEq:=by
 intro pins s σ H x y v u Q I rx ry h
 obtain ⟨hs,q⟩:=h
 cases x with
 | non =>
  cases rx
  cases y with
  | non=>cases ry;exact PySem.EqNone.eq_none_none (ybc I q (by simp))
  | bl j=>cases ry;exact PySem.EqNone.eq_none_bool (ybc I q (by simp))
  | int j=>obtain ⟨t',rfl⟩:=ry;exact PySem.EqNone.eq_none_int (ybc I q (by simp))
  | str j=>obtain ⟨t',rfl⟩:=ry;exact PySem.EqNone.eq_none_str (ybc I q (by simp))
  | _=>exact absurd (show false=true from hs) Bool.false_ne_true
 | bl i =>
  cases rx
  cases y with
  | non=>cases ry;exact PySem.EqNone.eq_bool_none (ybc I q (by simp))
  | bl j=>cases ry;exact eq_bool (ybc I q yvE)
  | str j=>obtain ⟨t',rfl⟩:=ry;exact PySem.EqMixed.eq_bool_str (ybc I q (by simp))
  | _=>exact absurd (show false=true from hs) Bool.false_ne_true
 | int i =>
  obtain ⟨t,rfl⟩:=rx
  cases y with
  | non=>cases ry;exact PySem.EqNone.eq_int_none (ybc I q (by simp))
  | int j=>obtain ⟨t',rfl⟩:=ry;exact eq_int (ybc I q ypQ)
  | str j=>obtain ⟨t',rfl⟩:=ry;exact PySem.EqMixed.eq_int_str (ybc I q (by simp))
  | _=>exact absurd (show false=true from hs) Bool.false_ne_true
 | str i =>
  obtain ⟨t,rfl⟩:=rx
  cases y with
  | non=>cases ry;exact PySem.EqNone.eq_str_none (ybc I q (by simp))
  | bl j=>cases ry;exact PySem.EqMixed.eq_str_bool (ybc I q (by simp))
  | int j=>obtain ⟨t',rfl⟩:=ry;exact PySem.EqMixed.eq_str_int (ybc I q (by simp))
  | str j=>obtain ⟨t',rfl⟩:=ry;exact eq_str (ybc I q ypR)
  | _=>exact absurd (show false=true from hs) Bool.false_ne_true
 | byt i =>
  obtain ⟨t,rfl⟩:=rx
  cases y with
  | byt j=>obtain ⟨t',rfl⟩:=ry;exact PySem.W.eq_bytes (ybc I q ypS)
  | _=>exact absurd (show false=true from hs) Bool.false_ne_true
 | _=>cases y<;>exact absurd (show false=true from hs) Bool.false_ne_true
theorem yma:OpR X (compareOp .NotEq) rNe:=by
 intro pins s σ H x y v u Q I rx ry h
 obtain ⟨hs,q⟩:=h
 cases x with
 | non =>
  cases rx
  cases y with
  | non=>cases ry;exact PySem.EqNone.ne_none_none (ybc I q (by simp))
  | bl j=>cases ry;exact PySem.EqNone.ne_none_bool (ybc I q (by simp))
  | int j=>obtain ⟨t',rfl⟩:=ry;exact PySem.EqNone.ne_none_int (ybc I q (by simp))
  | str j=>obtain ⟨t',rfl⟩:=ry;exact PySem.EqNone.ne_none_str (ybc I q (by simp))
  | _=>exact absurd (show false=true from hs) Bool.false_ne_true
 | bl i =>
  cases rx
  cases y with
  | non=>cases ry;exact PySem.EqNone.ne_bool_none (ybc I q (by simp))
  | bl j=>cases ry;exact ne_bool (ybc I q (congrArg not yvE))
  | str j=>obtain ⟨t',rfl⟩:=ry;exact PySem.EqMixed.ne_bool_str (ybc I q (by simp))
  | _=>exact absurd (show false=true from hs) Bool.false_ne_true
 | int i =>
  obtain ⟨t,rfl⟩:=rx
  cases y with
  | non=>cases ry;exact PySem.EqNone.ne_int_none (ybc I q (by simp))
  | int j=>obtain ⟨t',rfl⟩:=ry;exact ne_int (ybc I q (congrArg not ypQ))
  | str j=>obtain ⟨t',rfl⟩:=ry;exact PySem.EqMixed.ne_int_str (ybc I q (by simp))
  | _=>exact absurd (show false=true from hs) Bool.false_ne_true
 | str i =>
  obtain ⟨t,rfl⟩:=rx
  cases y with
  | non=>cases ry;exact PySem.EqNone.ne_str_none (ybc I q (by simp))
  | bl j=>cases ry;exact PySem.EqMixed.ne_str_bool (ybc I q (by simp))
  | int j=>obtain ⟨t',rfl⟩:=ry;exact PySem.EqMixed.ne_str_int (ybc I q (by simp))
  | str j=>obtain ⟨t',rfl⟩:=ry;exact ne_str (ybc I q (congrArg not ypR))
  | _=>exact absurd (show false=true from hs) Bool.false_ne_true
 | byt i =>
  obtain ⟨t,rfl⟩:=rx
  cases y with
  | byt j=>obtain ⟨t',rfl⟩:=ry;exact PySem.W.ne_bytes (ybc I q (congrArg not ypS))
  | _=>exact absurd (show false=true from hs) Bool.false_ne_true
 | _=>cases y<;>exact absurd (show false=true from hs) Bool.false_ne_true
theorem ymb:OpR X (compareOp .Lt) (rI0 fun i j=>.bl (decide (i<j))):=yCr fun _ _ _ _ _ _ _ q=>lt_int q
theorem yiC:OpR X (compareOp .LtE) (rI0 fun i j=>.bl (decide (i<=j))):=yCr fun _ _ _ _ _ _ _ q=>le_int q
theorem ytf:OpR X (compareOp .Gt) (rI0 fun i j=>.bl (decide (j<i))):=yCr fun _ _ _ _ _ _ _ q=>gt_int q
theorem yCQ:OpR X (compareOp .GtE) (rI0 fun i j=>.bl (decide (j<=i))):=yCr fun _ _ _ _ _ _ _ q=>ge_int q
theorem ypT:OpR X (compareOp .In) (fun x y H Q=>∃ i j,x=.str i/\y=.str j/\Q (.bl (!(Builtin.Str.occurrences j i 0 j.length 1).isEmpty)) H):=by
 intro pins s σ H x y v u Q I rx ry h
 obtain ⟨i,j,rfl,rfl,q⟩:=h
 obtain ⟨t,rfl⟩:=rx
 obtain ⟨t',rfl⟩:=ry
 exact in_str (ybc I q rfl)
theorem ypU:OpR X (compareOp .Is) (fun x y H Q=>y=.non/\Q (.bl (decide (x=.non))) H):=by
 intro pins s σ H x y v u Q I rx ry h
 obtain ⟨rfl,q⟩:=h
 cases ry
 refine is_none_gen (ybc I q ?_)
 cases x<;>first
  | (cases rx;rfl)
  | (obtain ⟨t,rfl⟩:=rx;rfl)
theorem ywC:OpR X (compareOp .IsNot) (fun x y H Q=>y=.non/\Q (.bl (!decide (x=.non))) H):=by
 intro pins s σ H x y v u Q I rx ry h
 obtain ⟨rfl,q⟩:=h
 cases ry
 refine isnot_none_gen (ybc I q ?_)
 cases x<;>first
  | (cases rx;rfl)
  | (obtain ⟨t,rfl⟩:=rx;rfl)
theorem yns (b:Expr) {op:CmpOp}(h:op≠.In:=by decide) (h2:op≠.NotIn:=by decide):behindInMarks op b=false:=by
 have e1:(op == CmpOp.In)=false:=by cases op<;>first|rfl|exact absurd rfl h
 have e2:(op == CmpOp.NotIn)=false:=by cases op<;>first|rfl|exact absurd rfl h2
 cases b<;>simp [behindInMarks,e1,e2]
theorem ywD {op:CmpOp}{r:R2}(ho:OpR X (compareOp op) r) (ha:PE X a ta) (hb:PE X b tb) (hm:behindInMarks op b=false):PE X (.Compare a [op] [b] pos) (tOp r ta tb):=by
 intro pins s σ H Q I h
 exact wpAny_Compare1 (yCN ha hb I h fun v u s2 x y H2 I2 rx ry q=>ho pins s2 σ H2 x y v u Q I2 rx ry q) hm
def ywE (t:TE):TT:=fun σ H Q=>t σ H fun x H'=>∃ k,x=.bl k/\Q k H'
theorem ywF {op:CmpOp}{r:R2}(ho:OpR X (compareOp op) r) (ha:PE X a ta) (hb:PE X b tb) (hm:behindInMarks op b=false):PT X (.Compare a [op] [b] pos) (ywE (tOp r ta tb)):=by
 intro pins s σ H Q I h
 refine wpAny_isTrue_Compare1 (thn (ha pins s σ H _ I h) fun v s1 ⟨x,H1,I1,r1,q1⟩=>thn (hb pins s1 σ H1 _ I1 q1) fun u s2 ⟨y,H2,I2,r2,q2⟩ =>
  thn (ho pins s2 σ H2 x y v u _ I2 r1 r2 q2) fun c s3 ⟨z,H3,I3,r3,k,e,q3⟩=>?_) hm
 subst e
 cases r3
 exact wpAny_truthy_bool ⟨H3,I3,q3⟩
noncomputable def ypV (r r':R2) (ta tb tc:TE):TE:=fun σ H Q=>ta σ H fun x H1=>tb σ H1 fun y H2=>r x y H2 fun z H3=>∃ k,z=.bl k /\
 (if k=true then tc σ H3 fun w' H4=>r' y w' H4 Q else Q (.bl false) H3)
theorem ytg {op op':CmpOp}{r r':R2}(ho:OpR X (compareOp op) r) (ho':OpR X (compareOp op') r') (ha:PE X a ta) (hb:PE X b tb) (hc:PE X c tc)
  (hm:lastMarks [op,op'] [b,c]=false:=by with_unfolding_all rfl):PE X (.Compare a [op,op'] [b,c] pos) (ypV r r' ta tb tc):=by
 intro pins s σ H Q I h
 refine Compare_chain (thn (ha pins s σ H _ I h) fun v s1 ⟨x,H1,I1,r1,q1⟩=>chain_link (thn (hb pins s1 σ H1 _ I1 q1) fun u s2 ⟨y,H2,I2,r2,q2⟩ =>
  thn (ho pins s2 σ H2 x y v u _ I2 r1 r2 q2) fun d s3 ⟨z,H3,I3,r3,k,e,q3⟩=>?_)) hm
 subst e
 cases r3
 refine wpAny_truthy_bool ?_
 cases k with
 | false=>exact ite_ff ⟨.bl false,H3,I3,rfl,q3⟩
 | true=>exact ite_tt (chain_last (thn (hc pins s3 σ H3 _ I3 q3) fun w' s4 ⟨z',H4,I4,r4,q4⟩=>ho' pins s4 σ H4 y z' u w' Q I4 r2 r4 q4))
theorem yth {op op':CmpOp}{r r':R2}(ho:OpR X (compareOp op) r) (ho':OpR X (compareOp op') r') (ha:PE X a ta) (hb:PE X b tb) (hc:PE X c tc)
  (hm:lastMarks [op,op'] [b,c]=false:=by with_unfolding_all rfl):PT X (.Compare a [op,op'] [b,c] pos) (ywE (ypV r r' ta tb tc)):=by
 intro pins s σ H Q I h
 refine isTrue_chain (thn (ha pins s σ H _ I h) fun v s1 ⟨x,H1,I1,r1,q1⟩=>test_link (thn (hb pins s1 σ H1 _ I1 q1) fun u s2 ⟨y,H2,I2,r2,q2⟩ =>
  thn (ho pins s2 σ H2 x y v u _ I2 r1 r2 q2) fun d s3 ⟨z,H3,I3,r3,k,e,q3⟩=>?_)) hm
 subst e
 cases r3
 refine wpAny_truthy_bool ?_
 cases k with
 | false =>
  obtain ⟨k',e',q'⟩:=q3
  cases e'
  exact ite_ff ⟨H3,I3,q'⟩
 | true =>
  refine ite_tt (test_last (thn (hc pins s3 σ H3 _ I3 q3) fun w' s4 ⟨z',H4,I4,r4,q4⟩=>thn (ho' pins s4 σ H4 y z' u w' _ I4 r2 r4 q4) fun d' s5 ⟨z2,H5,I5,r5,k2,e2,q5⟩=>?_))
  subst e2
  cases r5
  exact wpAny_truthy_bool ⟨H5,I5,q5⟩
theorem yiR:(sizeLine:Nat)<2 ^ 63:=by rw [sizeLine_eq];decide
theorem yba:OpR X (binaryOp .Add) (fun x y H Q=>∃ i j,x=.str i/\y=.str j/\i.length+j.length<=sizeLine/\Q (.str (i++j)) H):=by
 intro pins s σ H x y v u Q I rx ry h
 obtain ⟨i,j,rfl,rfl,hz,q⟩:=h
 obtain ⟨t,rfl⟩:=rx
 obtain ⟨t',rfl⟩:=ry
 exact add_str (fun t' tk=>⟨.str (i++j),H,I.tok _,⟨_,rfl⟩,q⟩) hz
theorem vals1 {x:V}{us:List Value}(r:Vals [x] us):∃ u,us=[u]/\RelV x u:=by
 cases r with
 | cons r1 r2=>cases r2;exact ⟨_,rfl,r1⟩
theorem vals2 {x y:V}{us:List Value}(r:Vals [x,y] us):∃ u w',us=[u,w']/\RelV x u/\RelV y w':=by
 cases r with
 | cons r1 r2 =>
  cases r2 with
  | cons r3 r4=>cases r4;exact ⟨_,_,rfl,r1,r3⟩
theorem ygE:yfg X (.type "str") (fun xs H Q=>∃ i,xs=[.int i]/\i.natAbs.log2<1920/\Q (.str (toString i)) H):=by
 intro pins s σ H xs us Q I r h
 obtain ⟨i,rfl,hz,q⟩:=h
 obtain ⟨u,rfl,t,rfl⟩:=vals1 r
 exact PySem.P.str_of_int hz ⟨.str _,H,I.tok _,⟨_,rfl⟩,q⟩
end
end L2
namespace L2
open PySem PySem.Spec PyProof.Rows
structure ObjM (h:Heap) (x dx C:Addr) (mA:Str->Option Value):Prop where
 obj:h.get? x=some (instObj C dx)
 ns:h.Ns1 dx mA
 ne:dx≠x
theorem ypW {h:Heap}{dx:Addr}{mA:Str->Option Value}(n:h.Ns1 dx mA):∃ od,h.get? dx=some od/\∀ name,PySem.W.lookIn name od=some (mA name):=by
 obtain ⟨o,es,ep,ho,hd,hk,_,hm⟩:=n
 refine ⟨o,ho,fun name=>?_⟩
 have e:=hm name
 unfold nsFind findBy at e
 rw [<- Array.find?_toList] at e
 unfold PySem.W.lookIn
 rw [hd]
 dsimp only
 split
 .rename_i y q
  rw [q] at e
  exact congrArg some e
 .rename_i q
  rw [q] at e
  have a:es.toList.any (·.refKey)=false:=by
   rw [List.any_eq_false]
   intro y hy
   obtain ⟨z,t,hkey⟩:=hk y (Array.mem_toList_iff.mp hy)
   simp [DictEntry.refKey,hkey]
  have a':¬ es.toList.any (·.refKey)=true:=by rw [a];exact Bool.false_ne_true
  rw [if_neg a']
  exact congrArg some e
theorem ObjM.look {h:Heap}{x dx C:Addr}{mA:Str->Option Value}(I:ObjM h x dx C mA):∃ od,PySem.W.InstAt h x (instObj C dx) C (some od)/\∀ name,PySem.W.lookIn name od=some (mA name) :=
 let ⟨od,ho,hl⟩:=ypW I.ns
 ⟨od,⟨I.obj,rfl,rfl,ho⟩,hl⟩
section
variable {prog:Program}{w:World}{A:Around}{E:Value->Shared->Prop}{s:Shared}{K:PySem.W.Frag}{x dx C f:Addr}{mA:Str->Option Value}{name:Str}{v:Value}
theorem ywG {expr:Bool}{Q:Value->Shared->Prop}(X:K.In s.heap) (I:ObjM s.heap x dx C mA) (hg:plainGet K C name=true) (hh:hasDictIn K C=true)
  (ha:findIn K (.ref C) name=some none) (hv:mA name=some v) (hv':PySem.W.handedIn v=true) (h:Q v { s with toks:=s.toks+1 }) :
  wpAny (model prog w) A (getAttr (.ref x) name expr) Q E s:=by
 obtain ⟨od,J,hl⟩:=I.look
 exact PySem.W.get_value X J (PySem.W.plainGet_of hg).1 (PySem.W.findObj_own hh ha rfl (by rw [hl,hv])) hv' h
theorem yti {pl:Sem Bool}{Q:Value×List Value->Shared->Prop}(X:K.In s.heap) (I:ObjM s.heap x dx C mA) (hg:plainGet K C name=true)
  (hf:findIn K (.ref C) name=some (some (.ref f))) (ht:isFn K (.ref f)=true) (hv:mA name=none) (h:Q (.ref f,[.ref x]) s) :
  wpAny (model prog w) A (getMethod (.ref x) name pl) Q E s:=by
 obtain ⟨od,J,hl⟩:=I.look
 exact PySem.W.method_fn X J (PySem.W.plainGet_of hg).1 (PySem.W.plainGet_of hg).2 hf (beq_iff_eq.mp ht) (by show (PySem.W.lookIn name od).map (·.isSome)=some false;rw [hl,hv];rfl) h
theorem ywH {ns:List Str}{Q:Unit->Shared->Prop}(X:K.In s.heap) (I:ObjM s.heap x dx C mA)
  (hs:findIn K (.ref C) "__setattr__" = some (some (.builtin "object.__setattr__"))) (hp:PySem.W.plainOver K C=true) (ht:PySem.W.takerIn K C name=some none) (hh:hasDictIn K C=true)
  (hw:PySem.Within mA ns) (hsz:ns.length<=sizeLine)
  (h:∀ h',ObjM h' x dx C (fun y=>if y=name then some v else mA y)->Heap.SameBut dx s.heap h'->Q () { s with heap:=h',toks:=s.toks+2 }) :
  wpAny (model prog w) A (setAttr (.ref x) name v) Q E s:=by
 obtain ⟨od,J,hl⟩:=I.look
 refine PySem.W.set_plain X J hs (PySem.W.osa_open (s:={ s with toks:=s.toks+1 }) (r:=none) X J hp ht fun b=>?_)
 obtain ⟨cd,hc,hd'⟩:=PySem.W.any_some hh
 have hx:s.heap.get? x=some ⟨.ref C,some dx,.plain,#[]⟩:=I.obj
 refine wpAny_bind (wpAny_pure (wpAny_bind (wpAny_bind (wpAny_loadPart hx (wpAny_bind (PySem.W.Looks.here (s:={ s with toks:=s.toks+1 }) (PySem.W.looks_clsIn X hc) ?_))))))
 rw [hd']
 refine wpAny_pure (a:=some dx) (wpAny_bind (wpAny_pure (wpAny_bind ?_)))
 refine wpAny_nsSet1 (s:={ s with toks:=s.toks+1 }) I.ns fun h' hn2 hs2=>?_
 obtain ⟨oD,esD,epD,hoD,hdD,hcD⟩:=hn2.count (PySem.Within.cons name v hw)
 refine wpAny_bind (wpAny_lookBehind hoD (by rw [hdD];exact pastItsLine_dict (Nat.le_trans hcD (by rw [length_cons];omega))) ?_)
 exact wpAny_pure (h _ ⟨(hs2.2 _ (Ne.symm I.ne)).trans I.obj,hn2,I.ne⟩ hs2)
theorem ytj {R:Result->Shared->Prop}{vs:List Value}{kw:List (Str×Value)}(X:K.In s.heap) (hm:makesIn K C=true)
  (hi:findIn K (.ref C) "__init__" = some (some (.ref f))) (hf:typeIn K (.ref f)=some (.type "function"))
  (h:codeAny (model prog w) (A.under (.builtin "type.__call__" ⟨.ref C::vs,kw⟩)) (.call (.ref f) ⟨.ref (s.heap.objs.size+1)::vs,kw⟩) (PySem.W.InitBack (s.heap.objs.size+1) R)
   { s with heap:=(s.heap.push emptyDict).push (instObj C s.heap.objs.size) }) :
  codeAny (model prog w) A (.call (.ref C) ⟨vs,kw⟩) R s:=by
 obtain ⟨hh,g,d,t,os⟩:=s
 exact PySem.W.make_core (PySem.W.makes_of X hm) (PySem.W.looks_findIn X hi) (fun self=>PySem.W.bind_fn X self hf) (.inl rfl) h
end
def yiS (f:Str) (v:V):List (Str×V)->List (Str×V)
 | []=>[(f,v)]
 | (g,x)::r=>if g=f then (g,v)::r else (g,x)::yiS f v r
theorem yhr (f g:Str) (v:V):∀ fs:List (Str×V),(yiS f v fs).lookup g=if g=f then some v else fs.lookup g
 | []=>by
  show List.lookup g [(f,v)]=_
  by_cases h:g=f
  .have hb:(g == f)=true:=beq_iff_eq.mpr h
   simp only [List.lookup,hb,if_pos h]
  .have hb:(g == f)=false:=beq_eq_false_iff_ne.mpr h
   simp only [List.lookup,hb,if_neg h]
 | (k,x)::r=>by
  have ih:=yhr f g v r
  rw [show yiS f v ((k,x)::r)=(if k=f then (k,v)::r else (k,x)::yiS f v r) from rfl]
  by_cases hk:k=f
  .rw [if_pos hk]
   by_cases h:g=k
   .have hb:(g == k)=true:=beq_iff_eq.mpr h
    simp only [List.lookup,hb,if_pos (h.trans hk)]
   .have hb:(g == k)=false:=beq_eq_false_iff_ne.mpr h
    simp only [List.lookup,hb,if_neg (fun e:g=f=>h (e.trans hk.symm))]
  .rw [if_neg hk]
   by_cases h:g=k
   .have hb:(g == k)=true:=beq_iff_eq.mpr h
    simp only [List.lookup,hb,if_neg (fun e:g=f=>hk (h.symm.trans e))]
   .have hb:(g == k)=false:=beq_eq_false_iff_ne.mpr h
    simp only [List.lookup,hb]
    exact ih
theorem yhs (f:Str) (v:V):∀ fs:List (Str×V),f∈(yiS f v fs).map (·.1)/\∀ g,g∈fs.map (·.1)->g∈(yiS f v fs).map (·.1)
 | []=>⟨by simp [yiS],fun g h=>by simp at h⟩
 | (k,x)::r=>by
  obtain ⟨i1,i2⟩:=yhs f v r
  rw [show yiS f v ((k,x)::r)=(if k=f then (k,v)::r else (k,x)::yiS f v r) from rfl]
  by_cases hk:k=f
  .rw [if_pos hk]
   subst hk
   exact ⟨by simp,fun g h=>by simpa using h⟩
  .rw [if_neg hk]
   refine ⟨?_,fun g h=>?_⟩
   .rw [map_cons]
    exact mem_cons_of_mem _ i1
   .rw [map_cons] at h ⊢
    rcases mem_cons.mp h with e|e
    .exact mem_cons.mpr (.inl e)
    .exact mem_cons_of_mem _ (i2 g e)
theorem yht (f:Str) (v:V):∀ fs:List (Str×V),(yiS f v fs).length<=fs.length+1
 | []=>by simp [yiS]
 | (k,x)::r=>by
  have ih:=yht f v r
  rw [show yiS f v ((k,x)::r)=(if k=f then (k,v)::r else (k,x)::yiS f v r) from rfl]
  by_cases hk:k=f
  .rw [if_pos hk,length_cons,length_cons];omega
  .rw [if_neg hk,length_cons,length_cons];omega
theorem RelO.some_of {v:V}{o:Option Value}(r:RelO (some v) o):∃ u,o=some u/\RelV v u:=by
 cases o with
 | none=>exact (show False from r).elim
 | some u=>exact ⟨u,rfl,r⟩
theorem RelO.none_of {o:Option Value}(r:RelO none o):o=none:=by
 cases o with
 | none=>rfl
 | some u=>exact (show False from r).elim
theorem ypX {v:V}{u:Value}(r:RelV v u):PySem.W.handedIn u=true:=by
 cases v with
 | non=>cases (show u=Value.none from r);rfl
 | bl b=>cases (show u=Value.bool b from r);rfl
 | int i=>obtain ⟨t,e⟩:=(show ∃ t,u=Value.int i t from r);cases e;rfl
 | str x=>obtain ⟨t,e⟩:=(show ∃ t,u=Value.str x t from r);cases e;rfl
 | byt b=>obtain ⟨t,e⟩:=(show ∃ t,u=Value.bytes b t from r);cases e;rfl
 | flt b=>obtain ⟨t,e⟩:=(show ∃ t,u=Value.float b t from r);cases e;rfl
 | ref a=>cases (show u=Value.ref a from r);rfl
 | ty n=>cases (show u=Value.type n from r);rfl
section
variable {P:Program}{w:World}{H H':Hp}{h h':Heap}{a C dx:Addr}{fs fs':List (Str×V)}
theorem yjv (hok:HOk P w H h) (e:H a=some (.ins C dx fs)):∃ mA,ObjM h a dx C mA/\(∀ f,RelO (fs.lookup f) (mA f))/\PySem.Within mA (fs.map (·.1))/\fs.length<=1000/\H dx=some (.own a):=by
 obtain ⟨d,z,ne,ob,mA,n,r,q⟩:=(show ObjOk P w H h a (.ins C dx fs) from hok a _ e)
 exact ⟨mA,⟨ob,n,ne⟩,r,q,z,d⟩
end
structure Cls (K:PySem.W.Frag) (C:Addr):Prop where
 pg:plainGet K C Str.empty=true
 hd:hasDictIn K C=true
 po:PySem.W.plainOver K C=true
 sa:findIn K (.ref C) "__setattr__" = some (some (.builtin "object.__setattr__"))
theorem Cls.get {K:PySem.W.Frag}{C:Addr}(c:Cls K C) (f:Str):plainGet K C f=true:=c.pg
def NoAttr (K:PySem.W.Frag) (C:Addr) (f:Str):Prop:=findIn K (.ref C) f=some none
theorem NoAttr.taker {K:PySem.W.Frag}{C:Addr}{f:Str}(n:NoAttr K C f):PySem.W.takerIn K C f=some none:=by
 unfold PySem.W.takerIn
 rw [show findIn K (.ref C) f=some none from n]
 rfl
structure Meth (K:PySem.W.Frag) (C:Addr) (m:Str) (f:Addr):Prop where
 at_:findIn K (.ref C) m=some (some (.ref f))
 fn:isFn K (.ref f)=true
 kp:keepIn K (.ref f)=true
section
variable {X:Cx}{pins:List (Addr×Obj)}{σ:St}{H:Hp}{s:Shared}{a C dx:Addr}{fs:List (Str×V)}{f:Str}{v:V}{A:Around}{E:Value->Shared->Prop}
theorem yoJ {b:Bool}{Q:Value->Shared->Prop}(I:Inv X pins σ H s) (e:H a=some (.ins C dx fs)) (c:Cls X.K C) (n:NoAttr X.K C f) (l:fs.lookup f=some v)
  (h:∀ u s',Inv X pins σ H s'->RelV v u->Q u s'):wpAny (model X.prog X.w) A (getAttr (.ref a) f b) Q E s:=by
 obtain ⟨mA,O,r,_,_,_⟩:=yjv I.hok e
 obtain ⟨u,hu,ru⟩:=RelO.some_of (v:=v) (o:=mA f) (by rw [<- l];exact r f)
 exact ywG I.kIn O (c.get f) c.hd n hu (ypX ru) (h u _ (I.tok _) ru)
theorem ygc {m:Str}{g:Addr}{pl:Sem Bool}{Q:Value×List Value->Shared->Prop}(I:Inv X pins σ H s) (e:H a=some (.ins C dx fs)) (c:Cls X.K C) (k:Meth X.K C m g) (l:fs.lookup m=none)
  (h:Q (.ref g,[.ref a]) s):wpAny (model X.prog X.w) A (getMethod (.ref a) m pl) Q E s:=by
 obtain ⟨mA,O,r,_,_,_⟩:=yjv I.hok e
 have hn:mA m=none:=RelO.none_of (by rw [<- l];exact r m)
 exact yti I.kIn O (c.get m) k.at_ k.fn hn h
theorem yoK {y:V}{u:Value}{Q:Unit->Shared->Prop}(I:Inv X pins σ H s) (e:H a=some (.ins C dx fs)) (c:Cls X.K C) (n:NoAttr X.K C f) (hl:fs.length<1000) (ry:RelV y u)
  (h:∀ s',Inv X pins σ (upd H a (.ins C dx (yiS f y fs))) s'->Q () s'):wpAny (model X.prog X.w) A (setAttr (.ref a) f u) Q E s:=by
 obtain ⟨mA,O,r,wi,_,ho⟩:=yjv I.hok e
 have hz:(fs.map (·.1)).length<=sizeLine:=by rw [length_map,sizeLine_eq];omega
 refine ywH I.kIn O c.sa c.po n.taker c.hd wi hz fun h' O' sb=>h _ ?_
 have hd:∃ o,h'.get? dx=some o:=let ⟨o,_,_,e',_⟩:=O'.ns;⟨o,e'⟩
 refine I.write (x:=a) (e:=dx) (by rw [e];exact True.intro) (.inr ho) (fun b q hb z=>(sb.2 b hb).trans z) hd ?_
 refine ⟨by rw [yw O.ne];exact ho,?_,O.ne,O'.obj,_,O'.ns,fun g=>?_,fun g hg=>?_⟩
 .have:=yht f y fs;omega
 .show RelO ((yiS f y fs).lookup g) (if g=f then some u else mA g)
  rw [yhr]
  by_cases q:g=f
  .rw [if_pos q,if_pos q];exact ry
  .rw [if_neg q,if_neg q];exact r g
 .by_cases q:g=f
  .rw [q];exact (yhs f y fs).1
  .refine (yhs f y fs).2 g (wi g fun z=>hg ?_)
   show (if g=f then some u else mA g)=none
   rw [if_neg q];exact z
theorem Inv.made (I:Inv X pins σ H s):Inv X pins σ (upd (upd H s.heap.objs.size (.own (s.heap.objs.size+1))) (s.heap.objs.size+1) (.ins C s.heap.objs.size []))
  { s with heap:=(s.heap.push emptyDict).push (instObj C s.heap.objs.size) }:=by
 have e1:(s.heap.push emptyDict).get? s.heap.objs.size=some emptyDict:=Heap.get?_push_size s.heap rfl
 have e2:((s.heap.push emptyDict).push (instObj C s.heap.objs.size)).get? (s.heap.objs.size+1)=some (instObj C s.heap.objs.size):=by
  have:=Heap.get?_push_size (s.heap.push emptyDict) (o:=instObj C s.heap.objs.size) rfl
  rwa [Heap.size_push] at this
 have e3:(s.heap.push emptyDict).Ns s.heap.objs.size (fun _=>none):=⟨emptyDict,#[],_,e1,rfl,(fun e he=>absurd he (by simp)),fun _=>rfl⟩
 have I1:=I.laid (a:=s.heap.objs.size) (o:=.own (s.heap.objs.size+1)) (h':=s.heap.push emptyDict) (t':=s.toks) (fun b u q=>Heap.get?_push_of_some _ q) (Nat.le_refl _) ⟨_,e1⟩
 refine I1.laid (a:=s.heap.objs.size+1) (o:=.ins C s.heap.objs.size []) (t':=s.toks) (fun b u q=>Heap.get?_push_of_some _ q) (le_of_eq (Heap.size_push _ _)) ?_
 have ne:s.heap.objs.size≠s.heap.objs.size+1:=ne_of_lt (Nat.lt_succ_self _)
 refine ⟨by rw [yw ne,yn],zero_le _,ne,e2,fun _=>none,(Heap.Ns1.of_empty e3).at fun o q=>Heap.get?_push_of_some _ q,fun _=>True.intro,fun y hy=>absurd rfl hy⟩
theorem ywI {prog:Program}{w:World}{env:Env}{e:Expr}{f:Str}{pos:Pos}{s:Shared}{Q:Value->Shared->Prop}(hb:attributeBase e f env (eval e env)=eval e env)
  (h:wpAny (model prog w) A (eval e env) (fun o s₁=>wpAny (model prog w) A (getAttr o f true) Q E s₁) E s):wpAny (model prog w) A (eval (.Attribute e f pos) env) Q E s :=
 Attribute_any_ h (by rw [arm_eval_Attribute,hb])
end
noncomputable def yFq (K:PySem.W.Frag) (ta:TE) (f:Str):TE:=fun σ H Q=>ta σ H fun x H1=>∃ a C dx fs v,x=.ref a/\H1 a=some (.ins C dx fs)/\Cls K C/\NoAttr K C f/\fs.lookup f=some v/\Q v H1
noncomputable def yCR (K:PySem.W.Frag) (ta tv:TE) (f:Str):TS:=fun D σ H=>tv σ H fun y H1=>ta σ H1 fun x H2=>∃ a C dx fs,x=.ref a/\H2 a=some (.ins C dx fs)/\Cls K C/\NoAttr K C f/\fs.length<1000 /\
 D.nx σ (upd H2 a (.ins C dx (yiS f y fs)))
section
variable {X:Cx}{o e value:Expr}{f:Str}{pos pos' tpos:Pos}{ta tv:TE}
theorem yzQ (he:PE X e ta) (hb:attributeBase e f X.env (eval e X.env)=eval e X.env):PE X (.Attribute e f pos) (yFq X.K ta f):=by
 intro pins s σ H Q I h
 refine ywI hb (thn (he pins s σ H _ I h) fun u s1 ⟨x,H1,I1,rx,a,C,dx,fs,v,ex,ea,c,n,l,q⟩=>?_)
 subst ex
 obtain rfl:u=Value.ref a:=rx
 exact yoJ I1 ea c n l fun u' s2 I2 ru=>⟨v,H1,I2,ru,q⟩
theorem yvF (ha:PE X o ta) (hv:PE X value tv) (hs:swapsWith value (some (.Attribute o f pos')) pos.line X.env=pure false):PS X (.Assign [.Attribute o f pos'] value pos) (yCR X.K ta tv f):=by
 intro pins s σ H D I h
 refine plainObj_wpAny_Assign_Attribute (thn (hv pins s σ H _ I h) fun u s1 ⟨y,H1,I1,ry,q⟩=>thn (ha pins s1 σ H1 _ I1 q) fun ov s2 ⟨x,H2,I2,rx,a,C,dx,fs,ex,ea,c,n,l,q2⟩=>?_) hs
 subst ex
 obtain rfl:ov=Value.ref a:=rx
 exact yoK I2 ea c n l ry fun s3 I3=>⟨σ,_,I3,q2⟩
end
section
variable {X:Cx}{pins:List (Addr×Obj)}{σ:St}{H:Hp}{s:Shared}{A:Around}{E:Value->Shared->Prop}{Q:Value->Shared->Prop}{c:Value}{b:Bool}
inductive ynt (K:PySem.W.Frag) (H:Hp):V->Value->Prop where
 | non:ynt K H .non (.type "NoneType")
 | bl (x:Bool):ynt K H (.bl x) (.type "bool")
 | int (i:Int):ynt K H (.int i) (.type "int")
 | str (x:Str):ynt K H (.str x) (.type "str")
 | flt (x:UInt64):ynt K H (.flt x) (.type "float")
 | lst {a:Addr}{xs:List V}(e:H a=some (.lst xs)):ynt K H (.ref a) (.type "list")
 | frz {a:Addr}{o:Obj}{xs:List V}(e:H a=some (.frz o (.lst xs))):ynt K H (.ref a) (.type "list")
 | tup {a:Addr}{xs:List V}(e:H a=some (.tup xs)):ynt K H (.ref a) (.type "tuple")
 | kt {a:Addr}{o:Obj}(e:K.lookup a=some o) (c:o.cls=.type "tuple"):ynt K H (.ref a) (.type "tuple")
 | dK {a:Addr}{kvs:List (Key×V)}(e:H a=some (.dK kvs)):ynt K H (.ref a) (.type "dict")
 | dT {a:Addr}{kvs:List (List Key×V)}(e:H a=some (.dT kvs)):ynt K H (.ref a) (.type "dict")
 | ins {a C dx:Addr}{fs:List (Str×V)}(e:H a=some (.ins C dx fs)) (cl:Cls K C) (ha:findIn K (.ref C) "__class__" = some (some (.builtin "object.__class__")))
   (hn:PySem.W.specialIn K (.builtin "object.__class__") "__get__" = some (some (.builtin "getset_descriptor.__get__"))) (htk:PySem.W.takesIn K (.builtin "object.__class__")=some true)
   (hm:mroIn K C (.type "object")=some true):ynt K H (.ref a) (.ref C)
theorem ypY {x:V}{u t:Value}(I:Inv X pins σ H s) (rx:RelV x u) (ty:ynt X.K H x t) (e:PySem.W.kitOne X.K t c=some b) (h:∀ tk,Q (.bool b) { s with toks:=tk }) :
  wpAny (model X.prog X.w) A (call (.builtin "isinstance") [u,c]) Q E s:=by
 cases ty with
 | non=>cases (show u=Value.none from rx);exact kia_one PySem.W.kitx_none I.kIn True.intro e (fun z=>nomatch z) h
 | bl y=>cases (show u=Value.bool y from rx);exact kia_one PySem.W.kitx_bool I.kIn True.intro e (fun z=>nomatch z) h
 | int i=>obtain ⟨t,q⟩:=(show ∃ t,u=Value.int i t from rx);cases q;exact kia_one PySem.W.kitx_int I.kIn True.intro e (fun z=>nomatch z) h
 | str y=>obtain ⟨t,q⟩:=(show ∃ t,u=Value.str y t from rx);cases q;exact kia_one PySem.W.kitx_str I.kIn True.intro e (fun z=>nomatch z) h
 | flt y=>obtain ⟨t,q⟩:=(show ∃ t,u=Value.float y t from rx);cases q;exact kia_one PySem.W.kitx_float I.kIn True.intro e (fun z=>nomatch z) h
 | @lst a xs ea =>
  cases (show u=Value.ref a from rx)
  obtain ⟨_,_,n,_,h1⟩:=(show ObjOk X.prog X.w H s.heap a (.lst xs) from I.hok a _ ea)
  exact kia_one PySem.W.kitx_list I.kIn ⟨_,h1,rfl⟩ e (fun z=>nomatch z) h
 | @frz a ob xs ea =>
  cases (show u=Value.ref a from rx)
  obtain ⟨_,_,_,n,_,h1⟩:=(show ObjOk X.prog X.w H s.heap a (.frz ob (.lst xs)) from I.hok a _ ea)
  exact kia_one PySem.W.kitx_list I.kIn ⟨_,h1,rfl⟩ e (fun z=>nomatch z) h
 | @tup a xs ea =>
  cases (show u=Value.ref a from rx)
  obtain ⟨_,_,_,p⟩:=(show ObjOk X.prog X.w H s.heap a (.tup xs) from I.hok a _ ea)
  obtain ⟨o,h1,h2,_⟩:=p
  exact kia_one PySem.W.kitx_tuple I.kIn ⟨o,h1,h2⟩ e (fun z=>nomatch z) h
 | @kt a ob ek ck =>
  cases (show u=Value.ref a from rx)
  exact kia_one PySem.W.kitx_tuple I.kIn ⟨ob,I.kIn a ob ek,ck⟩ e (fun z=>nomatch z) h
 | @dK a kvs ea =>
  cases (show u=Value.ref a from rx)
  obtain ⟨_,_,vs,_,p⟩:=(show ObjOk X.prog X.w H s.heap a (.dK kvs) from I.hok a _ ea)
  obtain ⟨o,es,ep,h1,h2,_⟩:=p
  exact kia_one PySem.W.kitx_dict I.kIn ⟨o,h1,h2.1⟩ e (fun z=>nomatch z) h
 | @dT a kvs ea =>
  cases (show u=Value.ref a from rx)
  obtain ⟨_,_,xs,_,o,es,ep,h1,h2,_⟩:=(show ObjOk X.prog X.w H s.heap a (.dT kvs) from I.hok a _ ea)
  exact kia_one PySem.W.kitx_dict I.kIn ⟨o,h1,h2.1⟩ e (fun z=>nomatch z) h
 | @ins a C dx fs ea cl ha hn htk hm =>
  cases (show u=Value.ref a from rx)
  obtain ⟨mA,O,_⟩:=yjv I.hok ea
  obtain ⟨od,J,_⟩:=O.look
  exact kia_one (PySem.W.kitx_own (cl.get _) cl.hd ha hn htk hm) I.kIn J e (fun z=>nomatch z) h
end
end L2
namespace L2
open PySem PySem.Spec PyProof.Rows
structure Room (k:Nat) (A:Around):Prop where
 hd:A.handled=none
 dp:A.depth+3*k+5<recursionLimit
 un:A.units+16*k+200<cLine
theorem Room.mono {j k:Nat}{A:Around}(r:Room k A) (h:j<=k):Room j A:=⟨r.hd,by have:=r.dp;omega,by have:=r.un;omega⟩
theorem Room.deeper {k:Nat}{A:Around}(r:Room (k+1) A) (env:Env):Room k (A.deeper env) :=
 ⟨r.hd,by have:=r.dp;show A.depth+1+3*k+5<_;omega,by have:=r.un;show A.units+3+16*k+200<_;omega⟩
theorem yoL {A:Around}{C:Addr}{us:List Value}{kw:List (Str×Value)}:(A.under (.builtin "type.__call__" ⟨.ref C::us,kw⟩)).depth=A.depth+1:=by
 first|rfl|simp [Around.under,Code.weight,Code.isCreation,Code.isGuard,Code.isCaller,Code.frames,Code.isFrame,guardIds]
theorem yoM {A:Around}{C:Addr}{us:List Value}{kw:List (Str×Value)}:(A.under (.builtin "type.__call__" ⟨.ref C::us,kw⟩)).units=A.units+1:=by
 first|rfl|simp [Around.under,Code.cUnits,Code.frames,Code.isFrame]
theorem Room.make {k:Nat}{A:Around}(r:Room (k+1) A) (C:Addr) (us:List Value) (kw:List (Str×Value)):Room k (A.under (.builtin "type.__call__" ⟨.ref C::us,kw⟩)) :=
 ⟨r.hd,by have:=r.dp;rw [yoL];omega,by have:=r.un;rw [yoM];omega⟩
theorem Room.depth {k:Nat}{A:Around}(r:Room k A):A.depth<recursionLimit:=by have:=r.dp;omega
theorem Room.units {k:Nat}{A:Around}(r:Room k A):A.units+64<cLine:=by have:=r.un;omega
def ytk:TA:=fun _ H Q=>Q [] H
def ymc (ta:TE) (tr:TA):TA:=fun σ H Q=>ta σ H fun x H1=>tr σ H1 fun xs H2=>Q (x::xs) H2
section
variable {X:Cx}{e:Expr}{es:List Expr}{te:TE}{t:TA}{pos:Pos}
theorem ykA:PA X [] ytk:=fun _ _ _ _ H Q I h=>Calls.spliced_nil ⟨[],H,I,.nil,h⟩
theorem ygd (ha:PE X e te) (hr:PA X es t) (hs:starEach (e::es) X.env=(false,eval e X.env)::starEach es X.env:=by rfl):PA X (e::es) (ymc te t):=by
 intro pos pins s σ H Q I h
 rw [hs]
 show wpAny _ _ (spliced ((false,eval e X.env)::backTo pos (starEach es X.env))) _ _ s
 refine Calls.spliced_cons (thn (ha pins s σ H _ I h) fun u s1 ⟨x,H1,I1,r1,q1⟩=>?_)
 exact thn (hr pos pins s1 σ H1 _ I1 q1) fun us s2 ⟨xs,H2,I2,r2,q2⟩=>⟨x::xs,H2,I2,.cons r1 r2,q2⟩
def yFr (t:TA):TE:=fun σ H Q=>t σ H fun xs H1=>xs.length<=sizeLine/\∀ p,H1 p=none->Q (.ref p) (upd H1 p (.tup xs))
def yFs (t:TA):TE:=fun σ H Q=>t σ H fun xs H1=>xs.length<=sizeLine/\∀ p,H1 p=none->Q (.ref p) (upd H1 p (.lst xs))
theorem yzR {x1} (h:PA X es t):PE X (.Tuple es x1 pos) (yFr t):=by
 intro pins s σ H Q I hq
 refine wpAny_Tuple_spliced (thn (h pos pins s σ H _ I hq) fun us s1 ⟨xs,H1,I1,r,z,q⟩=>⟨by rw [<- r.length];exact z,?_⟩)
 have hf:H1 s1.heap.objs.size=none:=I1.hok.fresh (Nat.le_refl _)
 refine ⟨.ref s1.heap.objs.size,upd H1 s1.heap.objs.size (.tup xs),I1.laid (t':=s1.toks) (fun b u e=>Heap.get?_push_of_some _ e) (Nat.le_refl _) ?_,rfl,q _ hf⟩
 exact ⟨z,us,r,⟨_,Heap.get?_push_size _ rfl,rfl,_,rfl⟩⟩
theorem yzS (h:PA X es t):PE X (.List es pos) (yFs t):=by
 intro pins s σ H Q I hq
 refine wpAny_List_spliced (thn (h pos pins s σ H _ I hq) fun us s1 ⟨xs,H1,I1,r,z,q⟩=>⟨by rw [<- r.length];exact z,?_⟩)
 have hf:H1 s1.heap.objs.size=none:=I1.hok.fresh (Nat.le_refl _)
 refine ⟨.ref s1.heap.objs.size,upd H1 s1.heap.objs.size (.lst xs),I1.laid (t':=s1.toks) (fun b u e=>Heap.get?_push_of_some _ e) (Nat.le_refl _) ?_,rfl,q _ hf⟩
 exact ⟨z,us,0,r,Heap.get?_push_size _ rfl⟩
end
abbrev Sp:=List V->Hp->VK->XK->Prop
abbrev CXT:=List Env->Hp->Shared->XK->Value->Shared->Prop
structure Env0 (P:Program) (w:World) (K:PySem.W.Frag) (mg:Str->Option Value) (base:Heap) (A:Around) (outer:List Env) (s:Shared) (H:Hp):Prop where
 frames:A.frames=some outer
 mod:Mod K mg base
 bs:∀ b o,base.get? b=some o->s.heap.get? b=some o/\H b=none
 bsz:base.objs.size<=s.heap.objs.size
 funs:s.heap.FunFrames base outer
 frf:∀ b∈frs outer,H b=none
 hok:HOk P w H s.heap
 bare:AllBare s.gens
def CE (outer:List Env) (P:Program) (w:World) (H:Hp) (s:Shared) (Q:VK) (u:Value) (s':Shared):Prop :=
 ∃ v H',s'.os=s.os/\AllBare s'.gens/\Un (frs outer) [] H H' s.heap s'.heap/\HOk P w H' s'.heap/\RelV v u/\Q v H'
def CR (CX:CXT) (outer:List Env) (P:Program) (w:World) (H:Hp) (s:Shared) (Q:VK) (E:XK) (r:Result) (s':Shared):Prop :=
 match r with
 | .ok (.ret u)=>CE outer P w H s Q u s'
 | .ok _=>False
 | .error e=>CX outer H s E e s'
structure FnOk (P:Program) (w:World) (K:PySem.W.Frag) (mg:Str->Option Value) (base:Heap) (CX:CXT) (k:Nat) (f:Addr) (fd:FuncData) (ps:List Str) (sp:Sp):Prop where
 len:∀ vs H Q E,sp vs H Q E->vs.length=ps.length
 run:∀ (A:Around) (outer:List Env) (s:Shared) (H:Hp) (args:Args) (us:List Value) (vs:List V) (Q:VK) (E:XK),Room k A->Env0 P w K mg base A outer s H->BindsTo s fd args (ps.zip us)->Vals vs us->sp vs H Q E ->
  codeAny (model P w) A (.call (.ref f) args) (CR CX outer P w H s Q E) s
theorem FnOk.mono {P:Program}{w:World}{K:PySem.W.Frag}{mg:Str->Option Value}{base:Heap}{CX:CXT}{j k:Nat}{f:Addr}{fd:FuncData}{ps:List Str}{sp:Sp}(F:FnOk P w K mg base CX j f fd ps sp) (h:j<=k) :
  FnOk P w K mg base CX k f fd ps sp:=⟨F.len,fun A outer s H args us vs Q E hr=>F.run A outer s H args us vs Q E (hr.mono h)⟩
theorem FnOk.imp {P:Program}{w:World}{K:PySem.W.Frag}{mg:Str->Option Value}{base:Heap}{CX:CXT}{k:Nat}{f:Addr}{fd:FuncData}{ps:List Str}{sp sp':Sp}(F:FnOk P w K mg base CX k f fd ps sp)
  (h:∀ vs H Q E,sp' vs H Q E->sp vs H Q E):FnOk P w K mg base CX k f fd ps sp' :=
 ⟨fun vs H Q E q=>F.len vs H Q E (h _ _ _ _ q),fun A outer s H args us vs Q E hr he hb hv hs=>F.run A outer s H args us vs Q E hr he hb hv (h _ _ _ _ hs)⟩
theorem Env0.make {P:Program}{w:World}{K:PySem.W.Frag}{mg:Str->Option Value}{base:Heap}{A:Around}{outer:List Env}{s:Shared}{H:Hp}(e:Env0 P w K mg base A outer s H) (C:Addr) (us:List Value) (kw:List (Str×Value)) :
  Env0 P w K mg base (A.under (.builtin "type.__call__" ⟨.ref C::us,kw⟩)) outer s H:=⟨by first|exact e.frames|(simpa [Around.under,Code.envs,Code.isFrame,pushEnvs] using e.frames),e.mod,e.bs,e.bsz,e.funs,e.frf,e.hok,e.bare⟩
section
variable {X:Cx}{pins:List (Addr×Obj)}{σ:St}{H:Hp}{s s':Shared}
theorem Inv.env0 (I:Inv X pins σ H s):Env0 X.prog X.w X.K X.mg X.base X.A X.stack s H :=
 ⟨I.ok.frames,I.ok.mod,I.bs,Nat.le_trans I.ok.bsz I.sz,I.stack,I.stkFree,I.hok,I.bare⟩
theorem Inv.after {Q:VK}{u:Value}(I:Inv X pins σ H s) (h:CE X.stack X.prog X.w H s Q u s'):EP X pins σ Q u s':=by
 obtain ⟨v,H',os,bare,un,hok,r,q⟩:=h
 obtain ⟨hh,g,d,t,os'⟩:=s'
 obtain rfl:os'=s.os:=os
 exact ⟨v,H',I.call (h':=hh) (g':=g) (d':=d) (t':=t) (ch:=[]) un hok bare (fun b z=>absurd z (by simp)),r,q⟩
end
def ytl (sp:Sp) (dvs:List V) (E:XK) (t:TA):TE:=fun σ H Q=>t σ H fun vs H1=>sp (vs++dvs) H1 Q E
noncomputable def ywJ (C:Addr) (m:Str) (sp:Sp) (dvs:List V) (E:XK) (ta:TE) (t:TA):TE:=fun σ H Q=>ta σ H fun x H1=>∃ a dx fs,x=.ref a/\H1 a=some (.ins C dx fs)/\fs.lookup m=none /\
 t σ H1 fun vs H2=>sp (x::(vs++dvs)) H2 Q E
noncomputable def ytm (C:Addr) (sp:Sp) (dvs:List V) (E:XK) (t:TA):TE:=fun σ H Q=>t σ H fun vs H1=>∀ x dx,H1 x=none->H1 dx=none->dx≠x ->
 sp (.ref x::(vs++dvs)) (upd (upd H1 dx (.own x)) x (.ins C dx [])) (fun v H2=>v=.non/\Q (.ref x) H2) E
noncomputable def Binds (K:PySem.W.Frag) (fd:FuncData) (ps:List Str) (ds:List Value):Prop :=
 ∀ (s:Shared) (us:List Value),K.In s.heap->(us++ds).length=ps.length->BindsTo s fd ⟨us,[]⟩ (ps.zip (us++ds))
theorem Binds.all {K:PySem.W.Frag}{fd:FuncData}{ps:List Str}(h:∀ us:List Value,us.length=ps.length->bindArgs fd ⟨us,[]⟩=pure (ps.zip us)):Binds K fd ps []:=fun s us _ hl=>by
 rw [append_nil] at hl ⊢
 exact .of_eq (h us hl)
noncomputable def yfy (CX:CXT) (X:Cx) (E:XK):Prop:=∀ (pins:List (Addr×Obj)) (σ:St) (H:Hp) (s:Shared) (e:Value) (s':Shared),Inv X pins σ H s->CX X.stack H s E e s'->X.xe e s'
section
variable {X:Cx}{CX:CXT}{k:Nat}{f C:Addr}{fd:FuncData}{ps:List Str}{sp:Sp}{dvs:List V}{ds:List Value}{E:XK}{x m:Str}{p pos apos:Pos}{e o:Expr}{es:List Expr}{ta:TE}{t:TA}
theorem ykB {pins:List (Addr×Obj)}{σ:St}{H:Hp}{s:Shared}{Q:VK}{us:List Value}{vs:List V}(F:FnOk X.prog X.w X.K X.mg X.base CX k f fd ps sp) (hr:Room k X.A) (hb:Binds X.K fd ps ds) (hd:Vals dvs ds) (hx:yfy CX X E)
  (I:Inv X pins σ H s) (r:Vals vs us) (h:sp (vs++dvs) H Q E):wpAny (model X.prog X.w) X.A (call (.ref f) us) (EP X pins σ Q) X.xe s:=by
 have r2:Vals (vs++dvs) (us++ds):=r.append hd
 have hl:(us++ds).length=ps.length:=by rw [<- r2.length];exact F.len _ _ _ _ h
 refine wpAny_call (codeAny_mono (F.run X.A X.stack s H ⟨us,[]⟩ (us++ds) (vs++dvs) Q E hr I.env0 (hb s us I.kIn hl) r2 h) fun r s' hq=>?_)
 cases r with
 | error e=>exact hx pins σ H s e s' I hq
 | ok fl =>
  cases fl with
  | ret u=>exact I.after hq
  | next=>exact False.elim hq
  | brk=>exact False.elim hq
  | cont=>exact False.elim hq
theorem ywK (F:FnOk X.prog X.w X.K X.mg X.base CX k f fd ps sp) (hr:Room k X.A) (hg:Gl X x) (hm:X.mg x=some (.ref f)) (hk:keepIn X.K (.ref f)=true) (hb:Binds X.K fd ps ds) (hd:Vals dvs ds) (hx:yfy CX X E)
  (ha:PA X (e::es) t) (hdb:(x == ("__debug__":Str))=false:=by decide) (he:starEach (e::es) X.env=(false,eval e X.env)::starEach es X.env:=by rfl) (hpl:(backTo pos (starEach es X.env)).any (·.1)=false:=by rfl) :
  PE X (.Call (.Name x p) (e::es) [] pos) (ytl sp dvs E t):=by
 intro pins s σ H Q I h
 refine wpAny_Call_Name_kw (yhq I hg hm ?_ hdb)
 refine PySem.W.callWith_K (h₀:=X.base) I.ok.mod.kin hk (thn (ha pos pins s σ H _ I h) fun us s1 ⟨vs,H1,I1,r,q⟩=>⟨I1.kIn,?_⟩) he hpl
 exact ykB F hr hb hd hx I1 r q
theorem ywL {pl:Sem Bool}(he:PE X o ta) (c:Cls X.K C) (hm:Meth X.K C m f) (F:FnOk X.prog X.w X.K X.mg X.base CX k f fd ps sp) (hr:Room k X.A) (hb:Binds X.K fd ps ds) (hd:Vals dvs ds) (hx:yfy CX X E) (ha:PA X (e::es) t)
  (hst:starEach (e::es) X.env=(false,eval e X.env)::starEach es X.env:=by rfl) (hpl:(backTo pos (starEach es X.env)).any (·.1)=false:=by rfl)
  (ht:eval (.Call (.Attribute o m apos) (e::es) [] pos) X.env=(do
   let ov <- eval o X.env
   standAt apos.atName
   let (f,first) <- holding [ov] (getMethod ov m pl)
   callWith pos f first (backTo pos (starEach (e::es) X.env)) (backToKw pos (keywordEach [] X.env))):=by rfl) :
  PE X (.Call (.Attribute o m apos) (e::es) [] pos) (ywJ C m sp dvs E ta t):=by
 intro pins s σ H Q I h
 refine PySem.W.methodCall_KW (pl:=pl) (thn (he pins s σ H _ I h) fun u s1 ⟨x,H1,I1,rx,a,dx,fs,ex,ea,l,q⟩=>?_) ht
 subst ex
 obtain rfl:u=Value.ref a:=rx
 refine ygc I1 ea c hm l ?_
 refine PySem.W.callWith_K (first:=[.ref a]) (h₀:=X.base) I.ok.mod.kin hm.kp (thn (ha pos pins s1 σ H1 _ I1 q) fun us s2 ⟨vs,H2,I2,r,q2⟩=>⟨I2.kIn,?_⟩) hst hpl
 exact ykB (us:=.ref a::us) (vs:=.ref a::vs) F hr hb hd hx I2 (.cons rfl r) q2
theorem ytn {pl:Sem Bool}(he:PE X o ta) (c:Cls X.K C) (hm:Meth X.K C m f) (F:FnOk X.prog X.w X.K X.mg X.base CX k f fd ps sp) (hr:Room k X.A) (hb:Binds X.K fd ps ds) (hd:Vals dvs ds) (hx:yfy CX X E)
  (ht:eval (.Call (.Attribute o m apos) [] [] pos) X.env=(do
   let ov <- eval o X.env
   standAt apos.atName
   let (f,first) <- holding [ov] (getMethod ov m pl)
   callWith pos f first (backTo pos (starEach [] X.env)) (backToKw pos (keywordEach [] X.env))):=by rfl) :
  PE X (.Call (.Attribute o m apos) [] [] pos) (ywJ C m sp dvs E ta ytk):=by
 intro pins s σ H Q I h
 refine PySem.W.methodCall_KW (pl:=pl) (thn (he pins s σ H _ I h) fun u s1 ⟨x,H1,I1,rx,a,dx,fs,ex,ea,l,q⟩=>?_) ht
 subst ex
 obtain rfl:u=Value.ref a:=rx
 refine ygc I1 ea c hm l ?_
 exact PySem.W.callWith_K0 (first:=[.ref a]) I1.kIn hm.kp (ykB (us:=[.ref a]) (vs:=[.ref a]) F hr hb hd hx I1 (.cons rfl .nil) q)
structure Mk (K:PySem.W.Frag) (C f:Addr):Prop where
 makes:makesIn K C=true
 init:findIn K (.ref C) "__init__" = some (some (.ref f))
 fn:isFn K (.ref f)=true
 kp:keepIn K (.ref C)=true
theorem ynu {pins:List (Addr×Obj)}{σ:St}{H:Hp}{s:Shared}{Q:VK}{us:List Value}{vs:List V}(M:Mk X.K C f) (F:FnOk X.prog X.w X.K X.mg X.base CX k f fd ps sp) (hr:Room (k+1) X.A) (hb:Binds X.K fd ps ds) (hd:Vals dvs ds)
  (hx:yfy CX X E) (I:Inv X pins σ H s) (r:Vals vs us)
  (h:∀ x dx,H x=none->H dx=none->dx≠x->sp (.ref x::(vs++dvs)) (upd (upd H dx (.own x)) x (.ins C dx [])) (fun v H2=>v=.non/\Q (.ref x) H2) E) :
  wpAny (model X.prog X.w) X.A (call (.ref C) us) (EP X pins σ Q) X.xe s:=by
 have hq:=h (s.heap.objs.size+1) s.heap.objs.size (I.hok.fresh (Nat.le_succ _)) (I.hok.fresh (Nat.le_refl _)) (ne_of_lt (Nat.lt_succ_self _))
 have I2:=Inv.made (C:=C) I
 have r2:Vals (V.ref (s.heap.objs.size+1)::(vs++dvs)) (Value.ref (s.heap.objs.size+1)::(us++ds)):=.cons rfl (r.append hd)
 have hl:(Value.ref (s.heap.objs.size+1)::us++ds).length=ps.length:=by
  have e:=r2.length
  rw [F.len _ _ _ _ hq] at e
  exact e.symm
 refine wpAny_call (ytj (f:=f) I.kIn M.makes M.init (beq_iff_eq.mp M.fn) (codeAny_mono (F.run _ X.stack _ _ ⟨Value.ref (s.heap.objs.size+1)::us,[]⟩ (Value.ref (s.heap.objs.size+1)::(us++ds)) _ _ E (hr.make C us [])
  (I2.env0.make C us []) (hb _ (Value.ref (s.heap.objs.size+1)::us) I2.kIn hl) r2 hq) fun r s' hq'=>?_))
 cases r with
 | error e=>exact hx pins σ _ _ e s' I2 hq'
 | ok fl =>
  cases fl with
  | ret u =>
   obtain ⟨v,H',I3,rv,ev,q3⟩:=I2.after hq'
   subst ev
   exact ⟨rv,⟨V.ref (s.heap.objs.size+1),H',I3,rfl,q3⟩⟩
  | next=>exact False.elim hq'
  | brk=>exact False.elim hq'
  | cont=>exact False.elim hq'
theorem ypZ (M:Mk X.K C f) (F:FnOk X.prog X.w X.K X.mg X.base CX k f fd ps sp) (hr:Room (k+1) X.A) (hg:Gl X x) (hm:X.mg x=some (.ref C)) (hb:Binds X.K fd ps ds) (hd:Vals dvs ds) (hx:yfy CX X E)
  (ha:PA X (e::es) t) (hdb:(x == ("__debug__":Str))=false:=by decide) (he:starEach (e::es) X.env=(false,eval e X.env)::starEach es X.env:=by rfl) (hpl:(backTo pos (starEach es X.env)).any (·.1)=false:=by rfl) :
  PE X (.Call (.Name x p) (e::es) [] pos) (ytm C sp dvs E t):=by
 intro pins s σ H Q I h
 refine wpAny_Call_Name_kw (yhq I hg hm ?_ hdb)
 refine PySem.W.callWith_K (h₀:=X.base) I.ok.mod.kin M.kp (thn (ha pos pins s σ H _ I h) fun us s1 ⟨vs,H1,I1,r,q⟩=>⟨I1.kIn,?_⟩) he hpl
 exact ynu M F hr hb hd hx I1 r q
theorem yto (M:Mk X.K C f) (F:FnOk X.prog X.w X.K X.mg X.base CX k f fd ps sp) (hr:Room (k+1) X.A) (hg:Gl X x) (hm:X.mg x=some (.ref C)) (hb:Binds X.K fd ps ds) (hd:Vals dvs ds) (hx:yfy CX X E)
  (hdb:(x == ("__debug__":Str))=false:=by decide):PE X (.Call (.Name x p) [] [] pos) (ytm C sp dvs E ytk):=by
 intro pins s σ H Q I h
 refine wpAny_Call_Name_kw (yhq I hg hm ?_ hdb)
 exact PySem.W.callWith_K0 I.kIn M.kp (ynu (us:=[]) M F hr hb hd hx I .nil h)
end
section
variable {X:Cx}{CX:CXT}{k:Nat}{f C:Addr}{fd:FuncData}{ps ks:List Str}{sp:Sp}{E:XK}{x m:Str}{p pos apos kpos:Pos}{e o:Expr}{es:List Expr}{kws:List Keyword}{te ta:TE}{t tk:TA}{nm:Option Str}
variable {g:List Value->List Value->List Value}{gV:List V->List V->List V}
end
structure ydV (N P:List Str) (sc:Scope):Prop where
 kind:sc.kind=.function
 co:sc.isCoroutine=false
 gen:sc.isGenerator=false
 nd:N.Nodup
 pre:N.take P.length=P
 par:∀ x∈P,sc.names.lookup x=some .local \/ sc.names.lookup x=some .cell
 nofree:∀ y∈sc.names,y.2≠.free
theorem ykC {kindOf:Str->Option NameKind}{x:Str}:∀ {binds:List (Str×Value)}{m:Str->Option Value},(∀ v,(x,v)∉binds)->bindL kindOf binds m x=m x
 | [],_,_=>rfl
 | (n,v)::r,m,h=>by
  unfold bindL
  rw [ykC fun w hw=>h w (mem_cons_of_mem _ hw)]
  split
  .have:x≠n:=by rintro rfl;exact h v mem_cons_self
   simp [this]
  .rfl
theorem ykD {kindOf:Str->Option NameKind}{x:Str}:∀ {binds:List (Str×Value)}{m:Str->Option Value},(∀ v,(x,v)∉binds)->bindC kindOf binds m x=m x
 | [],_,_=>rfl
 | (n,v)::r,m,h=>by
  unfold bindC
  rw [ykD fun w hw=>h w (mem_cons_of_mem _ hw)]
  split
  .rfl
  .have:x≠n:=by rintro rfl;exact h v mem_cons_self
   simp [this]
theorem ykE {kindOf:Str->Option NameKind}{x:Str}{v:Value}:∀ {P:List Str}{vs:List Value}{i:Nat}{m:Str->Option Value},P.Nodup->P[i]?=some x->vs[i]?=some v->kindOf x=some .local ->
  bindL kindOf (P.zip vs) m x=some v
 | [],_,_,_,_,h,_,_=>by simp at h
 | _::_,[],_,_,_,_,h,_=>by simp at h
 | p::P,w::vs,0,m,nd,h1,h2,hk=>by
  simp at h1 h2;subst h1;subst h2
  show bindL kindOf ((p,w)::P.zip vs) m p=_
  unfold bindL
  rw [ykC fun v hv=>(List.nodup_cons.mp nd).1 (of_mem_zip hv).1,if_pos hk]
  simp
 | p::P,w::vs,i+1,m,nd,h1,h2,hk=>by
  show bindL kindOf ((p,w)::P.zip vs) m x=_
  unfold bindL
  exact ykE (i:=i) (List.nodup_cons.mp nd).2 (by simpa using h1) (by simpa using h2) hk
theorem ykF {kindOf:Str->Option NameKind}{x:Str}{v:Value}:∀ {P:List Str}{vs:List Value}{i:Nat}{m:Str->Option Value},P.Nodup->P[i]?=some x->vs[i]?=some v->kindOf x≠some .local ->
  bindC kindOf (P.zip vs) m x=some v
 | [],_,_,_,_,h,_,_=>by simp at h
 | _::_,[],_,_,_,_,h,_=>by simp at h
 | p::P,w::vs,0,m,nd,h1,h2,hk=>by
  simp at h1 h2;subst h1;subst h2
  show bindC kindOf ((p,w)::P.zip vs) m p=_
  unfold bindC
  rw [ykD fun v hv=>(List.nodup_cons.mp nd).1 (of_mem_zip hv).1,if_neg hk]
  simp
 | p::P,w::vs,i+1,m,nd,h1,h2,hk=>by
  show bindC kindOf ((p,w)::P.zip vs) m x=_
  unfold bindC
  exact ykF (i:=i) (List.nodup_cons.mp nd).2 (by simpa using h1) (by simpa using h2) hk
def start (N:List Str) (vs:List V):St:=vs.map some++replicate (N.length-vs.length) none
noncomputable def ytp (CX:CXT) (P:Program) (w:World) (K:PySem.W.Frag) (mg:Str->Option Value) (base:Heap) (N:List Str) (qual:Str) (scope:Scope) (f:Addr) (cd:Value) (A:Around) (outer:List Env) (s:Shared) (H:Hp) (E:XK):Cx where
 prog:=P
 w:=w
 K:=K
 mg:=mg
 base:=base
 A:=A.deeper (envOfC qual scope s.heap.objs.size f cd)
 N:=N
 s₀:=s
 H₀:=H
 env:=envOfC qual scope s.heap.objs.size f cd
 outer:=outer
 stack:=envOfC qual scope s.heap.objs.size f cd::outer
 ex:=[]
 calm:=true
 fn:=fun _=>true
 pn:=[]
 xe:=fun e s'=>wpAny (model P w) (A.deeper (envOfC qual scope s.heap.objs.size f cd)) (leaving (envOfC qual scope s.heap.objs.size f cd) e) (fun _ s''=>CX outer H s E e s'') (fun e' s''=>CX outer H s E e' s'') s'
theorem ynv {sc:Scope}{n:Nat}{x:Str}(h:sc.names.lookup x=some .cell):∃ c,(cellsFrom n sc.names []).lookup x=some c:=by
 have q:=PySem.W.cellsFrom_some sc.names n [] (.inl h)
 exact Option.isSome_iff_exists.mp q
theorem yqa {CX:CXT}{P:Program}{w:World}{K:PySem.W.Frag}{mg:Str->Option Value}{base:Heap}{N ps:List Str}{qual:Str}{scope:Scope}{f:Addr}{cd:Value}{A:Around}{outer:List Env}{s s1:Shared}{H:Hp}{E:XK}{us:List Value}{vs:List V}
  (S:ydV N ps scope) (hd:A.handled=none) (e0:Env0 P w K mg base A outer s H) (hl:vs.length=ps.length) (r:Vals vs us)
  (x:InCallC s s.heap.objs.size (bindL (envOfC qual scope s.heap.objs.size f cd).kindOf (ps.zip us) fun _=>none) (cellsFrom (s.heap.objs.size+1) scope.names []) (bindC (envOfC qual scope s.heap.objs.size f cd).kindOf (ps.zip us) fun _=>none) s1) :
  Inv (ytp CX P w K mg base N qual scope f cd A outer s H E) [] (start N vs) H s1:=by
 have hpl:ps.length<=N.length:=by have:=congrArg length S.pre;rw [length_take] at this;omega
 obtain ⟨h1,tk,rfl,hk⟩:=x.done
 have noA:∀ b:Addr,b∉(ytp CX P w K mg base N qual scope f cd A outer s H E).ex:=fun b z=>absurd (show b∈([]:List Addr) from z) (by simp)
 refine ⟨⟨e0.mod,S.kind,rfl,rfl,Nat.le_refl _,fun y z c h1 h2=>?_,fun y hy=>?_,fun y c _ h=>?_,fun _=>hd,Around.frames_deeper e0.frames,.inr ⟨rfl,rfl⟩,fun b z=>absurd z (noA b),e0.bs,e0.bsz,fun b _ _=>noA b,fun b z=>absurd z (noA b),e0.funs,e0.frf⟩,
  rfl,e0.bare,Un.kept hk,⟨_,x.toInCall.ns,fun i y v h1 h2 h3=>?_⟩,fun y c h=>⟨_,x.cell y c h⟩,e0.hok.fresh (Nat.le_refl _),fun y c h=>?_,fun p hp=>absurd (show p∈([]:List (Addr×Obj)) from hp) (by simp),e0.hok.kept hk,?_⟩
 .exact name_of_addr x.apart (PySem.mem_of_lookup h1) (PySem.mem_of_lookup h2)
 .have hy:scope.names.lookup y=some .cell\/scope.names.lookup y=some .free:=hy
  rcases hy with hy|hy
  .exact ynv hy
  .exact absurd rfl (S.nofree _ (PySem.mem_of_lookup hy))
 .exact le_of_lt (x.above y c (PySem.mem_of_lookup h))
 .have hi:i<vs.length:=by
   unfold start at h2
   by_cases hi:i<vs.length
   .exact hi
   .rw [getElem?_append_right (by simpa using hi)] at h2
    rw [getElem?_replicate] at h2
    split at h2<;>cases h2
  have ha:vs[i]?=some v:=by
   unfold start at h2
   rw [getElem?_append_left (by simpa using hi),getElem?_map] at h2
   cases e:vs[i]? with
   | none=>rw [e] at h2;cases h2
   | some a=>rw [e] at h2;cases h2;rfl
  obtain ⟨u,hu,rv⟩:=r.get ha
  have hp:ps[i]?=some y:=by
   rw [<- S.pre,List.getElem?_take_of_lt (by omega)];exact h1
  have ndP:ps.Nodup:=by rw [<- S.pre];exact S.nd.sublist (List.take_sublist _ _)
  refine ⟨u,rv,?_⟩
  rcases S.par y (mem_of_getElem? hp) with k|k
  .exact .inl ⟨k,ykE ndP hp hu k⟩
  .obtain ⟨c,e⟩:=ynv (n:=s.heap.objs.size+1) k
   refine .inr ⟨.inl k,c,e,?_⟩
   have q:=x.cell y c e
   rw [ykF ndP hp hu (by show scope.names.lookup y≠_;rw [k];decide)] at q
   exact q
 .exact e0.hok.fresh (le_of_lt (x.above y c (PySem.mem_of_lookup h)))
 .unfold start
  show _=N.length
  rw [length_append,length_map,List.length_replicate]
  omega
theorem yCS {CX:CXT}{P:Program}{w:World}{K:PySem.W.Frag}{mg:Str->Option Value}{base:Heap}{k:Nat}{f:Addr}{name qual:Str}{params:Arguments}{body:List Stmt}{scope:Scope}{dV kV doc pm cdv ct oc:Value}{an od:Option Addr}
  {osl:Array (Option Value)}{N ps:List Str}{sp:Sp}(lk:K.lookup f=some ⟨oc,od,.func (fnOf name qual params body scope dV kV doc pm an cdv ct),osl⟩) (hcd:codeIn K cdv qual=true) (S:ydV N ps scope)
  (len:∀ vs H Q E,sp vs H Q E->vs.length=ps.length)
  (hbody:∀ (A:Around) (outer:List Env) (s:Shared) (H:Hp) (vs:List V) (Q:VK) (E:XK),Room k (A.deeper (envOfC qual scope s.heap.objs.size f cdv))->sp vs H Q E ->
   ∃ t,PSs (ytp CX P w K mg base N qual scope f cdv A outer s H E) body t/\t { nx:=fun _ H'=>Q .non H',rt:=Q } (start N vs) H) :
  FnOk P w K mg base CX (k+1) f (fnOf name qual params body scope dV kV doc pm an cdv ct) ps sp:=by
 refine ⟨len,fun A outer s H args us vs Q E hr e0 hb r hsp=>?_⟩
 have hl:=len _ _ _ _ hsp
 have KX:K.In s.heap:=e0.mod.kin.keeps fun b o e=>(e0.bs b o e).1
 have lim:s.heap.NoLimit:=e0.mod.nolimit.keeps fun b o e=>(e0.bs b o e).1
 have hkind:∀ y∈ps.zip us,scope.names.lookup y.1=some .local \/ (scope.names.lookup y.1=some .cell/\((cellsFrom (s.heap.objs.size+1) scope.names []).lookup y.1).isSome=true):=fun ⟨n,v⟩ hy=>by
  rcases S.par n (of_mem_zip hy).1 with q|q
  .exact .inl q
  .exact .inr ⟨q,PySem.W.cellsFrom_some _ _ _ (.inl q)⟩
 refine codeAny_call_function hr.depth (KX _ _ lk) rfl S.co S.gen rfl (PySem.W.codeRec_of KX hcd) (hb _ _ _ _ ?_)
 refine wpAny_newFunctionEnv_cells S.kind hkind fun env he s1 x=>?_
 subst he
 refine ⟨lim.keeps x.toInCall.keep,codeAny_func ?_⟩
 obtain ⟨t,ht,hq⟩:=hbody A outer s H vs Q E (hr.deeper _) hsp
 have I:Inv (ytp CX P w K mg base N qual scope f cdv A outer s H E) [] (start N vs) H s1:=yqa S hr.hd e0 hl r x
 refine wpAny_mono (ht [] s1 (start N vs) H _ I hq) (fun fl s' hs=>?_) fun e s' hs=>hs
 have fin:∀ {σ':St}{H':Hp}{v:V}{u:Value},Inv (ytp CX P w K mg base N qual scope f cdv A outer s H E) [] σ' H' s'->RelV v u->Q v H'->CE outer P w H s Q u s' :=
  fun {σ' H' v u} J rv q=>⟨v,H',J.os,J.bare,J.base,J.hok,rv,q⟩
 cases fl with
 | ret u =>
  obtain ⟨v,σ',H',J,rv,q⟩:=hs
  exact fin J rv q
 | next =>
  obtain ⟨σ',H',J,q⟩:=hs
  exact fin (v:=V.non) (u:=Value.none) J rfl q
 | brk =>
  obtain ⟨_,_,_,q⟩:=hs
  exact False.elim q
 | cont =>
  obtain ⟨_,_,_,q⟩:=hs
  exact False.elim q
end L2
namespace L2
open PySem PySem.Spec PyProof.Rows
section
variable {X:Cx}{x:Str}{p pos:Pos}{e:Expr}{es:List Expr}{t:TA}{id T:String}{r:List V->Hp->VK->Prop}
def tCB (r:List V->Hp->VK->Prop) (t:TA):TE:=fun σ H Q=>t σ H fun vs H1=>r vs H1 Q
theorem yjw (hc:yfg X (.builtin id) r) (hg:Gl X x) (hm:X.mg x=none) (hv:bootBuiltins x=some (.builtin id)) (ha:PA X (e::es) t) (hn:x≠"__name__":=by decide) (hdb:(x == ("__debug__":Str))=false:=by decide)
  (he:starEach (e::es) X.env=(false,eval e X.env)::starEach es X.env:=by rfl) (hpl:(backTo pos (starEach es X.env)).any (·.1)=false:=by rfl):PE X (.Call (.Name x p) (e::es) [] pos) (tCB r t):=by
 intro pins s σ H Q I h
 refine wpAny_Call_Name_kw (ykz I hg hm hv ?_ hn hdb)
 exact PyProof.Rows.callWith_builtin1 (thn (ha pos pins s σ H _ I h) fun us s1 ⟨vs,H1,I1,r1,q1⟩=>hc pins s1 σ H1 vs us Q I1 r1 q1) he hpl
theorem ykG (hc:yfg X (.type T) r) (hg:Gl X x) (hm:X.mg x=none) (hv:bootBuiltins x=some (.type T)) (ha:PA X (e::es) t) (hn:x≠"__name__":=by decide) (hdb:(x == ("__debug__":Str))=false:=by decide)
  (he:starEach (e::es) X.env=(false,eval e X.env)::starEach es X.env:=by rfl) (hpl:(backTo pos (starEach es X.env)).any (·.1)=false:=by rfl):PE X (.Call (.Name x p) (e::es) [] pos) (tCB r t):=by
 intro pins s σ H Q I h
 refine wpAny_Call_Name_kw (ykz I hg hm hv ?_ hn hdb)
 exact PyProof.Rows.callWith_type1 (thn (ha pos pins s σ H _ I h) fun us s1 ⟨vs,H1,I1,r1,q1⟩=>hc pins s1 σ H1 vs us Q I1 r1 q1) he hpl
end
end L2
namespace HT
open PySem PyProof.Rows
section
open PySem.SeqAt
open PySem.AutoSeq1 (wpAny_loadPart')
open PySem.MeetsSeq PySem.MeetsSeq2 PySem.MeetsSeq3
end
section
variable {prog:Program}{w:World}{A:Around}{E:Value->Shared->Prop}{s:Shared}
def sIx (n d:Nat):Option Int->Nat
 | none=>d
 | some v=>if v<0 then (v+(n:Int)).toNat else min v.toNat n
theorem sIx_nat (n d k:Nat):sIx n d (some (k:Int))=min k n:=by
 show (if (k:Int)<0 then ((k:Int)+(n:Int)).toNat else min (k:Int).toNat n)=min k n
 rw [if_neg (by omega),Int.toNat_natCast]
theorem yzT (n d:Nat) (hd:d<=n) (o:Option Int):sIx n d o<=n:=by
 cases o with
 | none=>exact hd
 | some v =>
  show (if v<0 then (v+(n:Int)).toNat else min v.toNat n)<=n
  by_cases hv:v<0
  .rw [if_pos hv];omega
  .rw [if_neg hv];exact Nat.min_le_right _ _
theorem yqb (v:Int) (n d:Nat):(if v<0 then max (v+(n:Int)) 0 else min v (n:Int))=((sIx n d (some v):Nat):Int):=by
 show (if v<0 then max (v+(n:Int)) 0 else min v (n:Int))=(((if v<0 then (v+(n:Int)).toNat else min v.toNat n):Nat):Int)
 by_cases hv:v<0
 .simp only [if_pos hv];omega
 .simp only [if_neg hv];omega
theorem yoN (lo hi:Option Int) (n:Nat):Builtin.Slice.sliceAdjust lo hi 1 (n:Int)=(((sIx n 0 lo:Nat):Int),((sIx n n hi:Nat):Int)):=by
 have h1:¬ ((1:Int)<0):=by omega
 unfold Builtin.Slice.sliceAdjust
 simp only [h1,if_false]
 refine Prod.ext ?_ ?_
 .cases lo with
  | none=>rfl
  | some v=>exact yqb v n 0
 .cases hi with
  | none=>rfl
  | some v=>exact yqb v n n
theorem yoO (i j:Nat):Builtin.Slice.slicePlaces (i:Int) (j:Int) 1=j-i:=by
 unfold Builtin.Slice.slicePlaces
 have h1:(1:Int)>0:=by omega
 simp only [h1,if_true,Int.ediv_one]
 split<;>omega
theorem yiT {v:Value}{o:Option Int}{Q:Option Int->Shared->Prop}(p:IsPart v o) (h:Q o s):wpAny (model prog w) A (Builtin.Slice.slicePartIndex v) Q E s:=by
 cases p with
 | none=>exact slicePart_none h
 | int i t=>exact slicePart_int h
theorem sliceApplied_gen {sl:Addr}{vl vu:Value}{lo hi:Option Int}{n:Nat}{Q:Int×Int×Nat->Shared->Prop}(hs:s.heap.IsSliceOf sl vl vu .none) (pl:IsPart vl lo) (pu:IsPart vu hi)
  (h:Q (((sIx n 0 lo:Nat):Int),1,sIx n n hi-sIx n 0 lo) s):wpAny (model prog w) A (Builtin.Slice.sliceApplied (.ref sl) (pure (n:Int))) Q E s:=by
 obtain ⟨os,hos,hcs,hds⟩:=id hs
 unfold Builtin.Slice.sliceApplied Builtin.Slice.sliceFields
 refine wpAny_bind (wpAny_bind (wpAny_field hos hds (x:=vl) rfl (wpAny_bind (wpAny_field hos hds (x:=vu) rfl (wpAny_bind (wpAny_field hos hds (x:=.none) rfl (wpAny_pure ?_)))))))
 refine wpAny_bind (slicePart_none ?_)
 show wpAny _ _ (if ((1:Int) == 0)=true then _ else _) _ _ s
 rw [if_neg (by decide)]
 refine wpAny_bind (yiT pl (wpAny_bind (yiT pu (wpAny_bind (wpAny_pure ?_)))))
 show wpAny _ _ (match Builtin.Slice.sliceAdjust lo hi 1 (n:Int) with|(lo,hi)=>pure (lo,(1:Int),Builtin.Slice.slicePlaces lo hi 1)) _ _ s
 rw [yoN lo hi n]
 show wpAny _ _ (pure (((sIx n 0 lo:Nat):Int),(1:Int),Builtin.Slice.slicePlaces ((sIx n 0 lo:Nat):Int) ((sIx n n hi:Nat):Int) 1)) _ _ s
 rw [yoO]
 exact wpAny_pure h
theorem ytq (xs:Array Value) (i k:Nat):((List.range k).filterMap fun (m:Nat)=>xs[((i:Int)+(m:Int)*1).toNat]?).toArray=((xs.toList.drop i).take k).toArray:=by
 have e:(fun (m:Nat)=>xs[((i:Int)+(m:Int)*1).toNat]?)=fun m=>xs[i+m]?:=by
  funext m
  have:((i:Int)+(m:Int)*1).toNat=i+m:=by omega
  rw [this]
 rw [e]
 have:=pick_run xs i k
 rw [List.filterMap_map] at this
 have e2:((fun x=>xs[x]?) ∘ fun x=>i+x)=fun m=>xs[i+m]?:=rfl
 rw [e2] at this
 rw [this]
theorem getItem_tuple_cut {t sl:Addr}{items:Array Value}{vl vu:Value}{lo hi:Option Int}{Q:Value->Shared->Prop}(ht:IsTup s.heap t items) (hs:s.heap.IsSliceOf sl vl vu .none) (pl:IsPart vl lo) (pu:IsPart vu hi)
  (hw:¬ (sIx items.size 0 lo=0/\sIx items.size items.size hi=items.size))
  (h:Q (.ref s.heap.objs.size) { s with heap:=s.heap.push { cls:=.type "tuple",data:=.seq ((items.toList.drop (sIx items.size 0 lo)).take (sIx items.size items.size hi-sIx items.size 0 lo)).toArray } })
  (hsz:items.size<=sizeLine):wpAny (model prog w) A (getItem (.ref t) (.ref sl)) Q E s:=by
 have htake:sizeOk (.seq ((items.toList.drop (sIx items.size 0 lo)).take (sIx items.size items.size hi-sIx items.size 0 lo)).toArray):=by
  show ((items.toList.drop (sIx items.size 0 lo)).take (sIx items.size items.size hi-sIx items.size 0 lo)).toArray.size<=sizeLine
  rw [size_toArray,length_take,length_drop,Array.length_toList]
  omega
 have hj:sIx items.size items.size hi<=items.size:=yzT _ _ (Nat.le_refl _) hi
 obtain ⟨os,hos,hcs,hds⟩:=id hs
 have hTs:s.TypeIs (.ref sl) "slice":=⟨os,hos,hcs⟩
 unfold getItem
 try with_reducible refine wpAny_holding ?_
 first|refine wpAny_bind (wpAny_pure ?_)|skip
 refine wpAny_bind (wpAny_sequenceKey ht.typeIs (by decide) ?_)
 refine wpAny_bind (wpAny_callSpecial?_slot (name:=Str.ofString "__getitem__") ht.typeIs PyProof.Rows.slot_tuple_getitem
  (wpAny_call_entry PyProof.Rows.slot_tuple_getitem ht.typeIs entry_tuple_getitem ?_ (args_tuple_getitem _ _)))
 show wpAny _ _ (Builtin.Tuple.tupleItemsOf (.ref t) >>= _) _ _ s
 refine wpAny_bind (tupleItemsOf_ ht ?_)
 refine wpAny_bind (wpAny_typeOf hTs ?_)
 rw [if_pos (by decide)]
 refine wpAny_bind (sliceApplied_gen hs pl pu ?_)
 have hno:¬ ((((sIx items.size 0 lo:Nat):Int) == 0 && (1:Int) == 1 && (sIx items.size items.size hi-sIx items.size 0 lo) == items.size)=true):=by
  intro q
  rw [and_eq_true,and_eq_true] at q
  have q1:((sIx items.size 0 lo:Nat):Int)=0:=eq_of_beq q.1.1
  have q2:sIx items.size items.size hi-sIx items.size 0 lo=items.size:=eq_of_beq q.2
  exact hw ⟨by omega,by omega⟩
 show wpAny _ _ (if (((sIx items.size 0 lo:Nat):Int) == 0 && (1:Int) == 1 && (sIx items.size items.size hi-sIx items.size 0 lo) == items.size)=true then _ else _) _ _ s
 rw [if_neg hno,ytq]
 first
  | exact wpAny_bind (m:=Builtin.Tuple.tupleExact _) (wpAny_newObj_type (wpAny_pure ⟨_,rfl,wpAny_pure h⟩) htake)
  | exact wpAny_bind (m:=Builtin.Tuple.tupleExact _) (wpAny_newObj_type (wpAny_bind (wpAny_pure (wpAny_pure ⟨_,rfl,wpAny_pure h⟩))) htake)
  | exact wpAny_bind (wpAny_bind (m:=Builtin.Tuple.tupleExact _) (wpAny_newObj_type (wpAny_pure (wpAny_pure ⟨_,rfl,wpAny_pure h⟩)) htake))
  | exact wpAny_bind (wpAny_bind (m:=Builtin.Tuple.tupleExact _) (wpAny_newObj_type (wpAny_pure ⟨_,rfl,wpAny_pure h⟩) htake))
end
end HT
namespace L2
open PySem PySem.Spec PyProof.Rows
abbrev TO:=St->Hp->(Option Int->Hp->Prop)->Prop
noncomputable def PO (X:Cx) (e:Option Expr) (t:TO):Prop :=
 ∀ (pins:List (Addr×Obj)) (s:Shared) (σ:St) (H:Hp) (Q:Option Int->Hp->Prop),Inv X pins σ H s->t σ H Q ->
  wpAny (model X.prog X.w) X.A (evalPart e X.env) (fun u s'=>∃ o H',Inv X pins σ H' s'/\IsPart u o/\Q o H') X.xe s
def yqc:TO:=fun _ H Q=>Q none H
def yzU (t:TE):TO:=fun σ H Q=>t σ H fun x H1=>∃ i,x=.int i/\Q (some i) H1
theorem intsAre_of {ns:List Int}:∀ {us:List Value},Vals (ns.map V.int) us->IntsAre us ns:=by
 induction ns with
 | nil=>intro us r;rw [map_nil] at r;cases r;exact .nil
 | cons n ns ih =>
  intro us r
  rw [map_cons] at r
  cases r with
  | cons r1 r2 =>
   obtain ⟨t,e⟩:=r1
   subst e
   exact .cons n t (ih r2)
section
variable {X:Cx}{e:Expr}{te:TE}{lo hi:Option Expr}{tl th:TO}{pos p2:Pos}
theorem ywM:PO X none yqc:=by
 intro pins s σ H Q I h
 rw [evalPart_none]
 exact wpAny_pure ⟨none,H,I,.none,h⟩
theorem ywN (h:PE X e te):PO X (some e) (yzU te):=by
 intro pins s σ H Q I hw
 rw [evalPart_some]
 refine thn (h pins s σ H _ I hw) fun u s1 ⟨x,H1,I1,r1,q1⟩=>?_
 obtain ⟨i,rfl,q⟩:=q1
 obtain ⟨t,rfl⟩:=r1
 exact ⟨some i,H1,I1,.int i t,q⟩
def SlR (X:Cx) (r:V->Option Int->Option Int->Hp->VK->Prop):Prop :=
 ∀ (pins:List (Addr×Obj)) (s:Shared) (σ:St) (H:Hp) (x:V) (v vl vu:Value) (lo hi:Option Int) (sl:Addr) (Q:VK),Inv X pins σ H s->RelV x v->s.heap.IsSliceOf sl vl vu .none->IsPart vl lo->IsPart vu hi->r x lo hi H Q ->
  ∃ T id,typeLookup (.type T) "__getitem__" = pure (some (.builtin id))/\s.TypeIs v T/\wpAny (model X.prog X.w) X.A (getItem v (.ref sl)) (EP X pins σ Q) X.xe s
theorem SlR.or {r r':V->Option Int->Option Int->Hp->VK->Prop}(h:SlR X r) (h':SlR X r'):SlR X (fun x lo hi H Q=>r x lo hi H Q\/r' x lo hi H Q):=by
 intro pins s σ H x v vl vu lo hi sl Q I rx hs pl pu q
 rcases q with q|q
 .exact h pins s σ H x v vl vu lo hi sl Q I rx hs pl pu q
 .exact h' pins s σ H x v vl vu lo hi sl Q I rx hs pl pu q
noncomputable def tSl (r:V->Option Int->Option Int->Hp->VK->Prop) (te:TE) (tl th:TO):TE:=fun σ H Q=>te σ H fun x H1=>tl σ H1 fun l H2=>th σ H2 fun u H3=>r x l u H3 Q
theorem ynw {r:V->Option Int->Option Int->Hp->VK->Prop}(hr:SlR X r) (he:PE X e te) (hl:PO X lo tl) (hu:PO X hi th):PE X (.Subscript e (.Slice lo hi none p2) pos) (tSl r te tl th):=by
 intro pins s σ H Q I h
 refine Subscript_ (thn (he pins s σ H _ I h) fun v s1 ⟨x,H1,I1,r1,q1⟩=>?_)
 refine wpAny_Slice (thn (hl pins s1 σ H1 _ I1 q1) fun vl s2 ⟨l,H2,I2,pl,q2⟩=>thn (hu pins s2 σ H2 _ I2 q2) fun vu s3 ⟨u,H3,I3,pu,q3⟩=>?_)
 rw [evalPart_none]
 refine wpAny_pure ?_
 have I4:Inv X pins σ H3 { s3 with heap:=s3.heap.push { cls:=.type "slice",data:=.fields #[vl,vu,.none] } }:=I3.kept (t':=s3.toks) fun b ob q=>Heap.get?_push_of_some _ q
 obtain ⟨T,id,hT,ht,hg⟩:=hr pins { s3 with heap:=s3.heap.push { cls:=.type "slice",data:=.fields #[vl,vu,.none] } } σ H3 x v vl vu l u s3.heap.objs.size Q I4 r1 (Heap.IsSliceOf.new ..) pl pu q3
 show wpAny (model X.prog X.w) X.A (subscriptTail e (.Slice lo hi none p2) v (.ref s3.heap.objs.size)) (EP X pins σ Q) X.xe { s3 with heap:=s3.heap.push { cls:=.type "slice",data:=.fields #[vl,vu,.none] } }
 exact tail_any (ops:=[.ref s3.heap.objs.size,v]) ht hT hg (by with_unfolding_all rfl)
noncomputable def ysO (xs:List V) (lo hi:Option Int):List V:=(xs.drop (HT.sIx xs.length 0 lo)).take (HT.sIx xs.length xs.length hi-HT.sIx xs.length 0 lo)
theorem yhu (xs:List V) (lo hi:Option Int):(ysO xs lo hi).length<=xs.length:=by
 unfold ysO
 rw [length_take,length_drop]
 omega
def yFt (K:PySem.W.Frag):V->Option Int->Option Int->Hp->VK->Prop:=fun x lo hi H Q=>∃ a xs,x=.ref a/\SqT K H a xs /\
 ¬ (HT.sIx xs.length 0 lo=0/\HT.sIx xs.length xs.length hi=xs.length)/\∀ p,H p=none->Q (.ref p) (upd H p (.tup (ysO xs lo hi)))
theorem yzV:SlR X (yFt X.K):=by
 intro pins s σ H x v vl vu lo hi sl Q I rx hs pl pu h
 obtain ⟨a,xs,rfl,hx,hw,q⟩:=h
 cases rx
 obtain ⟨its,r,ht,hz⟩:=I.tuple hx
 have hlen:its.toArray.size=xs.length:=by rw [size_toArray];exact r.length.symm
 refine ⟨"tuple",_,PyProof.Rows.slot_tuple_getitem.lookup,ht.typeIs,?_⟩
 refine HT.getItem_tuple_cut ht hs pl pu (by rw [hlen];exact hw) ?_ (by rw [hlen];exact hz)
 rw [hlen]
 refine ⟨.ref s.heap.objs.size,_,I.laid (t':=s.toks) (o:=.tup (ysO xs lo hi)) (fun b ob q=>Heap.get?_push_of_some _ q) (Nat.le_refl _) ?_,rfl,q _ (I.hok.fresh (Nat.le_refl _))⟩
 exact ⟨Nat.le_trans (yhu xs lo hi) hz,_,(r.drop (HT.sIx xs.length 0 lo)).take (HT.sIx xs.length xs.length hi-HT.sIx xs.length 0 lo),IsTup.new _ _⟩
end
end L2
namespace L2
open PySem PySem.Spec PyProof.Rows
noncomputable def ixN (n:Nat) (i:Int):Option Nat:=if 0<=i then (if i<n then some i.toNat else none) else if -(n:Int)<=i then some (i+n).toNat else none
def atI {α:Type}(xs:List α) (i:Int):Option α:=(ixN xs.length i).bind fun j=>xs[j]?
theorem yqd {n:Nat}{i:Int}{j:Nat}(h:ixN n i=some j):seqIndex? i n=some j/\j<n/\-(n:Int)<=i/\i<n:=by
 unfold ixN at h
 by_cases h0:0<=i
 .rw [if_pos h0] at h
  by_cases h1:i<n
  .rw [if_pos h1] at h
   have e:i.toNat=j:=Option.some.inj h
   exact ⟨by rw [seqIndex_of h0 h1,e],by omega,by omega,h1⟩
  .rw [if_neg h1] at h;cases h
 .rw [if_neg h0] at h
  by_cases h1:-(n:Int)<=i
  .rw [if_pos h1] at h
   have e:(i+n).toNat=j:=Option.some.inj h
   exact ⟨by rw [seqIndex_neg (by omega) h1,e],by omega,h1,by omega⟩
  .rw [if_neg h1] at h;cases h
theorem ymd {α:Type}{xs:List α}{i:Int}{v:α}(h:atI xs i=some v):∃ j,seqIndex? i xs.length=some j/\xs[j]?=some v/\j<xs.length/\-(xs.length:Int)<=i/\i<xs.length:=by
 unfold atI at h
 cases e:ixN xs.length i with
 | none=>rw [e] at h;cases h
 | some j =>
  rw [e] at h
  obtain ⟨h1,h2,h3,h4⟩:=yqd e
  exact ⟨j,h1,h,h2,h3,h4⟩
theorem ycw {α:Type}{xs:List α}{j:Nat}{v:α}(h:xs[j]?=some v):atI xs (j:Int)=some v:=by
 have hj:j<xs.length:=(List.getElem?_eq_some_iff.mp h).1
 have e:ixN xs.length (j:Int)=some j:=by
  unfold ixN
  rw [if_pos (by omega),if_pos (by omega)];simp
 unfold atI;rw [e];exact h
def yqe (b:Expr):Prop:=∀ o i,subscripted b false o i=operate [o,i] (getItem o i)
def IxR (X:Cx) (r:R2):Prop :=
 ∀ (value slice:Expr) (pins:List (Addr×Obj)) (s:Shared) (σ:St) (H:Hp) (x y:V) (v u:Value) (Q:VK),Inv X pins σ H s->RelV x v->RelV y u->r x y H Q ->
  subscripted slice false v u=operate [v,u] (getItem v u)->wpAny (model X.prog X.w) X.A (subscriptTail value slice v u) (EP X pins σ Q) X.xe s
def MtR (X:Cx) (id:String) (r:V->List V->Hp->VK->Prop):Prop :=
 ∀ (pins:List (Addr×Obj)) (s:Shared) (σ:St) (H:Hp) (x:V) (xs:List V) (v:Value) (us:List Value) (Q:VK),Inv X pins σ H s->RelV x v->Vals xs us->r x xs H Q ->
  wpAny (model X.prog X.w) X.A (call (.builtin id) (v::us)) (EP X pins σ Q) X.xe s
section
variable {X:Cx}{a b:Expr}{ta tb:TE}{pos:Pos}
theorem yCT {r:R2}(hr:IxR X r) (ha:PE X a ta) (hb:PE X b tb) (hs:yqe b):PE X (.Subscript a b pos) (tOp r ta tb):=by
 intro pins s σ H Q I h
 exact Subscript_ (yCN ha hb I h fun v u s2 x y H2 I2 rx ry q=>hr a b pins s2 σ H2 x y v u Q I2 rx ry q (hs _ _))
def yFu (K:PySem.W.Frag):R2:=fun x y H Q=>∃ p xs i v,x=.ref p/\y=.int i/\SqL K H p xs/\atI xs i=some v/\Q v H
def yFv (K:PySem.W.Frag):R2:=fun x y H Q=>∃ p xs i v,x=.ref p/\y=.int i/\SqT K H p xs/\atI xs i=some v/\Q v H
def yFw:R2:=fun x y H Q=>∃ z i c,x=.str z/\y=.int i/\z.length<=sizeLine/\atI z.cps.toList i=some c/\Q (.str ⟨#[c]⟩) H
theorem ybb:IxR X (yFu X.K):=by
 intro value slice pins s σ H x y v u Q I rx ry h hs
 obtain ⟨p,xs,i,z,rfl,rfl,hq,he,q⟩:=h
 cases rx
 obtain ⟨t,rfl⟩:=ry
 obtain ⟨its,r,pl,hz⟩:=I.list hq
 obtain ⟨j,h1,h2,h3,h4,h5⟩:=ymd he
 obtain ⟨w,ew,rw'⟩:=r.get h2
 have hl:=r.length
 have hn:=yiR
 have fin:EP X pins σ Q w s:=⟨z,H,I,rw',q⟩
 by_cases h0:0<=i
 .have hj:i.toNat=j:=by
   rw [seqIndex_of h0 h5] at h1
   exact Option.some.inj h1
  exact item_listR pl.isList h0 (by omega) (by rw [hj];simpa using ew) fin hs
 .have hj:(i+(its.toArray.size:Int)).toNat=j:=by
   rw [seqIndex_neg (by omega) h4] at h1
   rw [size_toArray,<- hl]
   exact Option.some.inj h1
  exact subscriptTail_builtinR (x:=w) pl.isList.typeIs slot_list_getitem.lookup
   (wpAny_getItem_list_neg (Q:=fun r s'=>r=w/\EP X pins σ Q r s') pl.isList (by omega) (by rw [size_toArray]<;>omega) (by omega) (by rw [hj];simpa using ew) ⟨rfl,fin⟩) hs
theorem yG:IxR X (yFv X.K):=by
 intro value slice pins s σ H x y v u Q I rx ry h hs
 obtain ⟨p,xs,i,z,rfl,rfl,hq,he,q⟩:=h
 cases rx
 obtain ⟨t,rfl⟩:=ry
 obtain ⟨its,r,pl,hz⟩:=I.tuple hq
 obtain ⟨j,h1,h2,h3,h4,h5⟩:=ymd he
 obtain ⟨w,ew,rw'⟩:=r.get h2
 have hl:=r.length
 have hn:=yiR
 have fin:EP X pins σ Q w s:=⟨z,H,I,rw',q⟩
 exact subscriptTail_builtinR (x:=w) pl.typeIs slot_tuple_getitem.lookup
  (getItem_tuple (j:=j) (Q:=fun r s'=>r=w/\EP X pins σ Q r s') pl (by omega) (by omega) (by rw [size_toArray,<- hl];exact h1) (by simpa using ew) ⟨rfl,fin⟩) hs
theorem yzW:IxR X yFw:=by
 intro value slice pins s σ H x y v u Q I rx ry h hs
 obtain ⟨z,i,c,rfl,rfl,hz,he,q⟩:=h
 obtain ⟨t,rfl⟩:=rx
 obtain ⟨t',rfl⟩:=ry
 obtain ⟨j,h1,h2,h3,h4,h5⟩:=ymd he
 have hl:z.cps.toList.length=z.length:=by simp [Str.length]
 rw [hl] at h1 h4 h5
 have hn:=yiR
 exact tail_any (typeIs_str s z t) slot_str_getitem.lookup (getItem_str (c:=c) (by
  have e1:decide (i < -(2 ^ 63:Int))=false:=decide_eq_false (by omega)
  have e2:decide (i>=2 ^ 63)=false:=decide_eq_false (by omega)
  rw [e1,e2,Bool.or_false]) (by rw [h1];simpa using h2) ⟨.str ⟨#[c]⟩,H,I.tok _,⟨_,rfl⟩,q⟩) hs
theorem yoP (its:List Value) (n j:Nat) (u:Value):Obj.mapSeq (·.setIfInBounds j u) { cls:=.type "list",data:=.seq its.toArray n }={ cls:=.type "list",data:=.seq (its.set j u).toArray n }:=by
 simp [Obj.mapSeq]
theorem Inv.lst {pins:List (Addr×Obj)}{σ:St}{H:Hp}{s:Shared}{p:Addr}{xs:List V}(I:Inv X pins σ H s) (h:H p=some (.lst xs)) :
  ∃ (its:List Value) (n:Nat),Vals xs its/\s.heap.get? p=some { cls:=.type "list",data:=.seq its.toArray n }/\xs.length<=sizeLine:=by
 obtain ⟨z,its,n,r,e⟩:=I.hok p _ h
 exact ⟨its,n,r,e,z⟩
theorem Inv.lstUpd {pins:List (Addr×Obj)}{σ:St}{H:Hp}{s:Shared}{p:Addr}{xs ys:List V}{its its':List Value}{n n':Nat}{f:Obj->Obj}(I:Inv X pins σ H s) (h:H p=some (.lst xs))
  (ho:s.heap.get? p=some { cls:=.type "list",data:=.seq its.toArray n }) (hf:f { cls:=.type "list",data:=.seq its.toArray n }={ cls:=.type "list",data:=.seq its'.toArray n' }) (r:Vals ys its') (hz:ys.length<=sizeLine) (t:Nat) :
  Inv X pins σ (upd H p (.lst ys)) { s with heap:=s.heap.update p f,toks:=t }:=by
 have e:(s.heap.update p f).get? p=some { cls:=.type "list",data:=.seq its'.toArray n' }:=by
  rw [Heap.get?_update_self f ho (by rw [hf]<;>rfl),hf]
 refine I.write (x:=p) (e:=p) (by rw [h];trivial) (.inl rfl) (fun b u hb q=>(Heap.get?_update_other _ _ (Ne.symm hb)).trans q) ⟨_,e⟩ ?_
 exact ⟨hz,its',n',r,e⟩
def yzX:V->V->V->Hp->(Hp->Prop)->Prop:=fun o i v H Q=>∃ p xs k j,o=.ref p/\i=.int k/\H p=some (.lst xs)/\ixN xs.length k=some j/\Q (upd H p (.lst (xs.set j v)))
theorem set_list:yFk X yzX:=by
 intro pins s σ H o i v ov iv u Q I ro ri rv h
 obtain ⟨p,xs,k,j,rfl,rfl,hp,hj,q⟩:=h
 cases ro
 obtain ⟨t,rfl⟩:=ri
 obtain ⟨its,n,r,ho,hz⟩:=I.lst hp
 obtain ⟨h1,h2,h3,h4⟩:=yqd hj
 have hl:=r.length
 have hn:=yiR
 have I':Inv X pins σ (upd H p (.lst (xs.set j v))) { s with heap:=s.heap.update p (Obj.mapSeq (·.setIfInBounds j u)) } :=
  I.lstUpd hp ho (yoP its n j u) (r.set rv j) (by rw [length_set];exact hz) s.toks
 by_cases h0:0<=k
 .have hk:k.toNat=j:=by
   rw [seqIndex_of h0 h4] at h1
   exact Option.some.inj h1
  exact PySem.W.ki_setAt ho h0 (by omega) (by rw [size_toArray,<- hl];exact h4) (by rw [hk];exact ⟨_,I',q⟩)
 .have hk:(k+(its.toArray.size:Int)).toNat=j:=by
   rw [seqIndex_neg (by omega) h3] at h1
   rw [size_toArray,<- hl]
   exact Option.some.inj h1
  exact PySem.W.ki_setBack ho (by omega) (by rw [size_toArray,<- hl];exact h3) (by omega) (by rw [hk];exact ⟨_,I',q⟩)
theorem ykH (lo hi:Option Int) (n:Nat):(sliceBounds lo hi none n).1=((HT.sIx n 0 lo:Nat):Int)/\(sliceBounds lo hi none n).2.1=((HT.sIx n n hi:Nat):Int)/\(sliceBounds lo hi none n).2.2=1:=by
 refine ⟨?_,?_,rfl⟩
 .cases lo with
  | none=>simp [sliceBounds,HT.sIx]
  | some i =>
   simp only [sliceBounds,HT.sIx,Option.getD_none,show (1:Int)>0 by decide,if_true]
   by_cases h:i<0
   .simp only [h,if_true]<;>omega
   .simp only [h,if_false]<;>omega
 .cases hi with
  | none=>simp [sliceBounds,HT.sIx]
  | some i =>
   simp only [sliceBounds,HT.sIx,Option.getD_none,show (1:Int)>0 by decide,if_true]
   by_cases h:i<0
   .simp only [h,if_true]<;>omega
   .simp only [h,if_false]<;>omega
theorem yjx (its:List Value) (lo hi:Option Int):slicePick its.toArray lo hi none=((its.drop (HT.sIx its.length 0 lo)).take (HT.sIx its.length its.length hi-HT.sIx its.length 0 lo)).toArray:=by
 obtain ⟨h1,h2,h3⟩:=ykH lo hi its.toArray.size
 unfold slicePick
 rw [h1,h2,h3]
 simp only [sliceRange_one,pick_run,size_toArray]<;>rfl
def yFx (K:PySem.W.Frag):V->Option Int->Option Int->Hp->VK->Prop:=fun x lo hi H Q=>∃ a xs,x=.ref a/\SqL K H a xs/\∀ p,H p=none->Q (.ref p) (upd H p (.lst (ysO xs lo hi)))
theorem yqf:SlR X (yFx X.K):=by
 intro pins s σ H x v vl vu lo hi sl Q I rx hs pl pu h
 obtain ⟨a,xs,rfl,hx,q⟩:=h
 cases rx
 obtain ⟨its,r,ht,hz⟩:=I.list hx
 have hlen:=r.length
 refine ⟨"list",_,slot_list_getitem.lookup,ht.isList.typeIs,?_⟩
 refine wpAny_getItem_list_slice ht.isList hs pl pu .none (by simp) ?_ (by rw [size_toArray]<;>omega)
 rw [yjx,<- hlen]
 refine ⟨.ref s.heap.objs.size,_,I.laid (t':=s.toks) (o:=.lst (ysO xs lo hi)) (fun b ob q=>Heap.get?_push_of_some _ q) (Nat.le_refl _) ?_,rfl,q _ (I.hok.fresh (Nat.le_refl _))⟩
 exact ⟨Nat.le_trans (yhu xs lo hi) hz,_,0,(r.drop (HT.sIx xs.length 0 lo)).take (HT.sIx xs.length xs.length hi-HT.sIx xs.length 0 lo),Heap.get?_push_size _ rfl⟩
def yfz:V->Bool
 | .non=>true
 | .bl _=>true
 | .int _=>true
 | .str _=>true
 | _=>false
noncomputable def eqV:V->V->Bool
 | .non,.non=>true
 | .bl a,.bl b=>a == b
 | .bl a,.int b=>(if a then 1 else 0) == b
 | .int a,.bl b=>a == (if b then 1 else 0)
 | .int a,.int b=>a == b
 | .str a,.str b=>a == b
 | _,_=>false
theorem eqAt_V {A:Around}{s:Shared}{y x:V}{u v:Value}(ry:RelV y u) (rx:RelV x v) (fy:yfz y=true) (fx:yfz x=true):SeqAt.EqAt A s u v (eqV y x):=by
 cases y with
 | non =>
  cases ry
  cases x with
  | non=>cases rx;exact SeqAt.EqAt.same _
  | bl b=>cases rx;exact SeqAt.EqAt.none_bool b
  | int b=>obtain ⟨t,rfl⟩:=rx;exact SeqAt.EqAt.none_int b t
  | str b=>obtain ⟨t,rfl⟩:=rx;exact SeqAt.EqAt.none_str b t
  | _=>exact absurd (show false=true from fx) Bool.false_ne_true
 | bl a =>
  cases ry
  cases x with
  | non=>cases rx;exact SeqAt.EqAt.bool_none a
  | bl b=>cases rx;exact SeqAt.EqAt.bool_bool a b
  | int b=>obtain ⟨t,rfl⟩:=rx;exact SeqAt.EqAt.bool_int a b t
  | str b=>obtain ⟨t,rfl⟩:=rx;exact SeqAt.EqAt.bool_str a b t
  | _=>exact absurd (show false=true from fx) Bool.false_ne_true
 | int a =>
  obtain ⟨t',rfl⟩:=ry
  cases x with
  | non=>cases rx;exact SeqAt.EqAt.int_none a t'
  | bl b=>cases rx;exact SeqAt.EqAt.int_bool a t' b
  | int b=>obtain ⟨t,rfl⟩:=rx;exact SeqAt.EqAt.int_int a t' b t
  | str b=>obtain ⟨t,rfl⟩:=rx;exact SeqAt.EqAt.int_str a t' b t
  | _=>exact absurd (show false=true from fx) Bool.false_ne_true
 | str a =>
  obtain ⟨t',rfl⟩:=ry
  cases x with
  | non=>cases rx;exact SeqAt.EqAt.str_none a t'
  | bl b=>cases rx;exact SeqAt.EqAt.str_bool a t' b
  | int b=>obtain ⟨t,rfl⟩:=rx;exact SeqAt.EqAt.str_int a t' b t
  | str b=>obtain ⟨t,rfl⟩:=rx;exact SeqAt.EqAt.str_str a t' b t
  | _=>exact absurd (show false=true from fx) Bool.false_ne_true
 | _=>exact absurd (show false=true from fy) Bool.false_ne_true
def eqU (x:V) (u:Value):Bool:=match u with
 | .none=>eqV .non x
 | .bool b=>eqV (.bl b) x
 | .int i _=>eqV (.int i) x
 | .str z _=>eqV (.str z) x
 | _=>false
theorem yvG {x y:V}{u:Value}(r:RelV y u) (f:yfz y=true):eqU x u=eqV y x:=by
 cases y with
 | non=>cases r;rfl
 | bl b=>cases r;rfl
 | int i=>obtain ⟨t,rfl⟩:=r;rfl
 | str z=>obtain ⟨t,rfl⟩:=r;rfl
 | _=>exact absurd (show false=true from f) Bool.false_ne_true
theorem yme {x:V}:∀ {xs:List V}{us:List Value},Vals xs us->xs.all yfz=true->us.any (eqU x)=xs.any fun y=>eqV y x
 | _,_,.nil,_=>rfl
 | y::xs,u::us,.cons r t,f=>by
  rw [List.all_cons,and_eq_true] at f
  rw [any_cons,any_cons,yvG r f.1,yme t f.2]
theorem yjy {A:Around}{s:Shared}{x:V}{v:Value}(rx:RelV x v) (fx:yfz x=true):∀ {xs:List V}{us:List Value},Vals xs us->xs.all yfz=true->∀ u∈us,SeqAt.EqAt A s u v (eqU x u)
 | _,_,.nil,_=>fun u hu=>by cases hu
 | y::xs,u::us,.cons r t,f=>fun u' hu=>by
  rw [List.all_cons,and_eq_true] at f
  rcases mem_cons.mp hu with rfl|hu
  .rw [yvG r f.1];exact eqAt_V r rx f.1 fx
  .exact yjy rx fx t f.2 u' hu
def inV (x:V) (xs:List V):Bool:=xs.any fun y=>eqV y x
def rIn (K:PySem.W.Frag) (neg:Bool):R2:=fun x y H Q=>∃ p xs,y=.ref p/\(SqL K H p xs\/SqT K H p xs)/\yfz x=true/\xs.all yfz=true/\Q (.bl (if neg then !inV x xs else inV x xs)) H
theorem ykI:OpR X (compareOp .NotIn) (rIn X.K true):=by
 intro pins s σ H x y v u Q I rx ry h
 obtain ⟨p,xs,rfl,hq,fx,fs,q⟩:=h
 cases ry
 rcases hq with hq|hq
 .obtain ⟨its,r,pl,hz⟩:=I.list hq
  refine SeqAt.notIn_listAt (eqU x) pl.isList (fun w hw=>yjy rx fx r fs w (by simpa using hw)) ⟨.bl _,H,I,rfl,?_⟩
  rw [show its.toArray.any (eqU x)=its.any (eqU x) by simp,yme r fs]
  exact q
 .obtain ⟨its,r,pl,hz⟩:=I.tuple hq
  refine SeqAt.notIn_tupleAt (eqU x) pl (fun w hw=>yjy rx fx r fs w (by simpa using hw)) ⟨.bl _,H,I,rfl,?_⟩
  rw [show its.toArray.any (eqU x)=its.any (eqU x) by simp,yme r fs]
  exact q
theorem yt:yfg X (.builtin "len") (fun xs H Q=>∃ p ys,xs=[.ref p]/\(SqL X.K H p ys\/SqT X.K H p ys)/\Q (.int ys.length) H):=by
 intro pins s σ H xs us Q I r h
 obtain ⟨p,ys,rfl,hq,q⟩:=h
 obtain ⟨u,rfl,rx⟩:=vals1 r
 cases rx
 have hn:=yiR
 rcases hq with hq|hq
 .obtain ⟨its,r',pl,hz⟩:=I.list hq
  have hlen:=r'.length
  exact Calls.call_len_list pl.isList (by simp only [size_toArray]<;>omega) ⟨.int ys.length,H,I.tok _,⟨s.toks+1,by rw [size_toArray,hlen]⟩,q⟩
 .obtain ⟨its,r',pl,hz⟩:=I.tuple hq
  have hlen:=r'.length
  exact len_tuple pl (by simp only [size_toArray]<;>omega) ⟨.int ys.length,H,I.tok _,⟨s.toks+1,by rw [size_toArray,hlen]⟩,q⟩
theorem ydp:yfg X (.builtin "len") (fun xs H Q=>∃ z,xs=[.str z]/\z.length<=sizeLine/\Q (.int z.length) H):=by
 intro pins s σ H xs us Q I r h
 obtain ⟨z,rfl,hz,q⟩:=h
 obtain ⟨u,rfl,t,rfl⟩:=vals1 r
 have hn:=yiR
 exact len_str (by omega) ⟨.int z.length,H,I.tok _,⟨_,rfl⟩,q⟩
theorem yx:yfg X (.type "list") (fun xs H Q=>∃ p ys,xs=[.ref p]/\(SqL X.K H p ys\/SqT X.K H p ys)/\∀ l,H l=none->Q (.ref l) (upd H l (.lst ys))):=by
 intro pins s σ H xs us Q I r h
 obtain ⟨p,ys,rfl,hq,q⟩:=h
 obtain ⟨u,rfl,rx⟩:=vals1 r
 cases rx
 have fin:∀ (its:List Value),Vals ys its->ys.length<=sizeLine->∀ (h':Heap) (c':Nat),(∀ b o',s.heap.get? b=some o'->h'.get? b=some o') ->
   h'.get? s.heap.objs.size=some { cls:=.type "list",dict:=none,data:=.seq its.toArray c',slots:=#[] }->EP X pins σ Q (.ref s.heap.objs.size) { s with heap:=h' }:=fun its r' hz h' c' kp e =>
  ⟨.ref s.heap.objs.size,_,I.laid (t':=s.toks) kp (Nat.le_refl _) (show ObjOk X.prog X.w _ h' _ (.lst ys) from ⟨hz,its,c',r',e⟩),rfl,q _ (I.hok.fresh (Nat.le_refl _))⟩
 rcases hq with hq|hq
 .obtain ⟨its,r',pl,hz⟩:=I.list hq
  have hlen:=r'.length
  obtain ⟨o,ho,hc,n,hd⟩:=pl.isList
  exact call_list_seq p (.inl rfl) ho hc hd (fun h' c' kp e=>fin its r' hz h' c' kp e) (by simp only [size_toArray]<;>omega)
 .obtain ⟨its,r',pl,hz⟩:=I.tuple hq
  have hlen:=r'.length
  obtain ⟨o,ho,hc,n,hd⟩:=pl
  exact call_list_seq p (.inr rfl) ho hc hd (fun h' c' kp e=>fin its r' hz h' c' kp e) (by simp only [size_toArray]<;>omega)
def tyV (K:PySem.W.Frag) (T:String) (x:V) (H:Hp):Prop:=match x with
 | .str _=>T = "str"
 | .int _=>T = "int"
 | .ref p=>(T = "list"/\∃ xs,SqL K H p xs)\/(T = "tuple"/\∃ o,K.lookup p=some o/\o.cls=.type "tuple"/\o.dict=none) \/
   (T = "dict"/\((∃ kvs,H p=some (.dK kvs))\/∃ kvs,H p=some (.dT kvs)))\/(T = "set"/\∃ S n,H p=some (.set S n))
 | _=>False
theorem yvH {pins:List (Addr×Obj)}{σ:St}{H:Hp}{s:Shared}{T:String}{x:V}{v:Value}(I:Inv X pins σ H s) (r:RelV x v) (ty:tyV X.K T x H) :
  s.TypeIs v T/\∀ a,v=.ref a->∃ ob,s.heap.get? a=some ob/\ob.dict=none:=by
 cases x with
 | str z =>
  obtain ⟨t,rfl⟩:=r
  cases (show T = "str" from ty)
  exact ⟨typeIs_str s z t,fun _ e=>nomatch e⟩
 | int i =>
  obtain ⟨t,rfl⟩:=r
  cases (show T = "int" from ty)
  exact ⟨typeIs_int s i t,fun _ e=>nomatch e⟩
 | ref p =>
  cases r
  rcases ty with ⟨rfl,xs,hq⟩|⟨rfl,o,hk,hc,hd⟩|⟨rfl,hk⟩|⟨rfl,S,n,hk⟩
  .obtain ⟨its,_,pl,_⟩:=I.list hq
   refine ⟨pl.isList.typeIs,fun a e=>?_⟩
   cases e
   obtain ⟨o,n,e,c,hd,_⟩:=pl
   exact ⟨o,e,hd⟩
  .refine ⟨⟨o,I.kIn p o hk,hc⟩,fun a e=>?_⟩
   cases e
   exact ⟨o,I.kIn _ o hk,hd⟩
  .have z:∃ o,s.heap.get? p=some o/\o.ExactDict:=by
    rcases hk with ⟨kvs,hk⟩|⟨kvs,hk⟩
    .obtain ⟨_,_,_,_,o,_,_,e,ex,_⟩:=I.hok p _ hk
     exact ⟨o,e,ex⟩
    .obtain ⟨_,_,_,_,o,_,_,e,ex,_⟩:=I.hok p _ hk
     exact ⟨o,e,ex⟩
   obtain ⟨o,e,ex⟩:=z
   refine ⟨⟨o,e,ex.1⟩,fun a e2=>?_⟩
   cases e2
   exact ⟨o,e,ex.2.1⟩
  .obtain ⟨o,_,_,_,e,ex,_⟩:=I.hok p _ hk
   refine ⟨⟨o,e,ex.1⟩,fun a e2=>?_⟩
   cases e2
   exact ⟨o,e,ex.2.1⟩
 | _=>exact False.elim ty
def yCs (K:PySem.W.Frag) (T:String) (r:V->List V->Hp->VK->Prop) (to:TE):TE:=fun σ H Q=>to σ H fun x H1=>tyV K T x H1/\r x [] H1 Q
def tBM (K:PySem.W.Frag) (T:String) (r:V->List V->Hp->VK->Prop) (to:TE) (t:TA):TE:=fun σ H Q=>to σ H fun x H1=>tyV K T x H1/\t σ H1 fun xs H2=>r x xs H2 Q
variable {o e:Expr}{es:List Expr}{to:TE}{t:TA}{name:Str}{apos cpos:Pos}{T id:String}{r:V->List V->Hp->VK->Prop}
theorem yqg (pa:PlainAttrs T) (slot:Slot T name id) (hty:typeOf (.builtin id)=pure (.type "method_descriptor")) (hm:MtR X id r) (ho:PE X o to)
  (hbase:attributeBase o name X.env (eval o X.env)=eval o X.env:=by rfl) (hline:(apos.endLine == cpos.line)=true:=by rfl):PE X (.Call (.Attribute o name apos) [] [] cpos) (yCs X.K T r to):=by
 intro pins s σ H Q I h
 refine wpAny_Call_method0_late hbase hline (thn (ho pins s σ H _ I h) fun v s1 ⟨x,H1,I1,r1,ty,q1⟩=>?_)
 obtain ⟨h1,h2⟩:=yvH I1 r1 ty
 exact ⟨T,id,pa,slot,hty,h1,h2,Calls.callWith_builtin rfl (PySem.evalArgs_none (hm pins s1 σ H1 x [] v [] Q I1 r1 .nil q1))⟩
theorem ywO (pa:PlainAttrs T) (slot:Slot T name id) (hty:typeOf (.builtin id)=pure (.type "method_descriptor")) (hm:MtR X id r) (ho:PE X o to) (ha:PA X (e::es) t)
  (hbase:attributeBase o name X.env (eval o X.env)=eval o X.env:=by rfl)
  (hfew:((backTo cpos (starEach (e::es) X.env)).all (fun x=>!x.1) && (backToKw cpos (keywordEach [] X.env)).all (fun x=>x.1.isSome)
   && decide ((e::es).length+([]:List Keyword).length+(if ([]:List Keyword).isEmpty then 0 else 1)<30))=true:=by rfl)
  (hline:(apos.endLine == cpos.line)=true:=by rfl) (hs:starEach (e::es) X.env=(false,eval e X.env)::starEach es X.env:=by rfl) (hplain:(backTo cpos (starEach es X.env)).any (·.1)=false:=by rfl) :
  PE X (.Call (.Attribute o name apos) (e::es) [] cpos) (tBM X.K T r to t):=by
 intro pins s σ H Q I h
 refine wpAny_Call_method_late hbase hfew hline rfl (thn (ho pins s σ H _ I h) fun v s1 ⟨x,H1,I1,r1,ty,q1⟩=>?_)
 obtain ⟨h1,h2⟩:=yvH I1 r1 ty
 refine ⟨T,id,pa,slot,hty,h1,h2,?_⟩
 have hA:=ha cpos pins s1 σ H1 _ I1 q1
 rw [hs] at hA ⊢
 refine Calls.callWith_builtin (by show (false || (backTo cpos (starEach es X.env)).any (·.1))=false;rw [hplain]<;>rfl) (Calls.evalArgs_plain ?_)
 exact thn hA fun us s2 ⟨vs,H2,I2,r2,q2⟩=>hm pins s2 σ H2 x vs v us Q I2 r1 r2 q2
end
end L2
namespace L2
open PySem PySem.Spec PyProof.Rows
def MtM (X:Cx) (id:String) (r:V->List V->Hp->VK->Prop):Prop :=
 ∀ (pins:List (Addr×Obj)) (s:Shared) (σ:St) (H:Hp) (x:V) (xs:List V) (v:Value) (us:List Value) (Q:VK),Inv X pins σ H s->RelV x v->Vals xs us->r x xs H Q ->
  wpAny (model X.prog X.w) X.A (call (.builtin id) (v::us)) (EP X pins σ Q) X.xe s
theorem Vals.one:∀ {x:V}{us:List Value},Vals [x] us->∃ u,us=[u]/\RelV x u
 | _,_,.cons r .nil=>⟨_,rfl,r⟩
theorem Vals.zero:∀ {us:List Value},Vals [] us->us=[]
 | _,.nil=>rfl
theorem Vals.dropLast {xs:List V}{us:List Value}(h:Vals xs us):Vals xs.dropLast us.dropLast:=by
 induction h with
 | nil=>exact .nil
 | cons r t ih =>
  cases t with
  | nil=>exact .nil
  | cons q t'=>exact .cons r ih
theorem Vals.rep {xs:List V}{us:List Value}(h:Vals xs us):∀ k:Nat,Vals (replicate k xs).flatten (replicate k us).flatten
 | 0=>.nil
 | k+1=>by
  rw [List.replicate_succ,List.replicate_succ,List.flatten_cons,List.flatten_cons]
  exact Vals.append h (Vals.rep h k)
theorem yoQ {α:Type}(l:List α):l.eraseIdx (l.length-1)=l.dropLast:=by
 induction l with
 | nil=>rfl
 | cons a r ih =>
  cases r with
  | nil=>rfl
  | cons b r =>
   have e:(a::b::r).length-1=((b::r).length-1)+1:=by
    have h1:(a::b::r).length=r.length+2:=rfl
    have h2:(b::r).length=r.length+1:=rfl
    omega
   rw [e,List.eraseIdx_cons_succ,ih]
   all_goals rfl
theorem foldl_rep (its:List Value):∀ (k:Nat) (acc:List Value),
  List.foldl (fun x1 x2=>x1++x2) acc.toArray (replicate k its.toArray)=(acc++(replicate k its).flatten).toArray
 | 0,acc=>by simp
 | k+1,acc=>by
  have e:acc.toArray++its.toArray=(acc++its).toArray:=by simp
  have e2:(acc++its)++(replicate k its).flatten=acc++(replicate (k+1) its).flatten:=by
   rw [List.replicate_succ,List.flatten_cons,append_assoc]
  rw [<- e2,<- foldl_rep its k (acc++its),<- e,List.replicate_succ,List.foldl_cons]
section
variable {X:Cx}{pins:List (Addr×Obj)}{σ:St}{H:Hp}{s:Shared}{l b:Addr}{xs ys zs:List V}
theorem Inv.lset {its its':List Value}{n:Nat}{f:Array Value->Array Value}{t':Nat}(I:Inv X pins σ H s) (hH:H l=some (.lst xs))
  (e:s.heap.get? l=some { cls:=.type "list",data:=.seq its.toArray n }) (hf:f its.toArray=its'.toArray) (hv:Vals ys its') (hz:ys.length<=sizeLine) :
  Inv X pins σ (upd H l (.lst ys)) { s with heap:=s.heap.update l (Obj.mapSeq f),toks:=t' }:=by
 have q:=PySem.IsL.update e f
 rw [hf] at q
 refine I.write (x:=l) (e:=l) (by rw [hH];exact trivial) (.inl rfl) (fun b' u hb hu=>(Heap.get?_update_other s.heap (Obj.mapSeq f) (Ne.symm hb)).trans hu) ⟨_,q⟩ ?_
 exact ⟨hz,its',_,hv,q⟩
theorem Inv.lnew {its:List Value}{t':Nat}(I:Inv X pins σ H s) (hv:Vals ys its) (hz:ys.length<=sizeLine) :
  Inv X pins σ (upd H s.heap.objs.size (.lst ys)) { s with heap:=s.heap.push { cls:=.type "list",data:=.seq its.toArray },toks:=t' } :=
 I.laid (fun _ _ q=>Heap.get?_push_of_some _ q) (Nat.le_refl _) ⟨hz,its,0,hv,Heap.get?_push_size _ rfl⟩
theorem Inv.fresh (I:Inv X pins σ H s):H s.heap.objs.size=none:=I.hok.fresh (Nat.le_refl _)
theorem Inv.lstM (I:Inv X pins σ H s) (hH:H l=some (.lst xs)):xs.length<=sizeLine/\∃ (its:List Value) (n:Nat),Vals xs its/\xs.length=its.length/\s.heap.get? l=some { cls:=.type "list",data:=.seq its.toArray n }:=by
 obtain ⟨z,its,n,r,e⟩:=I.hok l _ hH
 exact ⟨z,its,n,r,r.length,e⟩
theorem ynx {n:Nat}(h:n<=sizeLine):Builtin.List.listTooLong n=false:=by
 unfold Builtin.List.listTooLong
 exact decide_eq_false (by omega)
end
section
variable {X:Cx}
noncomputable def ymf:V->List V->Hp->VK->Prop:=fun x vs H Q=>∃ l xs y,x=.ref l/\vs=[y]/\H l=some (.lst xs)/\xs.length<sizeLine/\Q .non (upd H l (.lst (xs++[y])))
theorem ydK:MtM X "list.append" ymf:=by
 intro pins s σ H x vs v us Q I rx rv h
 obtain ⟨l,xs,y,rfl,rfl,hH,hz,q⟩:=h
 cases rx
 obtain ⟨u,rfl,ru⟩:=rv.one
 obtain ⟨z,its,n,r,hl,e⟩:=I.lstM hH
 refine call_meets F.slot_list_append ⟨_,e,rfl⟩ F.entry_list_append (F.args_list_append_2 _ _) (PySem.list_append l its.toArray n u (by rw [size_toArray];omega)) ⟨e,?_⟩
 refine ⟨.non,_,I.lset (its':=its++[u]) hH e (by simp) (r.append (.cons ru .nil)) ?_,rfl,q⟩
 rw [length_append,List.length_singleton]
 omega
noncomputable def yqh:V->List V->Hp->VK->Prop:=fun x vs H Q=>∃ l b xs zs,x=.ref l/\vs=[.ref b]/\H l=some (.lst xs)/\H b=some (.lst zs)/\xs.length+zs.length<=sizeLine/\Q .non (upd H l (.lst (xs++zs)))
theorem yqi:MtM X "list.extend" yqh:=by
 intro pins s σ H x vs v us Q I rx rv h
 obtain ⟨l,b,xs,zs,rfl,rfl,hH,hB,hz,q⟩:=h
 cases rx
 obtain ⟨u,rfl,ru⟩:=rv.one
 cases ru
 obtain ⟨z,its,n,r,hl,e⟩:=I.lstM hH
 obtain ⟨z2,its2,n2,r2,hl2,e2⟩:=I.lstM hB
 have hsz:its.toArray.size+its2.toArray.size<=sizeLine:=by rw [size_toArray,size_toArray];omega
 have hlong:¬ (!its.toArray.isEmpty && Builtin.List.listTooLong (its.toArray.size+its2.toArray.size))=true:=by
  rw [ynx hsz,Bool.and_false]
  exact Bool.false_ne_true
 refine call_meets F.slot_list_extend ⟨_,e,rfl⟩ F.entry_list_extend (F.args_list_extend_2 _ _)
  (AutoSeq1.list_extend_list_list_0 l its.toArray n b its2.toArray n2 hlong (by rw [size_toArray];omega) (by omega)) ⟨e,e2,?_⟩
 refine ⟨.non,_,I.lset (its':=its++its2) hH e (by simp) (r.append r2) ?_,rfl,q⟩
 rw [length_append]
 omega
noncomputable def yFy:V->List V->Hp->VK->Prop:=fun x vs H Q=>∃ l xs y,x=.ref l/\vs=[]/\H l=some (.lst xs)/\xs[xs.length-1]?=some y/\Q y (upd H l (.lst xs.dropLast))
theorem yny:MtM X "list.pop" yFy:=by
 intro pins s σ H x vs v us Q I rx rv h
 obtain ⟨l,xs,y,rfl,rfl,hH,hy,q⟩:=h
 cases rx
 have hus:=rv.zero
 subst hus
 obtain ⟨z,its,n,r,hl,e⟩:=I.lstM hH
 obtain ⟨u,hu,ru⟩:=r.get hy
 have hy':its.toArray[its.toArray.size-1]?=some u:=by
  show its.toArray[its.length-1]?=some u
  rw [<- Array.getElem?_toList,<- hl]
  exact hu
 refine call_meets F.slot_list_pop ⟨_,e,rfl⟩ F.entry_list_pop (F.args_list_pop_1 _) (MeetsSeq.list_pop_last l its.toArray n u hy' (by rw [size_toArray];omega)) ⟨e,?_⟩
 refine ⟨y,_,I.lset (its':=its.dropLast) hH e ?_ r.dropLast ?_,ru,q⟩
 .show its.toArray.eraseIdxIfInBounds (its.toArray.size-1)=its.dropLast.toArray
  rw [size_toArray,List.eraseIdxIfInBounds_toArray,yoQ]
 .rw [List.length_dropLast]
  omega
noncomputable def yFz:R2:=fun x y H Q=>∃ l b xs zs,x=.ref l/\y=.ref b/\H l=some (.lst xs)/\H b=some (.lst zs)/\xs.length+zs.length<=sizeLine/\∀ p,H p=none->Q (.ref p) (upd H p (.lst (xs++zs)))
theorem ynz:OpR X (binaryOp .Add) yFz:=by
 intro pins s σ H x y v u Q I rx ry h
 obtain ⟨l,b,xs,zs,rfl,rfl,hH,hB,hz,q⟩:=h
 cases rx
 cases ry
 obtain ⟨z,its,n,r,hl,e⟩:=I.lstM hH
 obtain ⟨z2,its2,n2,r2,hl2,e2⟩:=I.lstM hB
 refine PySem.P.add_list e e2 ?_ (by rw [size_toArray,size_toArray];omega)
 have ea:its.toArray++its2.toArray=(its++its2).toArray:=by simp
 rw [ea]
 exact ⟨.ref _,_,I.lnew (t':=s.toks) (r.append r2) (by rw [length_append];omega),rfl,q _ I.fresh⟩
noncomputable def yFA:R2:=fun x y H Q=>∃ l k xs,x=.ref l/\y=.int k/\H l=some (.lst xs)/\-(2 ^ 63)<=k/\k<2 ^ 63/\xs.length*k.toNat<=sizeLine /\
 ∀ p,H p=none->Q (.ref p) (upd H p (.lst (replicate k.toNat xs).flatten))
theorem len_rep {α:Type}(xs:List α) (k:Nat):(replicate k xs).flatten.length=k*xs.length:=by
 induction k with
 | zero=>simp
 | succ k ih=>rw [List.replicate_succ,List.flatten_cons,length_append,ih,Nat.succ_mul,Nat.add_comm]
theorem yqj:OpR X (binaryOp .Mult) yFA:=by
 intro pins s σ H x y v u Q I rx ry h
 obtain ⟨l,k,xs,rfl,rfl,hH,h1,h2,hz,q⟩:=h
 cases rx
 obtain ⟨t,rfl⟩:=ry
 obtain ⟨z,its,n,r,hl,e⟩:=I.lstM hH
 have hlen:its.toArray.size*k.toNat<=sizeLine:=by rw [size_toArray,<- hl];exact hz
 have hcap:¬ its.toArray.size*k.toNat>(2 ^ 63-1)/8:=by
  have:(sizeLine:Nat)<=(2 ^ 63-1)/8:=by decide
  omega
 have hfit:¬ (!Builtin.List.listFitsIndex k)=true:=by
  rw [fitsIndex_both h1 h2]
  exact Bool.false_ne_true
 have hlong:¬ Builtin.List.listTooLong (its.toArray.size*k.toNat)=true:=by
  rw [ynx hlen]
  exact Bool.false_ne_true
 have hnew:List.foldl (fun x1 x2=>x1++x2) #[] (replicate (if its.toArray.isEmpty=true then 0 else k.toNat) its.toArray)=(replicate k.toNat its).flatten.toArray:=by
  have f0:∀ m:Nat,List.foldl (fun x1 x2=>x1++x2) #[] (replicate m its.toArray)=(replicate m its).flatten.toArray:=fun m=>by
   have:=foldl_rep its m []
   rw [List.nil_append] at this
   exact this
  rw [f0]
  cases its with
  | nil=>simp
  | cons a r'=>rw [if_neg (by simp)]
 refine wpAny_binaryOp_repeat_ref (T:="list") (U:="int") (by decide) ⟨_,e,rfl⟩ (fun s'=>typeIs_int s' k t) noFill_list_mul F.fills_int_mul F.slot_int_rmul repeat_list F.slot_int_index.lookup
  (call_meets F.slot_int_rmul (typeIs_int s k t) F.entry_int_rmul (F.args_int_rmul_2 _ _) (int___rmul___int_list k t l its.toArray n)
   ⟨e,rfl,⟨_,e,rfl⟩,call_meets F.slot_list_mul ⟨_,e,rfl⟩ F.entry_list_mul (F.args_list_mul_2 _ _) (AutoListH.list___mul___list_int_3 l its.toArray n k t hfit hcap hlong) ⟨e,?_⟩⟩)
 rw [hnew]
 exact ⟨.ref _,_,I.lnew (t':=s.toks) (r.rep k.toNat) (by rw [len_rep,Nat.mul_comm];exact hz),rfl,q _ I.fresh⟩
end
section
variable {prog:Program}{w:World}{A:Around}{E:Value->Shared->Prop}{s:Shared}
end
section
variable {X:Cx}
end
end L2
namespace Att
open PySem PySem.W PySem.Calls PyProof.Rows
theorem yhv {P:Params}{h:Heap}:∀ (ns:List Int) (vs:List Value),WellAll P h vs (ns.map WData.int)->IntsAre vs ns:=by
 intro ns
 induction ns with
 | nil =>
  intro vs w
  rw [map_nil] at w
  cases w
  exact .nil
 | cons n ns ih =>
  intro vs w
  rw [map_cons] at w
  cases w with
  | cons a b =>
   cases a
   exact .cons _ _ (ih _ b)
theorem yqk {l:OpenLaw}{n:Nat}(hn:l.most=some n) {P:Params}{h:Heap}{args:List WData}{vals:List Value}
  (hpre:l.row.toRowW.claim.pre args=true) (hwl:WellAll P h vals args) :
  ∃ a vs ns,vals=[Value.ref a]/\args=[WData.list (ns.map WData.int)]/\h.get? a=some { cls:=.type "list",data:=.seq vs.toArray }/\IntsAre vs ns/\ns.length<=n:=by
 have hsh:WShape.hasAll [] args [.list .int]=true:=(pre_splitW hpre).1
 have hc:l.pre.holds [] { args:=args }=true:=(pre_splitW hpre).2
 obtain ⟨d,r,rfl,h1,h2⟩:=hasAllW_cons hsh
 obtain rfl:=hasAllW_nil h2
 obtain ⟨xs,rfl,h3⟩:=hasW_list h1
 obtain ⟨ns,rfl⟩:=items_int h3
 have hlen:ns.length<=n:=by
  unfold OpenLaw.pre at hc
  have h4:(WTm.not (.lt (.lit (.int (n:Int))) (.len (.arg 0)))).holds [] { args:=[.list (ns.map .int)] }=true:=by
   have h4:=(holds_andW hc).1
   rw [hn] at h4
   exact h4
  have h5:=condW_of h4 (w_not (w_lt w_lit (w_len_list (w_arg rfl))))
  rw [length_map] at h5
  refine Nat.le_of_not_lt fun q=>?_
  have q':(n:Int)<((ns.length:Nat):Int):=by omega
  first
   | (rw [decide_eq_true q'] at h5;exact absurd h5 (by decide))
   | (simp at h5;omega)
 cases hwl with
 | cons w1 w2 =>
  cases w2
  cases w1 with
  | list ho hall=>exact ⟨_,_,ns,rfl,rfl,ho,yhv ns _ hall,hlen⟩
theorem yql (l:OpenLaw) (args:List WData):l.row.toRowW.claim.post args (.bool true) args=true :=
 postW_of (r:=l.row.toRowW) (X:=(true == true))
  (show WShape.has [] (.bool true) .bool=true by first|rfl|decide|simp [WShape.has,WShape.arms,WShape.armsAll])
  (show (WTm.eq .res (.lit (.bool true))).value [] { args:=args,res:=some (.bool true),after:=args }=some (.bool (true == true)) from w_eq_bool (w_res rfl) w_lit) rfl
theorem attach_call {l:OpenLaw}{n:Nat}{q:Program}{loose:List Str}{XP:(Str->Option Value)->Heap->Prop}{YP:World->Heap->Prop}{d:DefRec}
  (hn:l.most=some n) (hdf:d.params.defaults=[])
  (call:∀ (w:World) (s₀ s₁:Shared) (mg mb:Str->Option Value) (fa:Addr) (o:Obj) (pm cd doc:Value) (a:Addr) (vs:List Value) (ns:List Int),
   Ground q loose [] XP w s₀ mg mb s₁.heap->YP w s₁.heap ->
   s₁.heap.get? fa=some o->o.data=.func (docDef d.name d.params d.body d.scope pm cd doc)->s₁.heap.CodeRec cd d.name->mg d.name=some (.ref fa) ->
   s₁.heap.get? a=some { cls:=.type "list",data:=.seq vs.toArray }->IntsAre vs ns->ns.length<=n->s₁.gens = #[] ->
   codeAny (model l.prog w) callerA (.call (.ref fa) ⟨[.ref a],[]⟩) (fun r s'=>r=.ok (.ret (.bool true))/\OldK s₁.heap s'.heap/\s'.os=s₁.os/\AllBare s'.gens) s₁) :
  WalkO q loose XP YP l.row.toRowW d [] (fun f vs=>PySem.call f vs):=by
 intro w s₀ s₁ mg mb G Y fa o pm cd doc dV kV ho hd hcd hD hmg hg args vals as hpre hlay hrd hwl hlo
 obtain rfl:dV=.none:=Dflts.none hD hdf
 obtain rfl:kV=.none:=Dflts.noKw hD
 obtain ⟨a,vs,ns,rfl,rfl,hobj,hints,hlen⟩:=yqk hn hpre hwl
 refine enter_call (codeAny_mono (call w s₀ s₁ mg mb fa o pm cd doc a vs ns G Y ho (fd_plain hd) hcd hmg hobj hints hlen hg) fun r s' hq=>?_)
 obtain ⟨rfl,h2,h3,h4⟩:=hq
 exact ⟨.inl ⟨.bool true,.bool true,[],rfl,fun _=>rfl,.bool true,yql l _,fun _=>⟨List.Pairwise.nil,fun _ hm=>(nomatch hm)⟩⟩,h2,h3,h4⟩
section
variable {prog:Program}{w:World}{A:Around}{E:Value->Shared->Prop}{s:Shared}{K:Frag}
end
end Att
namespace L2
open PySem PySem.Spec PyProof.Rows
theorem yhw:∀ {vs:List Value}{ns:List Int},IntsAre vs ns->Vals (ns.map V.int) vs
 | _,_,.nil=>.nil
 | _,_,.cons n t h=>.cons ⟨t,rfl⟩ (yhw h)
def yCU (H:Hp):Prop:=∀ b,H b=none\/∃ o xs,H b=some (.frz o (.lst xs))
theorem ytr {P:Program}{w:World}{K:PySem.W.Frag}{mg mb:Str->Option Value}{CX:CXT}{k:Nat}{fa a:Addr}{fd:FuncData}{x:Str}{sp:Sp}{s₁:Shared}{vs:List Value}{ns:List Int}
  (KX:K.In s₁.heap) (hns:s₁.heap.Ns mainGlobals mg) (hb:s₁.heap.Ns builtinsNs mb) (hbb:∀ x:Str,x≠"__name__"->mb x=bootBuiltins x) (hlim:s₁.heap.NoLimit) (hg:s₁.gens = #[])
  (ha:s₁.heap.get? a=some { cls:=.type "list",data:=.seq vs.toArray }) (hi:IntsAre vs ns) (hl:ns.length<=sizeLine) (hr:Room k callerA)
  (F:∀ base:Heap,K.In base->base.Ns mainGlobals mg->FnOk P w K mg base CX k fa fd [x] sp) (hbind:∀ (s:Shared) (u:Value),BindsTo s fd ⟨[u],[]⟩ [(x,u)])
  (hsp:∀ H:Hp,yCU H->SqL K H a (ns.map V.int)->sp [.ref a] H (fun v _=>v=.bl true) fun _ _ _=>False)
  (hCX:∀ H e s',CX [] H s₁ (fun _ _ _=>False) e s'->False) :
  codeAny (model P w) callerA (.call (.ref fa) ⟨[.ref a],[]⟩) (fun r s'=>r=.ok (.ret (.bool true))/\OldK s₁.heap s'.heap/\s'.os=s₁.os/\AllBare s'.gens) s₁:=by
 have rv:=yhw hi
 have lenV:=hi.length
 have core:∀ H:Hp,yCU H->SqL K H a (ns.map V.int)->HOk P w H s₁.heap->(∀ b,H b≠none->b=a)->(H a≠none->K.lookup a=none) ->
   codeAny (model P w) callerA (.call (.ref fa) ⟨[.ref a],[]⟩) (fun r s'=>r=.ok (.ret (.bool true))/\OldK s₁.heap s'.heap/\s'.os=s₁.os/\AllBare s'.gens) s₁:=by
  intro H hO hS hok hA hK
  have base_of:∀ {b:Addr}{o:Obj},s₁.heap.get? b=some o->H b=none->(ysX s₁.heap H).get? b=some o:=fun e n=>ysY e n
  have noA:∀ {b:Addr}{o:Obj}{es:Array DictEntry}{ep:Nat},s₁.heap.get? b=some o->o.data=.dict es ep->H b=none:=fun {b o es ep} e d=>by
   cases q:H b with
   | none=>rfl
   | some u =>
    have e':b=a:=hA b (by rw [q];simp)
    subst e'
    rw [ha] at e;cases e
    have d':Data.seq vs.toArray _=Data.dict es ep:=d
    cases d'
  have nsK:∀ {b:Addr}{m:Str->Option Value},s₁.heap.Ns b m->(ysX s₁.heap H).Ns b m:=fun {b m} ⟨o,es,ep,e,d,r⟩=>⟨o,es,ep,base_of e (noA e d),d,r⟩
  have hKb:K.In (ysX s₁.heap H):=fun b o e=>base_of (KX b o e) (by
   cases q:H b with
   | none=>rfl
   | some u =>
    have e':b=a:=hA b (by rw [q];simp)
    subst e'
    rw [hK (by rw [q];simp)] at e;cases e)
  have hM:Mod K mg (ysX s₁.heap H):=⟨hKb,nsK hns,⟨mb,nsK hb,hbb⟩,let ⟨mc,h1,h2⟩:=hlim;⟨mc,nsK h1,h2⟩⟩
  have e0:Env0 P w K mg (ysX s₁.heap H) callerA [] s₁ H:=⟨rfl,hM,fun b o e=>yww e,le_of_eq (ypG _ _),trivial,fun b hb=>absurd (show b∈([]:List Addr) from hb) (by simp),hok,.of_eq hg⟩
  refine codeAny_mono ((F _ hKb (nsK hns)).run callerA [] s₁ H ⟨[.ref a],[]⟩ [.ref a] [.ref a] _ _ hr e0 (hbind s₁ (.ref a)) (.cons rfl .nil) (hsp H hO hS)) fun r s' h=>?_
  cases r with
  | error e=>exact (hCX H e s' h).elim
  | ok fl =>
   cases fl with
   | next=>exact False.elim h
   | brk=>exact False.elim h
   | cont=>exact False.elim h
   | ret u =>
    obtain ⟨v,H',os,bare,un,hok',r',q⟩:=h
    have q':v=.bl true:=q
    subst q'
    obtain rfl:u=Value.bool true:=r'
    refine ⟨rfl,OldK.of_keep fun b o e=>?_,os,bare⟩
    cases q:H b with
    | none=>exact un.keep b o e q (by intro z;exact absurd (show b∈([]:List Addr) from z) (by simp)) (by simp)
    | some u =>
     rcases hO b with z|⟨ob,xs,z⟩
     .rw [q] at z;cases z
     .have z2:=un.frzs b ob _ z
      obtain ⟨e1,_⟩:=hok b _ z
      obtain ⟨e2,_⟩:=hok' b _ z2
      rw [e] at e1;cases e1
      exact e2
 cases hk:K.lookup a with
 | some o =>
  have e:=KX a o hk
  rw [ha] at e
  cases e
  refine core (fun _=>none) (fun _=>.inl rfl) (.inr ⟨_,vs.toArray,_,hk,rfl,rfl,rfl,by rw [size_toArray,lenV];exact hl,by simpa using rv⟩) (fun b u z=>by have z':(none:Option HO)=some u:=z;cases z') (fun b z=>absurd rfl z) fun z=>absurd rfl z
 | none =>
  refine core (fun b=>if b=a then some (.frz { cls:=.type "list",data:=.seq vs.toArray } (.lst (ns.map V.int))) else none) (fun b=>?_) (.inl (.inr ⟨{ cls:=.type "list",data:=.seq vs.toArray },if_pos rfl⟩)) (fun b u z=>?_) (fun b z=>?_) fun _=>hk
  .by_cases hb:b=a
   .exact .inr ⟨_,_,if_pos hb⟩
   .exact .inl (if_neg hb)
  .by_cases hb:b=a
   .have z':=(if_pos hb).symm.trans z
    cases z'
    subst hb
    exact ⟨ha,by rw [length_map];exact hl,vs,_,rv,ha⟩
   .have z':=(if_neg hb).symm.trans z
    cases z'
  .by_cases hb:b=a
   .exact hb
   .exact absurd (if_neg hb) z
end L2
namespace L2
open PySem PySem.Spec PyProof.Rows
theorem walk_of {l:PySem.W.OpenLaw}{n k:Nat}{q:Program}{loose:List Str}{XP:(Str->Option Value)->Heap->Prop}{YP:World->Heap->Prop}{d:DefRec}{K:Params->PySem.W.Frag}{CX:World->CXT}{sp:World->Sp}{x:Str}
  (hn:l.most=some n) (hn2:n<=sizeLine) (hdf:d.params.defaults=[]) (hr:Room k callerA)
  (hY:∀ (w:World) (h:Heap),YP w h->(K w.params).In h)
  (F:∀ (w:World) (mg:Str->Option Value) (fa:Addr) (h:Heap),(K w.params).In h->h.Ns mainGlobals mg->mg d.name=some (.ref fa) ->
   ∃ fd:FuncData,(∀ (s:Shared) (u:Value),BindsTo s fd ⟨[u],[]⟩ [(x,u)]) /\
    ∀ base:Heap,(K w.params).In base->base.Ns mainGlobals mg->FnOk l.prog w (K w.params) mg base (CX w) k fa fd [x] (sp w))
  (hsp:∀ (w:World) (H:Hp) (a:Addr) (ns:List Int),ns.length<=n->yCU H->SqL (K w.params) H a (ns.map V.int)->sp w [.ref a] H (fun v _=>v=.bl true) fun _ _ _=>False)
  (hCX:∀ (w:World) (H:Hp) (s:Shared) (e:Value) (s':Shared),CX w [] H s (fun _ _ _=>False) e s'->False) :
  PySem.W.WalkO q loose XP YP l.row.toRowW d [] (fun f vs=>PySem.call f vs):=by
 refine Att.attach_call hn hdf fun w s₀ s₁ mg mb fa o pm cd doc a vs ns G Y ho hd hcd hmg hobj hints hlen hg=>?_
 have KX:=hY w _ Y
 obtain ⟨fd,hb,hF⟩:=F w mg fa _ KX G.T.g hmg
 exact ytr KX G.T.g G.T.b G.T.builtins G.T.nolimit hg hobj hints (Nat.le_trans hlen hn2) hr hF hb (fun H hO hS=>hsp w H a ns hlen hO hS) fun H e s'=>hCX w H s₁ e s'
end L2
namespace L2
open PySem PySem.Spec PyProof.Rows
noncomputable def inClass (s:Stmt) (j:Nat):Stmt:=match s with
 | .ClassDef _ _ _ body _ _ _ _ _ _ _=>body.getD j (.Pass ⟨0,0,0,0⟩)
 | _=>.Pass ⟨0,0,0,0⟩
noncomputable def ymg (s:Stmt):Arguments:=match s with
 | .FunctionDef _ a _ _ _ _ _ _ _ _=>a
 | _=>{ posonlyargs:=[],args:=[],vararg:=none,kwonlyargs:=[],kw_defaults:=[],kwarg:=none,defaults:=[] }
def yfh (s:Stmt):List Stmt:=match s with
 | .FunctionDef _ _ b _ _ _ _ _ _ _=>b
 | _=>[]
noncomputable def ybv (s:Stmt):Scope:=match s with
 | .FunctionDef _ _ _ _ _ _ sc _ _ _=>sc
 | _=>{ kind:=.function,names:=[],isGenerator:=false,isCoroutine:=false }
abbrev CX0:CXT:=fun _ _ _ _ _ _=>False
abbrev E0:XK:=fun _ _ _=>False
theorem ykJ {X:Cx}:yfy CX0 X E0:=fun _ _ _ _ _ _ _ h=>h.elim
structure Fun (K:PySem.W.Frag) (x qual:Str) (st:Stmt) (f:Addr) (fd:FuncData):Prop where
 ex:∃ (oc:Value) (od:Option Addr) (kV doc pm:Value) (an:Option Addr) (cdv ct:Value) (osl:Array (Option Value)),
  fd=fnOf x qual (ymg st) (yfh st) (ybv st) .none kV doc pm an cdv ct/\K.lookup f=some ⟨oc,od,.func fd,osl⟩/\codeIn K cdv qual=true
 kp:keepIn K (.ref f)=true
section
variable {P:Program}{w:World}{K:PySem.W.Frag}{mg:Str->Option Value}{base:Heap}
theorem Fun.ok {x qual:Str}{st:Stmt}{f:Addr}{fd:FuncData}{N ps:List Str}{k:Nat}{sp:Sp}(F:Fun K x qual st f fd) (S:ydV N ps (ybv st)) (len:∀ vs H Q E,sp vs H Q E->vs.length=ps.length)
  (hbody:∀ (cdv:Value) (A:Around) (outer:List Env) (s:Shared) (H:Hp) (vs:List V) (Q:VK) (E:XK),Room k (A.deeper (envOfC qual (ybv st) s.heap.objs.size f cdv))->sp vs H Q E ->
   ∃ t,PSs (ytp CX0 P w K mg base N qual (ybv st) f cdv A outer s H E).nox (yfh st) t/\t { nx:=fun _ H'=>Q .non H',rt:=Q } (start N vs) H):FnOk P w K mg base CX0 (k+1) f fd ps sp:=by
 obtain ⟨oc,od,kV,doc,pm,an,cdv,ct,osl,rfl,lk,hcd⟩:=F.ex
 refine yCS lk hcd S len fun A outer s H vs Q E hr hsp=>?_
 obtain ⟨t,h,q⟩:=hbody cdv A outer s H vs Q E hr hsp
 exact ⟨t,h.nox,q⟩
theorem fun_mk {x qual:Str}{st:Stmt}{f:Addr}{oc:Value}{od an:Option Addr}{osl:Array (Option Value)}{kV doc pm cdv ct:Value}(l:K.lookup f=some ⟨oc,od,.func (fnOf x qual (ymg st) (yfh st) (ybv st) .none kV doc pm an cdv ct),osl⟩)
  (c:codeIn K cdv qual=true) (k:keepIn K (.ref f)=true):Fun K x qual st f (fnOf x qual (ymg st) (yfh st) (ybv st) .none kV doc pm an cdv ct):=⟨⟨oc,od,kV,doc,pm,an,cdv,ct,osl,rfl,l,c⟩,k⟩
end
theorem yzY {A:Around}{k:Nat}(hr:Room k A):A.units+1<cLine:=Nat.lt_of_le_of_lt (Nat.add_le_add_left (by decide:1<=64) _) hr.units
theorem yhx {n:Nat}(h:n<=1000):n<sizeLine:=Nat.lt_of_le_of_lt h (by decide)
section
variable {X:Cx}
end
def Same (H H':Hp):Prop:=∀ b o,H b=some o->H' b=some o
theorem Same.refl (H:Hp):Same H H:=fun _ _ h=>h
theorem Same.trans {H H1 H2:Hp}(a:Same H H1) (b:Same H1 H2):Same H H2:=fun c o h=>b c o (a c o h)
theorem Same.free {H H':Hp}(e:Same H H') {l:Addr}(h:H' l=Option.none):H l=Option.none:=by
 cases q:H l with
 | none=>rfl
 | some o =>
  rw [e l o q] at h
  cases h
theorem Same.seq {K:PySem.W.Frag}{H H':Hp}{a:Addr}{xs:List V}(e:Same H H') (h:SqL K H a xs):SqL K H' a xs:=by
 rcases h with (h|⟨o,h⟩)|h
 .exact .inl (.inl (e _ _ h))
 .exact .inl (.inr ⟨o,e _ _ h⟩)
 .exact .inr h
end L2
namespace L2
open PySem PySem.Spec PyProof.Rows
def cV:V->Option Value
 | .ty n=>some (.type n)
 | .ref a=>some (.ref a)
 | _=>none
def IsI (K:PySem.W.Frag) (H:Hp) (x c:V) (b:Bool):Prop:=∃ t u,ynt K H x t/\cV c=some u/\PySem.W.kitOne K t u=some b
theorem ymh {K:PySem.W.Frag}{H:Hp}{i:Int}:IsI K H (.int i) (.ty "int") true:=⟨_,_,.int i,rfl,by with_unfolding_all rfl⟩
theorem ykK {K:PySem.W.Frag}{H:Hp}{i:Int}:IsI K H (.int i) (.ty "bool") false:=⟨_,_,.int i,rfl,by with_unfolding_all rfl⟩
theorem ymi {K:PySem.W.Frag}{H:Hp}:IsI K H .non (.ty "int") false:=⟨_,_,.non,rfl,by with_unfolding_all rfl⟩
theorem ymj {K:PySem.W.Frag}{H:Hp}{i:Bool}:IsI K H (.bl i) (.ty "bool") true:=⟨_,_,.bl i,rfl,by with_unfolding_all rfl⟩
theorem ymk {K:PySem.W.Frag}{H:Hp}{i:Str}:IsI K H (.str i) (.ty "str") true:=⟨_,_,.str i,rfl,by with_unfolding_all rfl⟩
theorem ykL {K:PySem.W.Frag}{H:Hp}{a:Addr}{xs:List V}(e:H a=some (.lst xs)):IsI K H (.ref a) (.ty "list") true:=⟨_,_,.lst e,rfl,by with_unfolding_all rfl⟩
theorem str_len {v:Int}(h0:0<=v) {k:Nat}(hk:0<k) (h:v<10 ^ k):(Str.ofString (toString v)).length<=k:=toString_length_le h0 hk h
end L2
namespace L2
open PySem
abbrev yCV:R2:=rI0 fun i j=>.int (i+j)
abbrev yCW:R2:=rI0 fun i j=>.int (i-j)
abbrev yCX:R2:=rI CMul fun i j=>.int (i*j)
abbrev yCY:R2:=rI yFp fun i j=>.int (i/j)
abbrev yCZ:R2:=rI (fun _ j=>0<j) fun i j=>.int (i%j)
abbrev yDa:R2:=rI yCP fun i j=>.int (i ^ j.toNat)
abbrev yFV:R2:=rI0 fun i j=>.bl (decide (i<j))
abbrev yFW:R2:=rI0 fun i j=>.bl (decide (i<=j))
abbrev yFX:R2:=rI0 fun i j=>.bl (decide (j<i))
abbrev yFY:R2:=rI0 fun i j=>.bl (decide (j<=i))
abbrev yDb:V->Hp->VK->Prop:=rU fun i=>.int (-i)
def yDc:R2:=fun x y H Q=>∃ i j,x=.str i/\y=.str j/\i.length+j.length<=sizeLine/\Q (.str (i++j)) H
def yFZ:R2:=fun x y H Q=>y=.non/\Q (.bl (decide (x=.non))) H
def yDd:R2:=fun x y H Q=>y=.non/\Q (.bl (!decide (x=.non))) H
def yDe:List V->Hp->VK->Prop:=fun xs H Q=>∃ z,xs=[.str z]/\z.length<=sizeLine/\Q (.int z.length) H
def yzZ (K:PySem.W.Frag):List V->Hp->VK->Prop:=fun xs H Q=>∃ p ys,xs=[.ref p]/\(SqL K H p ys\/SqT K H p ys)/\Q (.int ys.length) H
def yDf:List V->Hp->VK->Prop:=fun xs H Q=>∃ i,xs=[.int i]/\i.natAbs.log2<1920/\Q (.str (toString i)) H
def yFB (K:PySem.W.Frag):List V->Hp->VK->Prop:=fun xs H Q=>∃ x c b,xs=[x,c]/\IsI K H x c b/\Q (.bl b) H
theorem ydq {H:Hp}{p:Addr}(h:H p=none) (o:HO):Same H (upd H p o):=fun b u q=>by rw [yw (yZ q h)];exact q
section
variable {K:PySem.W.Frag}{σ:St}{H:Hp}{Q:VK}{ta tb tc:TE}{tA tB':TT}{t u:TS}{D:Ends}
theorem w_not {Q:Bool->Hp->Prop}:yCI tA σ H Q=tA σ H fun c H1=>Q (!c) H1:=rfl
end
end L2
namespace L2
open PySem
def ywP (cs:List Nat):Int:=cs.foldl (fun (a:Int) (c:Nat)=>a*10+((c:Int)-48)) 0
noncomputable def yAa:List V->Hp->VK->Prop:=fun xs H Q=>∃ x:Str,xs=[.str x]/\x.cps.toList≠[]/\(∀ c∈x.cps.toList,48<=c/\c<=57)/\x.length<=640/\Q (.int (ywP x.cps.toList)) H
def yFC:R2:=fun x y H Q=>∃ (c:Nat) (j:Str),x=.str ⟨#[c]⟩/\y=.str j/\Q (.bl (decide (c∈j.cps.toList))) H
noncomputable def yqm:V->List V->Hp->VK->Prop:=fun x vs H Q=>∃ (z:Str) (c:Nat),x=.str z/\vs=[.str ⟨#[c]⟩]/\z.length<=1000/\c∈z.cps.toList/\Q (.int (z.cps.toList.idxOf c)) H
noncomputable def rJoin:V->List V->Hp->VK->Prop:=fun x vs H Q=>∃ (sep:Str) (p:Addr) (ts:List Str),x=.str sep/\vs=[.ref p]/\H p=some (.lst (ts.map V.str))/\sep.length<=16/\(ts.map (·.length)).sum+ts.length<=1048576/\Q (.str (Str.join sep ts)) H
noncomputable def yFD:List V->Hp->VK->Prop:=fun xs H Q=>∃ (p:Addr) (bs:List Bool),xs=[.ref p]/\H p=some (.lst (bs.map V.bl))/\Q (.bl (bs.all id)) H
noncomputable def yFE:List V->Hp->VK->Prop:=fun xs H Q=>∃ (p:Addr) (ns:List Int),xs=[.ref p]/\H p=some (.lst (ns.map V.int))/\Q (.int ns.sum) H
def ywQ (K:PySem.W.Frag):List V->Hp->VK->Prop:=fun xs H Q=>∃ p ys,xs=[.ref p]/\(SqL K H p ys\/SqT K H p ys)/\∀ l,H l=none->Q (.ref l) (upd H l (.lst ys))
noncomputable def Its (z:Str):It:=⟨fun i _=>i<z.length,fun i H x H'=>H'=H/\∃ c,z.cps.toList[i]?=some c/\x=.str ⟨#[c]⟩,fun i _=>i=z.length⟩
def yFF (ta:TE):TI:=fun σ H R=>ta σ H fun x H1=>∃ z,x=.str z/\z.length<=sizeLine/\R (Its z) H1
noncomputable def yDg (J:It) (te:TE) (inn:V->St) (D:Addr) (Q:VK) (H:Hp):Prop:=∃ W:Nat->Nat->Hp->Prop,(∃ m,W 0 m H)/\∀ i m H,W i m H ->
 (J.stop i H/\Q (.ref D) H)\/(J.go i H/\∀ x H',J.yld i H x H'->te (inn x) H' fun y H2=>∃ acc,H2 D=some (.lst acc)/\acc.length<sizeLine/\∃ m',m'<m/\W (i+1) m' (upd H2 D (.lst (acc++[y]))))
def inner (ix:List Nat) (σ:St) (x:V):St:=some x::ix.map fun i=>(σ[i]?).getD none
def yoR (wi:TI) (ix:List Nat) (te:TE):TE:=fun σ H Q=>wi σ H fun J H1=>∀ D,H1 D=none->yDg J te (inner ix σ) D Q (upd H1 D (.lst []))
section
variable {K:PySem.W.Frag}{σ:St}{H:Hp}{Q:VK}{ta tb tc:TE}{tA tB':TT}{t u:TS}{D:Ends}
end
end L2
namespace L2
open PySem
def yvI (C:Addr):TE:=fun _ H Q=>∀ x dx,H x=none->H dx=none->dx≠x->Q (.ref x) (upd (upd H dx (.own x)) x (.ins C dx []))
noncomputable def yvJ {κ:Type}(A:κ->Addr) (m:Str) (sp:κ->Sp) (ta:TE):TE:=fun σ H Q=>ta σ H fun x H1=>∃ a k dx fs,x=.ref a/\H1 a=some (.ins (A k) dx fs)/\fs.lookup m=none/\sp k [x] H1 Q E0
theorem yDh {k:Str}{v:V}{r:List (Str×V)}:List.lookup k ((k,v)::r)=some v:=by simp [List.lookup]
theorem yAb {k k':Str}{v:V}{r:List (Str×V)}(h:¬ k=k'):List.lookup k ((k',v)::r)=List.lookup k r:=by
 have:(k == k')=false:=by simpa using h
 simp [List.lookup,this]
section
variable {K:PySem.W.Frag}{σ:St}{H:Hp}{Q:VK}{ta tb tc:TE}{t u:TS}{D:Ends}
end
end L2
namespace L2
open PySem PySem.Builtin PySem.Builtin.Str
theorem at_one {z:Str}{c i:Nat}:StrLaws.At z ⟨#[c]⟩ z.length i ↔ z.cps.toList[i]?=some c:=by
 unfold StrLaws.At subAt
 have e1:(⟨#[c]⟩:Str).length=1:=rfl
 rw [e1]
 have e2:(z.cps.extract i (i+1) == (⟨#[c]⟩:Str).cps)=true ↔ z.cps.extract i (i+1) = #[c]:=by simp
 rw [e2]
 constructor
 .rintro ⟨h1,h2⟩
  have h3:(z.cps.extract i (i+1)).toList=[c]:=by rw [h2]
  rw [Array.toList_extract,List.extract_eq_take_drop] at h3
  have h4:((z.cps.toList.drop i).take (i+1-i))[0]?=some c:=by rw [h3];rfl
  rw [List.getElem?_take_of_lt (by omega),List.getElem?_drop] at h4
  simpa using h4
 .intro h
  obtain ⟨hlt,hc⟩:=List.getElem?_eq_some_iff.mp h
  have hl:i<z.length:=by simpa [Str.length] using hlt
  refine ⟨by omega,?_⟩
  apply Array.ext'
  rw [Array.toList_extract,List.extract_eq_take_drop]
  have e:i+1-i=1:=by omega
  rw [e,List.drop_eq_getElem_cons hlt,hc]
  rfl
theorem yqn (z:Str) (c:Nat):(occurrences z ⟨#[c]⟩ 0 z.length 1=[]/\c∉z.cps.toList)\/∃ r,occurrences z ⟨#[c]⟩ 0 z.length 1=z.cps.toList.idxOf c::r/\c∈z.cps.toList:=by
 rcases StrLaws.occ_head z ⟨#[c]⟩ 1 (Nat.le_refl _) with ⟨h1,h2⟩|⟨i,r,h1,h2,h3⟩
 .refine .inl ⟨h1,fun hc=>?_⟩
  obtain ⟨i,hi,e⟩:=getElem_of_mem hc
  exact h2 i (at_one.mpr (List.getElem?_eq_some_iff.mpr ⟨hi,e⟩))
 .have hi:=at_one.mp h2
  obtain ⟨hlt,hc⟩:=List.getElem?_eq_some_iff.mp hi
  have hm:c∈z.cps.toList:=mem_of_getElem? hi
  refine .inr ⟨r,?_,hm⟩
  have hj:z.cps.toList.idxOf c<z.cps.toList.length:=List.idxOf_lt_length_of_mem hm
  have hg:z.cps.toList[z.cps.toList.idxOf c]?=some c:=by
   rw [List.getElem?_eq_getElem hj,List.getElem_idxOf hj]
  have e:i=z.cps.toList.idxOf c:=by
   rcases Nat.lt_trichotomy i (z.cps.toList.idxOf c) with h|h|h
   .exact absurd hc (by
     have:=List.not_of_lt_findIdx (p:=(· == c)) (xs:=z.cps.toList) (i:=i) (by simpa [idxOf] using h)
     simpa using this)
   .exact h
   .exact absurd (at_one.mpr hg) (h3 _ h)
  rw [h1,e]
end L2
namespace L2
open PySem PySem.Spec PyProof.Rows
theorem yci {env:Env}(y:Str):∀ names:List (Str×NameKind),
  (names.map fun (n,k)=>if (k == NameKind.free && env.scope.kind == .function && env.kindOf n == some .cell) then (n,NameKind.cell) else (n,k)).lookup y
   = (names.lookup y).map fun k=>if (k == NameKind.free && env.scope.kind == .function && env.kindOf y == some .cell) then NameKind.cell else k
 | []=>rfl
 | (n,k)::r=>by
  have ih:=yci (env:=env) y r
  show List.lookup y ((if (k == NameKind.free && env.scope.kind == .function && env.kindOf n == some .cell)=true then (n,NameKind.cell) else (n,k))::_)=_
  cases hx:y == n with
  | true =>
   have e:y=n:=eq_of_beq hx
   subst e
   by_cases hc:(k == NameKind.free && env.scope.kind == .function && env.kindOf y == some .cell)=true
   .rw [if_pos hc]
    simp only [lookup_cons,hx,map_some,if_pos hc]
   .rw [if_neg hc]
    simp only [lookup_cons,hx,map_some,if_neg hc]
  | false =>
   by_cases hc:(k == NameKind.free && env.scope.kind == .function && env.kindOf n == some .cell)=true
   .rw [if_pos hc];simp only [lookup_cons,hx];exact ih
   .rw [if_neg hc];simp only [lookup_cons,hx];exact ih
theorem ydr {env:Env}:∀ (names:List (Str×NameKind)) (cs:List (Str×Addr)),(∀ n,(n,NameKind.free)∈names->∃ c,env.cells.lookup n=some c) ->
  ∃ cl,(forIn names cs (fun (x:Str×NameKind) (r:List (Str×Addr))=>if (x.2 == NameKind.free)=true then do let c <- cellOf env x.1;pure (ForInStep.yield ((x.1,c)::r)) else pure (ForInStep.yield r)):Sem (List (Str×Addr)))=pure cl /\
   (∀ y,(y,NameKind.free)∈names->cl.lookup y=env.cells.lookup y)/\(∀ y,(y,NameKind.free)∉names->cl.lookup y=cs.lookup y)
 | [],cs,_=>⟨cs,rfl,fun y h=>by simp at h,fun y _=>rfl⟩
 | (n,k)::r,cs,h=>by
  by_cases hk:k=.free
  .subst hk
   obtain ⟨c,hc⟩:=h n mem_cons_self
   obtain ⟨cl,e,h1,h2⟩:=ydr r ((n,c)::cs) fun y hy=>h y (mem_cons_of_mem _ hy)
   refine ⟨cl,?_,fun y hy=>?_,fun y hy=>?_⟩
   .rw [List.forIn_cons]
    have e0:cellOf env n=pure c:=by unfold cellOf;rw [hc]
    simp only [beq_self_eq_true,if_true,e0,pure_bind]
    exact e
   .by_cases hr:(y,NameKind.free)∈r
    .exact h1 y hr
    .rw [h2 y hr]
     rcases mem_cons.mp hy with z|z
     .cases z
      rw [hc];simp [List.lookup]
     .exact absurd z hr
   .have hr:(y,NameKind.free)∉r:=fun z=>hy (mem_cons_of_mem _ z)
    rw [h2 y hr]
    have hn:(y == n)=false:=by
     cases e:y == n with
     | false=>rfl
     | true=>exact absurd (by rw [eq_of_beq e];exact mem_cons_self) hy
    simp [List.lookup,hn]
  .obtain ⟨cl,e,h1,h2⟩:=ydr r cs fun y hy=>h y (mem_cons_of_mem _ hy)
   have hb:(k == NameKind.free)=false:=by simpa using hk
   refine ⟨cl,?_,fun y hy=>?_,fun y hy=>?_⟩
   .rw [List.forIn_cons]
    simp only [hb,Bool.false_eq_true,if_false,pure_bind]
    exact e
   .rcases mem_cons.mp hy with z|z
    .cases z;exact absurd rfl hk
    .exact h1 y z
   .exact h2 y fun z=>hy (mem_cons_of_mem _ z)
noncomputable def cxC (X:Cx) (scope:Scope) (cl:List (Str×Addr)) (C:Addr) (N:List Str) (s₃:Shared) (H₃:Hp) (fp:List Addr) (pins:List (Addr×Obj)):Cx :=
 { prog:=X.prog,w:=X.w,K:=X.K,mg:=X.mg,base:=X.base,A:=X.A,N:=N,s₀:=s₃,H₀:=H₃,env:=compEnvC scope cl C X.env,outer:=X.stack,stack:=X.stack,ex:=fp,fn:=fun _=>false,calm:=X.calm,pn:=X.pn++pins,xe:=fun _ _=>False }
noncomputable def FrOk (X:Cx) (scope:Scope):List Nat->List Str->Prop
 | [],[]=>True
 | i::is,y::ys=>X.N[i]?=some y/\scope.names.lookup y=some .free/\X.env.kindOf y=some .cell/\FrOk X scope is ys
 | _,_=>False
theorem FrOk.len {X:Cx}{scope:Scope}:∀ {is:List Nat}{ys:List Str},FrOk X scope is ys->is.length=ys.length
 | [],[],_=>rfl
 | _::is,_::ys,h=>by rw [length_cons,length_cons,FrOk.len h.2.2.2]
theorem FrOk.get {X:Cx}{scope:Scope}:∀ {is:List Nat}{ys:List Str}{j:Nat}{y:Str},FrOk X scope is ys->ys[j]?=some y->∃ i,is[j]?=some i/\X.N[i]?=some y/\scope.names.lookup y=some .free/\X.env.kindOf y=some .cell
 | [],[],_,_,_,e=>by simp at e
 | [],_::_,_,_,h,_=>h.elim
 | _::_,[],_,_,h,_=>h.elim
 | i::is,z::ys,0,y,h,e=>by
  simp at e
  subst e
  exact ⟨i,rfl,h.1,h.2.1,h.2.2.1⟩
 | i::is,z::ys,j+1,y,h,e=>by
  obtain ⟨k,h1,h2⟩:=FrOk.get (j:=j) h.2.2.2 (by simpa using e)
  exact ⟨k,by simpa using h1,h2⟩
end L2
namespace L2
open PySem PySem.Spec PyProof.Rows
theorem yts {P:Program}{w:World}{K:PySem.W.Frag}{tg:Expr}{ty:String}(hty:ty = "str_ascii_iterator"\/ty = "str_iterator") (z:Str) (t:Tok) (it:Addr):Turn P w K tg (Its z) [it] it (fun i h=>h.IsStrIter it ty z t i) where
 mem:=by simp
 obj:=fun i h st b hb=>by
  have e:b=it:=by simpa using hb
  subst e
  obtain ⟨o,e,c,d⟩:=st
  exact ⟨o,e,fun v q=>by rw [d] at q;cases q⟩
 keep:=fun i h h' st k=>by
  obtain ⟨o,e,c,d⟩:=st
  exact ⟨o,k it (by simp) o e,c,d⟩
 item:=by
  intro X hP hw hK hc i pins s σ H E I hf st hg
  subst hP hw hK
  obtain ⟨f0,f1,f2,f3,f4,f5⟩:=hf it (by simp)
  have hg:i<z.length:=hg
  obtain ⟨ch,hz⟩:∃ ch,z.cps[i]?=some ch:=⟨_,Array.getElem?_eq_getElem (show i<z.cps.size from hg)⟩
  have fin:∀ h',h'.IsStrIter it ty z t (i+1)->Heap.SameBut it s.heap h'->∃ u,some (Value.str ⟨#[ch]⟩ s.toks)=some u /\
    wpAny (model X.prog X.w) X.A (letOwnedTupleGo tg (.ref it) u) (fun _ s2=>∃ x H',Inv X pins σ H' s2/\RelV x u/\(Its z).yld i H x H'/\s2.heap.IsStrIter it ty z t (i+1)/\∀ b∈[it],H' b=none) E { s with heap:=h',toks:=s.toks+1 }:=fun h' st' sb=>by
   have I1:Inv X pins σ H { s with heap:=h',toks:=s.toks+1 }:=I.turned (t':=s.toks+1) (fun b o hb e=>(sb.2 b hb).trans e) f0 f1 f3 f4 f5
   obtain ⟨o,e,c,d⟩:=id st'
   refine ⟨_,rfl,ypK (s:={ s with heap:=h',toks:=s.toks+1 }) e c d (by rcases hty with rfl|rfl<;>decide) ⟨.str ⟨#[ch]⟩,H,I1,⟨_,rfl⟩,⟨rfl,_,by simpa using hz,rfl⟩,st',fun b hb=>(hf b hb).1⟩⟩
  rcases hty with rfl|rfl
  .exact wpAny_pyNext_ascii_item st hz fun h' st' sb=>fin h' st' sb
  .exact wpAny_pyNext_wide_item st hz fun h' st' sb=>fin h' st' sb
 done:=by
  intro X hP hw hK hc i pins s σ H E I hf st hg
  subst hP hw hK
  obtain ⟨f0,f1,f2,f3,f4,f5⟩:=hf it (by simp)
  have hg:i=z.length:=hg
  have hz:z.cps[i]?=none:=by simp [hg,Str.length]
  rcases hty with rfl|rfl
  .exact wpAny_pyNext_ascii_end (I.ok.hd hc) st hz fun h' eb=>⟨rfl,I.turned (t':=s.toks) (fun b o hb e=>eb b o hb e) f0 f1 f3 f4 f5⟩
  .exact wpAny_pyNext_wide_end (I.ok.hd hc) st hz fun h' eb=>⟨rfl,I.turned (t':=s.toks) (fun b o hb e=>eb b o hb e) f0 f1 f3 f4 f5⟩
 self:=fun _ _ _ _ _ st h=>by
  rcases hty with rfl|rfl
  .exact wpAny_pyIter_striter_ascii st h
  .exact wpAny_pyIter_striter_wide st h
section
variable {X:Cx}{tg:Expr}
theorem yAc {l:Expr}{tl:TE}(hl:PE X l tl):PI X tg l (yFF tl):=by
 intro pins s σ H R I h
 refine thn (hl pins s σ H _ I h) fun v s1 ⟨x,H1,I1,r1,q1⟩=>?_
 obtain ⟨z,e,hz,q⟩:=q1
 subst e
 obtain ⟨t,rfl⟩:=r1
 have fin:∀ ty,(ty = "str_ascii_iterator"\/ty = "str_iterator")->PIE X pins σ tg R (.ref s1.heap.objs.size) { s1 with heap:=s1.heap.push { cls:=.type ty,data:=.fields #[.str z t,.int 0 0] } }:=fun ty hty=>by
  refine ⟨s1.heap.objs.size,[s1.heap.objs.size],_,_,H1,rfl,I1.kept (t':=s1.toks) fun b o e=>Heap.get?_push_of_some _ e,yts hty z t _,⟨_,Heap.get?_push_size _ rfl,rfl,rfl⟩,fun b hb=>?_,q⟩
  have e:b=s1.heap.objs.size:=by simpa using hb
  subst e
  exact I1.fpOk (Nat.le_refl _) (I1.hok.fresh (Nat.le_refl _))
 cases ha:z.cps.all (· < 128)
 .exact wpAny_pyIter_wide ha (fin _ (.inr rfl))
 .exact wpAny_pyIter_ascii ha (fin _ (.inl rfl))
theorem yjz:∀ {bs:List Bool}{us:List Value},Vals (bs.map V.bl) us->us=bs.map Value.bool
 | [],_,.nil=>rfl
 | b::bs,_,.cons r t=>by rw [show _=Value.bool b from r,yjz t];rfl
theorem ynA (hc:X.calm=true):yfg X (.builtin "all") yFD:=by
 intro pins s σ H xs us Q I r h
 obtain ⟨p,bs,rfl,hp,q⟩:=h
 obtain ⟨u,rfl,rx⟩:=vals1 r
 cases rx
 obtain ⟨its,n,rv,e,hz⟩:=I.lst hp
 have eb:=yjz rv
 subst eb
 have hl:s.heap.IsList p (bs.map Value.bool).toArray:=⟨_,e,rfl,n,rfl⟩
 have hlt:p<s.heap.objs.size:=Heap.lt_size e
 refine call_all_walk (wpAny_pyIter_list hl ?_)
 refine ⟨s.heap.objs.size,[s.heap.objs.size,p],[s.heap.objs.size],(bs.map Value.bool).toArray.size,_,_,fun i=>(bs[i]?).getD true,rfl,Walks.list (A:=X.A.in1) (I.ok.hd hc) _ p (ne_of_lt hlt) _,
  ⟨⟨_,Heap.get?_push_size _ rfl,rfl,rfl⟩,hl.push _⟩,fun i v s' Q' E' hP hQ=>?_,fun h' tk hk=>?_⟩
 .have hP:(bs.map Value.bool)[i]?=some v:=by simpa using hP
  rw [getElem?_map] at hP
  cases eb:bs[i]? with
  | none=>rw [eb] at hP;cases hP
  | some b =>
   rw [eb] at hP
   cases hP
   simp only [eb,Option.getD_some] at hQ
   exact wpAny_truthy_bool hQ
 .have ea:((List.range (bs.map Value.bool).toArray.size).all fun i=>(bs[i]?).getD true)=bs.all id:=by
   rw [size_toArray,length_map]
   exact LSm.range_all bs
  rw [ea]
  exact ⟨.bl _,H,I.kept (t':=tk) fun b o eo=>hk b o (fun hm=>by rw [List.mem_singleton.mp hm] at eo;exact absurd (Heap.lt_size eo) (lt_irrefl _)) (Heap.get?_push_of_some _ eo),rfl,q⟩
theorem ytt (hc:X.calm=true):yfg X (.builtin "sum") yFE:=by
 intro pins s σ H xs us Q I r h
 obtain ⟨p,ns,rfl,hp,q⟩:=h
 obtain ⟨u,rfl,rx⟩:=vals1 r
 cases rx
 obtain ⟨its,n,rv,e,hz⟩:=I.lst hp
 have hi:IntsAre its ns:=intsAre_of rv
 have hl:s.heap.IsList p its.toArray:=⟨_,e,rfl,n,rfl⟩
 obtain ⟨xs,hx⟩:=hi.allInts.items
 have hl':s.heap.IsList p (intItems xs):=hx ▸ hl
 refine sum_intListG (I.ok.hd hc) hl' fun h' tk t' hk=>?_
 have e1:ns=xs.toList.map (·.1):=by
  rw [<- nums_intItems,<- hx]
  exact (show numsOf its.toArray.toList=ns from hi.numsOf).symm
 have e2:preSum (numAt xs) xs.size=ns.sum:=by
  rw [preSum_eq,List.take_of_length_le (by simp),e1]
 rw [e2]
 exact ⟨.int ns.sum,H,I.kept (t':=tk) hk,⟨_,rfl⟩,q⟩
theorem yqo:∀ {ts:List Str}{us:List Value},Vals (ts.map V.str) us->StrsAre us ts
 | [],_,.nil=>.nil
 | y::ts,_,.cons r t=>by
  obtain ⟨k,e⟩:=(show ∃ t,_=Value.str y t from r)
  rw [e]
  exact .cons y k (yqo t)
theorem ywR:MtR X "str.join" rJoin:=by
 intro pins s σ H x xs v us Q I rx rv h
 obtain ⟨sep,p,ts,rfl,rfl,hp,h1,h2,q⟩:=h
 obtain ⟨t,rfl⟩:=rx
 obtain ⟨u,rfl,ru⟩:=vals1 rv
 cases ru
 obtain ⟨its,n,r,e,hz⟩:=I.lst hp
 have hl:s.heap.IsList p its.toArray:=⟨_,e,rfl,n,rfl⟩
 refine join_listW hl (yqo r) h1 h2 fun t' k=>⟨.str (Str.join sep ts),H,I.tok k,⟨t',?_⟩,q⟩
 show Value.str (Txt.join sep ts) t'=Value.str (Str.join sep ts) t'
 rw [show Txt.join sep ts=Str.join sep ts from StrLaws.glued_eq_join sep ts]
theorem ykM:OpR X (compareOp .In) yFC:=by
 intro pins s σ H x y v u Q I rx ry h
 obtain ⟨c,j,rfl,rfl,q⟩:=h
 refine ypT pins s σ H _ _ v u Q I rx ry ⟨_,_,rfl,rfl,?_⟩
 have e:(!(Builtin.Str.occurrences j ⟨#[c]⟩ 0 j.length 1).isEmpty)=decide (c∈j.cps.toList):=by
  rcases yqn j c with ⟨h1,h2⟩|⟨r,h1,h2⟩
  .rw [h1];simp [h2]
  .rw [h1];simp [h2]
 rw [e]
 exact q
theorem ytu {C:Addr}{x:Str}{p pos:Pos}(hm:makesIn X.K C=true) (hi:findIn X.K (.ref C) "__init__" = some (some (.builtin "object.__init__"))) (hk:keepIn X.K (.ref C)=true)
  (hg:Gl X x) (hmg:X.mg x=some (.ref C)) (hdb:(x == ("__debug__":Str))=false:=by decide):PE X (.Call (.Name x p) [] [] pos) (yvI C):=by
 intro pins s σ H Q I h
 refine wpAny_Call_Name_kw (yhq I hg hmg ?_ hdb)
 refine PySem.W.callWith_K0 I.kIn hk (wpAny_call ?_)
 have I2:=Inv.made (C:=C) I
 have q:=h (s.heap.objs.size+1) s.heap.objs.size (I.hok.fresh (Nat.le_succ _)) (I.hok.fresh (Nat.le_refl _)) (ne_of_lt (Nat.lt_succ_self _))
 have kin:=I.kIn
 obtain ⟨hh,g,d,t,os⟩:=s
 have Y:=PySem.W.makes_of (M:=model X.prog X.w) kin hm
 refine PySem.W.make_core Y (PySem.W.looks_findIn kin hi) (fun self=>PySem.W.Looks.of_pure (PySem.W.oi_bind self)) (.inr ⟨rfl,rfl⟩) ?_
 have e1:((hh.push emptyDict).push (instObj C hh.objs.size)).get? (hh.objs.size+1)=some (instObj C hh.objs.size):=by
  have:=Heap.get?_push_size (h:=hh.push emptyDict) (o:=instObj C hh.objs.size) rfl
  rwa [Heap.size_push] at this
 have t1:PySem.W.Looks (model X.prog X.w) ((hh.push emptyDict).push (instObj C hh.objs.size)) (typeOf (.ref (hh.objs.size+1))) (.ref C):=(PySem.W.Looks.ld e1).andThen .now
 have t2:PySem.W.Looks (model X.prog X.w) ((hh.push emptyDict).push (instObj C hh.objs.size)) (isInstance (.ref (hh.objs.size+1)) (.type "object")) true:=t1.andThen (Y.top.keeps fun b o e=>Heap.get?_push_of_some _ (Heap.get?_push_of_some _ e))
 refine codeAny_call_builtin PySem.W.oi_plain PySem.W.entry_oi (@PySem.W.check_slot (model X.prog X.w) _ _ _ "object.__init__" "object" "__init__" (.ref (hh.objs.size+1)) [] [] _ PySem.W.oi_kind PySem.W.oi_split t2 (PySem.W.oi_args (.ref (hh.objs.size+1))) ?_)
 show wpAny _ _ (Builtin.«object.__init__» ⟨[.ref (hh.objs.size+1)],[]⟩) _ _ _
 rw [PySem.W.oi_run]
 exact wpAny_pure (And.intro rfl ⟨.ref _,_,I2,rfl,q⟩)
def yml {κ:Type}(P:Program) (w:World) (K:PySem.W.Frag) (mg:Str->Option Value) (base:Heap) (k:Nat) (A:κ->Addr) (m:Str) (sp:κ->Sp):Prop :=
 ∀ c:κ,Cls K (A c)/\((∀ vs H Q E,¬ sp c vs H Q E)\/∃ f fd ps,Meth K (A c) m f/\FnOk P w K mg base CX0 k f fd ps (sp c)/\Binds K fd ps [])
theorem yqp {κ:Type}{A:κ->Addr}{m:Str}{sp:κ->Sp}{k:Nat}{o:Expr}{ta:TE}{apos pos:Pos}{pl:Sem Bool}(he:PE X o ta) (G:yml X.prog X.w X.K X.mg X.base k A m sp) (hr:Room k X.A)
  (ht:eval (.Call (.Attribute o m apos) [] [] pos) X.env=(do
   let ov <- eval o X.env
   standAt apos.atName
   let (f,first) <- holding [ov] (getMethod ov m pl)
   callWith pos f first (backTo pos (starEach [] X.env)) (backToKw pos (keywordEach [] X.env))):=by rfl):PE X (.Call (.Attribute o m apos) [] [] pos) (yvJ A m sp ta):=by
 intro pins s σ H Q I h
 refine PySem.W.methodCall_KW (pl:=pl) (thn (he pins s σ H _ I h) fun u s1 ⟨x,H1,I1,rx,a,c,dx,fs,ex,ea,l,q⟩=>?_) ht
 subst ex
 obtain rfl:u=Value.ref a:=rx
 obtain ⟨cl,hn|⟨f,fd,ps,hm,F,hb⟩⟩:=G c
 .exact (hn _ _ _ _ q).elim
 refine ygc I1 ea cl hm l ?_
 exact PySem.W.callWith_K0 (first:=[.ref a]) I1.kIn hm.kp (ykB (us:=[.ref a]) (vs:=[.ref a]) (dvs:=[]) (ds:=[]) F hr hb .nil ykJ I1 (.cons rfl .nil) q)
end
end L2
namespace L2
open PySem PySem.Spec PyProof.Rows
section
variable {X:Cx}
theorem yH:yfg X (.builtin "isinstance") (yFB X.K):=by
 intro pins s σ H xs us Q I r h
 obtain ⟨x,c,b,rfl,⟨t,u',ty,hc,hk⟩,q⟩:=h
 obtain ⟨u,w',rfl,ru,rc⟩:=vals2 r
 have e:w'=u':=by
  cases c<;>first|(cases hc;exact rc)|cases hc
 subst e
 exact ypY I ru ty hk fun tk=>⟨.bl b,H,I.tok tk,rfl,q⟩
theorem yiU:∀ (cs:List Nat) (a:Nat),(∀ c∈cs,48<=c/\c<=57)->((cs.foldl (fun acc c=>acc*10+(c-48)) a:Nat):Int)=cs.foldl (fun (a:Int) (c:Nat)=>a*10+((c:Int)-48)) (a:Int)
 | [],_,_=>rfl
 | c::cs,a,h=>by
  have hc:=h c mem_cons_self
  rw [List.foldl_cons,List.foldl_cons,yiU cs _ fun d hd=>h d (mem_cons_of_mem _ hd)]
  congr 1
  omega
theorem ykN:yfg X (.type "int") yAa:=by
 intro pins s σ H xs us Q I r h
 obtain ⟨z,rfl,hne,hd,hl,q⟩:=h
 obtain ⟨u,rfl,t,rfl⟩:=vals1 r
 have e:=PySem.intText_digits (x:=z) hd hne (by omega)
 have e2:((PySem.NumText.digitsVal z.cps.toList:Nat):Int)=ywP z.cps.toList:=yiU z.cps.toList 0 hd
 rw [e2] at e
 exact PySem.W.KIN.call_text e hl ⟨.int _,H,I.tok _,⟨_,rfl⟩,q⟩
end
end L2
namespace L2
open PySem PySem.Spec PyProof.Rows
section
variable {X:Cx}
theorem ywS {x:Str}{n:Int}{t:Tok}{pos:Pos}(hg:Gl X x) (hm:X.mg x=some (.int n t)) (hd:(x == ("__debug__":Str))=false:=by decide):PE X (.Name x pos) (tC (.int n)):=ylY hg hm ⟨t,rfl⟩ hd
theorem ywT {x:Str}{n:Str}{t:Tok}{pos:Pos}(hg:Gl X x) (hm:X.mg x=some (.str n t)) (hd:(x == ("__debug__":Str))=false:=by decide):PE X (.Name x pos) (tC (.str n)):=ylY hg hm ⟨t,rfl⟩ hd
theorem yqq {x:Str}{a:Addr}{pos:Pos}(hg:Gl X x) (hm:X.mg x=some (.ref a)) (hd:(x == ("__debug__":Str))=false:=by decide):PE X (.Name x pos) (tC (.ref a)):=ylY hg hm rfl hd
theorem yAd {x:Str}{n:String}{pos:Pos}(hg:Gl X x) (hm:X.mg x=none) (hv:bootBuiltins x=some (.type n)) (hn:x≠"__name__":=by decide) (hd:(x == ("__debug__":Str))=false:=by decide):PE X (.Name x pos) (tC (.ty n)):=ywy hg hm hv rfl hn hd
end
end L2
namespace L2
open PySem PySem.Spec PyProof.Rows
theorem ymm {K:PySem.W.Frag}{H:Hp}{i:Int}:IsI K H (.int i) (.ty "str") false:=⟨_,_,.int i,rfl,by with_unfolding_all rfl⟩
theorem ykO {K:PySem.W.Frag}{H:Hp}{i:Int}:IsI K H (.int i) (.ty "list") false:=⟨_,_,.int i,rfl,by with_unfolding_all rfl⟩
theorem yjA {K:PySem.W.Frag}{H:Hp}{i:Int}:IsI K H (.int i) (.ty "tuple") false:=⟨_,_,.int i,rfl,by with_unfolding_all rfl⟩
theorem ykP {K:PySem.W.Frag}{H:Hp}{i:Int}:IsI K H (.int i) (.ty "dict") false:=⟨_,_,.int i,rfl,by with_unfolding_all rfl⟩
theorem yoS {K:PySem.W.Frag}{H:Hp}{i:Bool}:IsI K H (.bl i) (.ty "int") true:=⟨_,_,.bl i,rfl,by with_unfolding_all rfl⟩
theorem yoT {K:PySem.W.Frag}{H:Hp}{i:Bool}:IsI K H (.bl i) (.ty "str") false:=⟨_,_,.bl i,rfl,by with_unfolding_all rfl⟩
theorem ymn {K:PySem.W.Frag}{H:Hp}{i:Bool}:IsI K H (.bl i) (.ty "list") false:=⟨_,_,.bl i,rfl,by with_unfolding_all rfl⟩
theorem ykQ {K:PySem.W.Frag}{H:Hp}{i:Bool}:IsI K H (.bl i) (.ty "tuple") false:=⟨_,_,.bl i,rfl,by with_unfolding_all rfl⟩
theorem ymo {K:PySem.W.Frag}{H:Hp}{i:Bool}:IsI K H (.bl i) (.ty "dict") false:=⟨_,_,.bl i,rfl,by with_unfolding_all rfl⟩
theorem ymp {K:PySem.W.Frag}{H:Hp}{i:Str}:IsI K H (.str i) (.ty "int") false:=⟨_,_,.str i,rfl,by with_unfolding_all rfl⟩
theorem ykR {K:PySem.W.Frag}{H:Hp}{i:Str}:IsI K H (.str i) (.ty "bool") false:=⟨_,_,.str i,rfl,by with_unfolding_all rfl⟩
theorem ykS {K:PySem.W.Frag}{H:Hp}{i:Str}:IsI K H (.str i) (.ty "list") false:=⟨_,_,.str i,rfl,by with_unfolding_all rfl⟩
theorem yjB {K:PySem.W.Frag}{H:Hp}{i:Str}:IsI K H (.str i) (.ty "tuple") false:=⟨_,_,.str i,rfl,by with_unfolding_all rfl⟩
theorem ykT {K:PySem.W.Frag}{H:Hp}{i:Str}:IsI K H (.str i) (.ty "dict") false:=⟨_,_,.str i,rfl,by with_unfolding_all rfl⟩
theorem ykU {K:PySem.W.Frag}{H:Hp}:IsI K H (.non) (.ty "bool") false:=⟨_,_,.non,rfl,by with_unfolding_all rfl⟩
theorem ymq {K:PySem.W.Frag}{H:Hp}:IsI K H (.non) (.ty "str") false:=⟨_,_,.non,rfl,by with_unfolding_all rfl⟩
theorem ykV {K:PySem.W.Frag}{H:Hp}:IsI K H (.non) (.ty "list") false:=⟨_,_,.non,rfl,by with_unfolding_all rfl⟩
theorem yjC {K:PySem.W.Frag}{H:Hp}:IsI K H (.non) (.ty "tuple") false:=⟨_,_,.non,rfl,by with_unfolding_all rfl⟩
theorem ykW {K:PySem.W.Frag}{H:Hp}:IsI K H (.non) (.ty "dict") false:=⟨_,_,.non,rfl,by with_unfolding_all rfl⟩
theorem ymr {K:PySem.W.Frag}{H:Hp}{a:Addr}{xs:List V}(e:H a=some (.lst xs)):IsI K H (.ref a) (.ty "int") false:=⟨_,_,.lst e,rfl,by with_unfolding_all rfl⟩
theorem ykX {K:PySem.W.Frag}{H:Hp}{a:Addr}{xs:List V}(e:H a=some (.lst xs)):IsI K H (.ref a) (.ty "bool") false:=⟨_,_,.lst e,rfl,by with_unfolding_all rfl⟩
theorem yms {K:PySem.W.Frag}{H:Hp}{a:Addr}{xs:List V}(e:H a=some (.lst xs)):IsI K H (.ref a) (.ty "str") false:=⟨_,_,.lst e,rfl,by with_unfolding_all rfl⟩
theorem yjD {K:PySem.W.Frag}{H:Hp}{a:Addr}{xs:List V}(e:H a=some (.lst xs)):IsI K H (.ref a) (.ty "tuple") false:=⟨_,_,.lst e,rfl,by with_unfolding_all rfl⟩
theorem ykY {K:PySem.W.Frag}{H:Hp}{a:Addr}{xs:List V}(e:H a=some (.lst xs)):IsI K H (.ref a) (.ty "dict") false:=⟨_,_,.lst e,rfl,by with_unfolding_all rfl⟩
theorem yjE {K:PySem.W.Frag}{H:Hp}{a:Addr}(e:(∃ xs,H a=some (.tup xs))\/∃ o,K.lookup a=some o/\o.cls=.type "tuple"):IsI K H (.ref a) (.ty "tuple") true:=e.elim (fun ⟨_,e⟩=>⟨_,_,.tup e,rfl,by with_unfolding_all rfl⟩) fun ⟨_,e,c⟩=>⟨_,_,.kt e c,rfl,by with_unfolding_all rfl⟩
theorem ymt {K:PySem.W.Frag}{H:Hp}{a:Addr}(e:(∃ xs,H a=some (.tup xs))\/∃ o,K.lookup a=some o/\o.cls=.type "tuple"):IsI K H (.ref a) (.ty "int") false:=e.elim (fun ⟨_,e⟩=>⟨_,_,.tup e,rfl,by with_unfolding_all rfl⟩) fun ⟨_,e,c⟩=>⟨_,_,.kt e c,rfl,by with_unfolding_all rfl⟩
theorem ykZ {K:PySem.W.Frag}{H:Hp}{a:Addr}(e:(∃ xs,H a=some (.tup xs))\/∃ o,K.lookup a=some o/\o.cls=.type "tuple"):IsI K H (.ref a) (.ty "bool") false:=e.elim (fun ⟨_,e⟩=>⟨_,_,.tup e,rfl,by with_unfolding_all rfl⟩) fun ⟨_,e,c⟩=>⟨_,_,.kt e c,rfl,by with_unfolding_all rfl⟩
theorem ymu {K:PySem.W.Frag}{H:Hp}{a:Addr}(e:(∃ xs,H a=some (.tup xs))\/∃ o,K.lookup a=some o/\o.cls=.type "tuple"):IsI K H (.ref a) (.ty "str") false:=e.elim (fun ⟨_,e⟩=>⟨_,_,.tup e,rfl,by with_unfolding_all rfl⟩) fun ⟨_,e,c⟩=>⟨_,_,.kt e c,rfl,by with_unfolding_all rfl⟩
theorem yla {K:PySem.W.Frag}{H:Hp}{a:Addr}(e:(∃ xs,H a=some (.tup xs))\/∃ o,K.lookup a=some o/\o.cls=.type "tuple"):IsI K H (.ref a) (.ty "list") false:=e.elim (fun ⟨_,e⟩=>⟨_,_,.tup e,rfl,by with_unfolding_all rfl⟩) fun ⟨_,e,c⟩=>⟨_,_,.kt e c,rfl,by with_unfolding_all rfl⟩
theorem ylb {K:PySem.W.Frag}{H:Hp}{a:Addr}(e:(∃ xs,H a=some (.tup xs))\/∃ o,K.lookup a=some o/\o.cls=.type "tuple"):IsI K H (.ref a) (.ty "dict") false:=e.elim (fun ⟨_,e⟩=>⟨_,_,.tup e,rfl,by with_unfolding_all rfl⟩) fun ⟨_,e,c⟩=>⟨_,_,.kt e c,rfl,by with_unfolding_all rfl⟩
end L2
namespace L2
open PySem PySem.Spec PyProof.Rows
theorem ytv {K:PySem.W.Frag}{C:Addr}:PySem.W.kitOne K (.ref C) (.ref C)=some true:=by
 unfold PySem.W.kitOne
 have:((Value.ref C) == (Value.ref C))=true:=by simp
 rw [if_pos this]
theorem ytw {K:PySem.W.Frag}{C C':Addr}{b:Bool}(hm:mroIn K C' (.type "object")=some true) (ht:typeIn K (.ref C')=some (.type "type")) (hs:subIn K (.ref C) (.ref C')=some b):PySem.W.kitCls K (.ref C) (.ref C')=some b:=by
 unfold PySem.W.kitCls
 have h1:(PySem.W.clsIn K C').isSome=true:=by
  unfold mroIn at hm
  cases e:PySem.W.clsIn K C' with
  | none=>rw [e] at hm;cases hm
  | some c=>rfl
 have h2:(typeIn K (.ref C') == some (.type "type"))=true:=by rw [ht];simp
 show (if _ then _ else _)=_
 rw [if_pos (by rw [h1,h2];rfl)]
 exact hs
theorem ytx {K:PySem.W.Frag}{C C':Addr}(hn:(C == C')=false) (hm:mroIn K C' (.type "object")=some true) (ht:typeIn K (.ref C')=some (.type "type")) (hs:subIn K (.ref C) (.ref C')=some false):PySem.W.kitOne K (.ref C) (.ref C')=some false:=by
 unfold PySem.W.kitOne
 have:¬ ((Value.ref C) == (Value.ref C'))=true:=by
  intro z
  have z:=eq_of_beq z
  cases z
  simp at hn
 rw [if_neg this]
 exact ytw hm ht hs
end L2
namespace PX
open PySem L2
structure Ck where
 K:PySem.W.Frag
 A:Nat->Addr
inductive PV where
 | non|bl (b:Bool)|int (i:Int)|str (s:Str)|ty (n:String)|cls (k:Nat)
 | scr (ns:List Int)
 | lst (xs:List PV)|tup (xs:List PV)
 | ins (k:Nat) (ns:List Str) (xs:List PV)
 | loc (n:Nat)
inductive Nd where
 | lst (xs:List PV)|dct (ks:List Key) (xs:List PV)|fz (ks:List Key) (xs:List PV)|ins (k:Nat) (ns:List Str) (xs:List PV)|dead
abbrev AH:=List Nd
inductive PVar where|no|val (x:PV)|own (d:Nd)
abbrev PSt:=List PVar
inductive Out where|nx (ρ:PSt)|rt (x:PV)|bk (ρ:PSt)|ct (ρ:PSt)
abbrev XE:=PSt->AH->Option (PV×AH)
abbrev XT:=PSt->AH->Option (Bool×AH)
abbrev XA:=PSt->AH->Option (List PV×AH)
abbrev XO:=PSt->AH->Option (Nd×AH)
abbrev XS:=PSt->AH->Option (Out×AH)
abbrev Fn:=List PV->AH->Option (PV×AH)
def KTp (K:PySem.W.Frag) (a:Addr) (xs:List V):Prop:=∃ (o:Obj) (its:Array Value) (n:Nat),K.lookup a=some o/\o.cls=.type "tuple"/\o.data=.seq its n/\its.size<=sizeLine/\Vals xs its.toList
def TpAt (K:PySem.W.Frag) (F:Hp) (a:Addr) (xs:List V):Prop:=F a=some (.tup xs)\/KTp K a xs
theorem TpAt.mono {K:PySem.W.Frag}{F F':Hp}{a:Addr}{xs:List V}(s:Same F F') (h:TpAt K F a xs):TpAt K F' a xs:=h.elim (fun h=>.inl (s _ _ h)) .inr
mutual
noncomputable def Rep (K:Ck) (F:Hp) (m:List Addr):PV->V->Prop
 | .non,v=>v=.non
 | .bl b,v=>v=.bl b
 | .int i,v=>v=.int i
 | .str s,v=>v=.str s
 | .ty n,v=>v=.ty n
 | .cls k,v=>v=.ref (K.A k)
 | .scr ns,v=>∃ a,v=.ref a/\SqL K.K F a (ns.map V.int)
 | .lst xs,v=>∃ a vs,v=.ref a/\F a=some (.lst vs)/\RepL K F m xs vs
 | .tup xs,v=>∃ a vs,v=.ref a/\TpAt K.K F a vs/\RepL K F m xs vs
 | .ins k ns xs,v=>∃ a dx vs,v=.ref a/\F a=some (.ins (K.A k) dx (ns.zip vs))/\vs.length=ns.length/\RepL K F m xs vs
 | .loc n,v=>∃ a,v=.ref a/\m[n]?=some a
noncomputable def RepL (K:Ck) (F:Hp) (m:List Addr):List PV->List V->Prop
 | [],vs=>vs=[]
 | x::xs,vs=>∃ v r,vs=v::r/\Rep K F m x v/\RepL K F m xs r
end
section
variable {K:Ck}{F F' H H':Hp}{m m':List Addr}
theorem ydz {n:Nat}{a:Addr}(p:m <+: m') (h:m[n]?=some a):m'[n]?=some a:=by
 obtain ⟨r,rfl⟩:=p
 rw [getElem?_append_left (List.getElem?_eq_some_iff.mp h).1];exact h
mutual
theorem Rep.mono (s:Same F F') (p:m <+: m'):∀ (x:PV) (v:V),Rep K F m x v->Rep K F' m' x v
 | .non,_,h=>h
 | .bl _,_,h=>h
 | .int _,_,h=>h
 | .str _,_,h=>h
 | .ty _,_,h=>h
 | .cls _,_,h=>h
 | .scr _,_,⟨a,e,h⟩=>⟨a,e,s.seq h⟩
 | .lst xs,_,⟨a,vs,e,h,r⟩=>⟨a,vs,e,s _ _ h,RepL.mono s p xs vs r⟩
 | .tup xs,_,⟨a,vs,e,h,r⟩=>⟨a,vs,e,h.mono s,RepL.mono s p xs vs r⟩
 | .ins _ _ xs,_,⟨a,dx,vs,e,h,l,r⟩=>⟨a,dx,vs,e,s _ _ h,l,RepL.mono s p xs vs r⟩
 | .loc _,_,⟨a,e,h⟩=>⟨a,e,ydz p h⟩
theorem RepL.mono (s:Same F F') (p:m <+: m'):∀ (xs:List PV) (vs:List V),RepL K F m xs vs->RepL K F' m' xs vs
 | [],_,h=>h
 | x::xs,_,⟨v,r,e,h,l⟩=>⟨v,r,e,Rep.mono s p x v h,RepL.mono s p xs r l⟩
end
theorem RepL.len:∀ {xs:List PV}{vs:List V},RepL K F m xs vs->vs.length=xs.length
 | [],_,h=>by rw [show _=[] from h];rfl
 | x::xs,_,⟨v,r,e,h,l⟩=>by rw [e,length_cons,length_cons,RepL.len l]
theorem RepL.get:∀ {xs:List PV}{vs:List V}{i:Nat}{x:PV},RepL K F m xs vs->xs[i]?=some x->∃ v,vs[i]?=some v/\Rep K F m x v
 | x::xs,_,0,y,⟨v,r,e,h,l⟩,q=>by
  simp at q;subst q;subst e;exact ⟨v,rfl,h⟩
 | x::xs,_,i+1,y,⟨v,r,e,h,l⟩,q=>by
  subst e
  obtain ⟨w,h1,h2⟩:=RepL.get (i:=i) l (by simpa using q)
  exact ⟨w,by simpa using h1,h2⟩
theorem RepL.get' {xs:List PV}{vs:List V}{i:Nat}{v:V}(h:RepL K F m xs vs) (e:vs[i]?=some v):∃ x,xs[i]?=some x/\Rep K F m x v:=by
 have hl:=h.len
 have hi:i<vs.length:=(List.getElem?_eq_some_iff.mp e).1
 have hx:xs[i]?=some xs[i]:=List.getElem?_eq_getElem (by omega)
 obtain ⟨w,h1,h2⟩:=h.get hx
 rw [e] at h1;cases h1
 exact ⟨_,hx,h2⟩
theorem RepL.app:∀ {xs ys:List PV}{vs us:List V},RepL K F m xs vs->RepL K F m ys us->RepL K F m (xs++ys) (vs++us)
 | [],_,_,_,h,k=>by rw [show _=[] from h];exact k
 | x::xs,ys,_,us,⟨v,r,e,h,l⟩,k=>by subst e;exact ⟨v,r++us,rfl,h,RepL.app l k⟩
theorem RepL.snoc {xs:List PV}{vs:List V}{x:PV}{v:V}(h:RepL K F m xs vs) (k:Rep K F m x v):RepL K F m (xs++[x]) (vs++[v]):=h.app ⟨v,[],rfl,k,rfl⟩
theorem RepL.drop:∀ {xs:List PV}{vs:List V}(n:Nat),RepL K F m xs vs->RepL K F m (xs.drop n) (vs.drop n)
 | _,_,0,h=>by simpa using h
 | [],_,n+1,h=>by rw [show _=[] from h];rfl
 | x::xs,_,n+1,⟨v,r,e,h,l⟩=>by subst e;simpa using RepL.drop n l
theorem RepL.take:∀ {xs:List PV}{vs:List V}(n:Nat),RepL K F m xs vs->RepL K F m (xs.take n) (vs.take n)
 | _,_,0,h=>by simp;rfl
 | [],_,n+1,h=>by rw [show _=[] from h];rfl
 | x::xs,_,n+1,⟨v,r,e,h,l⟩=>by subst e;exact ⟨v,r.take n,rfl,h,RepL.take n l⟩
theorem RepL.set:∀ {xs:List PV}{vs:List V}{x:PV}{v:V}(i:Nat),RepL K F m xs vs->Rep K F m x v->RepL K F m (xs.set i x) (vs.set i v)
 | [],_,_,_,_,h,_=>by rw [show _=[] from h];rfl
 | y::xs,_,x,v,0,⟨w,r,e,h,l⟩,k=>by subst e;exact ⟨v,r,rfl,k,l⟩
 | y::xs,_,x,v,i+1,⟨w,r,e,h,l⟩,k=>by subst e;exact ⟨w,r.set i v,rfl,h,RepL.set i l k⟩
theorem RepL.of_ints:∀ (ns:List Int),RepL K F m (ns.map PV.int) (ns.map V.int)
 | []=>rfl
 | n::ns=>⟨_,_,rfl,rfl,RepL.of_ints ns⟩
end
noncomputable def NdAt (K:Ck) (F H:Hp) (m:List Addr):Nd->Addr->Prop
 | .dead,a=>∃ o,H a=some o
 | .lst xs,a=>F a=none/\∃ vs,H a=some (.lst vs)/\RepL K F m xs vs
 | .dct ks xs,a=>F a=none/\∃ vs,H a=some (.dK (ks.zip vs))/\vs.length=ks.length/\RepL K F m xs vs
 | .fz ks xs,a=>F a=none/\∃ o vs,H a=some (.frz o (.dK (ks.zip vs)))/\vs.length=ks.length/\RepL K F m xs vs
 | .ins k ns xs,a=>F a=none/\∃ dx vs,H a=some (.ins (K.A k) dx (ns.zip vs))/\vs.length=ns.length/\RepL K F m xs vs
structure Wd where
 F:Hp
 H:Hp
 m:List Addr
 h:AH
structure WOk (K:Ck) (W:Wd):Prop where
 le:Same W.F W.H
 len:W.m.length=W.h.length
 nd:W.m.Nodup
 at_:∀ (n:Nat) (d:Nd) (a:Addr),W.h[n]?=some d->W.m[n]?=some a->NdAt K W.F W.H W.m d a
structure Le (K:Ck) (W W':Wd):Prop where
 ok:WOk K W'
 fs:Same W.F W'.F
 pre:W.m <+: W'.m
 keep:∀ b o,W.H b=some o->b∉W.m->W'.H b=some o
 new:∀ b o,W.H b=some o->b∉W.m->W.F b=none->W'.F b=none
 mn:∀ b∈W'.m,b∉W.m->W.H b=none
 fz:∀ (n:Nat) (ks:List Key) (xs:List PV),W.h[n]?=some (.fz ks xs)->W'.h[n]?=some (.fz ks xs)/\∀ a,W.m[n]?=some a->W'.H a=W.H a
theorem Le.refl {K:Ck}{W:Wd}(h:WOk K W):Le K W W:=⟨h,Same.refl _,prefix_refl _,fun _ _ e _=>e,fun _ _ _ _ e=>e,fun _ h h'=>absurd h h',fun _ _ _ e=>⟨e,fun _ _=>rfl⟩⟩
theorem Le.trans {K:Ck}{W W1 W2:Wd}(a:Le K W W1) (b:Le K W1 W2):Le K W W2 where
 ok:=b.ok
 fs:=a.fs.trans b.fs
 pre:=a.pre.trans b.pre
 keep:=fun c o e n=>b.keep c o (a.keep c o e n) fun z=>by rw [a.mn c z n] at e;cases e
 new:=fun c o e n f=>b.new c o (a.keep c o e n) (fun z=>by rw [a.mn c z n] at e;cases e) (a.new c o e n f)
 mn:=fun c z n=>by
  by_cases hc:c∈W1.m
  .exact a.mn c hc n
  .have:=b.mn c z hc
   cases e:W.H c with
   | none=>rfl
   | some o=>rw [a.keep c o e n] at this;cases this
 fz:=fun n ks xs e=>by
  obtain ⟨e1,q1⟩:=a.fz n ks xs e
  obtain ⟨e2,q2⟩:=b.fz n ks xs e1
  exact ⟨e2,fun c em=>(q2 c (ydz a.pre em)).trans (q1 c em)⟩
abbrev yco (K:Ck) (W:Wd) (x:PV) (v:V):Prop:=Rep K W.F W.m x v
abbrev ycq (K:Ck) (W:Wd) (x:List PV) (v:List V):Prop:=RepL K W.F W.m x v
theorem Le.rep {K:Ck}{W W':Wd}(l:Le K W W') {x:PV}{v:V}(h:yco K W x v):yco K W' x v:=Rep.mono l.fs l.pre x v h
theorem Le.repL {K:Ck}{W W':Wd}(l:Le K W W') {x:List PV}{v:List V}(h:ycq K W x v):ycq K W' x v:=RepL.mono l.fs l.pre x v h
theorem NdAt.mono {K:Ck}{F F' H H':Hp}{m m':List Addr}(s:Same F F') (p:m <+: m') {d:Nd}{a:Addr}(hH:∀ o,H a=some o->H' a=some o) (hF:F a=none->F' a=none) (h:NdAt K F H m d a):NdAt K F' H' m' d a:=by
 cases d with
 | dead=>obtain ⟨o,e⟩:=h;exact ⟨o,hH _ e⟩
 | lst xs=>obtain ⟨f,vs,e,r⟩:=h;exact ⟨hF f,vs,hH _ e,RepL.mono s p _ _ r⟩
 | dct ks xs=>obtain ⟨f,vs,e,l,r⟩:=h;exact ⟨hF f,vs,hH _ e,l,RepL.mono s p _ _ r⟩
 | fz ks xs=>obtain ⟨f,o,vs,e,l,r⟩:=h;exact ⟨hF f,o,vs,hH _ e,l,RepL.mono s p _ _ r⟩
 | ins C ns xs=>obtain ⟨f,dx,vs,e,l,r⟩:=h;exact ⟨hF f,dx,vs,hH _ e,l,RepL.mono s p _ _ r⟩
theorem NdAt.some {K:Ck}{F H:Hp}{m:List Addr}{d:Nd}{a:Addr}(h:NdAt K F H m d a):∃ o,H a=some o:=by
 cases d with
 | dead=>exact h
 | lst xs=>obtain ⟨f,vs,e,r⟩:=h;exact ⟨_,e⟩
 | dct ks xs=>obtain ⟨f,vs,e,r⟩:=h;exact ⟨_,e⟩
 | fz ks xs=>obtain ⟨f,o,vs,e,r⟩:=h;exact ⟨_,e⟩
 | ins C ns xs=>obtain ⟨f,dx,vs,e,r⟩:=h;exact ⟨_,e⟩
structure Good (K:Ck) (W0 W:Wd) (ρ:PSt) (σ:St):Prop where
 le:Le K W0 W
 len:σ.length=ρ.length
 val:∀ (i:Nat) (x:PV),ρ[i]?=some (.val x)->∃ v,σ[i]?=some (some v)/\yco K W x v
 own:∀ (i:Nat) (d:Nd),ρ[i]?=some (.own d)->∃ p,σ[i]?=some (some (.ref p))/\p∉W.m/\W0.H p=none/\d≠.dead/\NdAt K W.F W.H W.m d p
 ne:∀ (i j:Nat) (d d':Nd),i≠j->ρ[i]?=some (.own d)->ρ[j]?=some (.own d')->σ[i]?≠σ[j]?
theorem Good.ok {K:Ck}{W0 W:Wd}{ρ:PSt}{σ:St}(g:Good K W0 W ρ σ):WOk K W:=g.le.ok
theorem Good.step {K:Ck}{W0 W W':Wd}{ρ:PSt}{σ:St}(g:Good K W0 W ρ σ) (l:Le K W W'):Good K W0 W' ρ σ where
 le:=g.le.trans l
 len:=g.len
 val:=fun i x e=>let ⟨v,h1,h2⟩:=g.val i x e;⟨v,h1,l.rep h2⟩
 own:=fun i d e=>by
  obtain ⟨p,h1,h2,h3,h4,h5⟩:=g.own i d e
  obtain ⟨o,ho⟩:=h5.some
  have n':p∉W'.m:=fun z=>by rw [l.mn p z h2] at ho;cases ho
  refine ⟨p,h1,n',h3,h4,h5.mono l.fs l.pre (fun o e=>l.keep p o e h2) fun f=>l.new p o ho h2 f⟩
 ne:=g.ne
theorem WOk.some {K:Ck}{W:Wd}(w:WOk K W) {a:Addr}(h:a∈W.m):∃ o,W.H a=some o:=by
 obtain ⟨n,hn,e⟩:=getElem_of_mem h
 have hl:n<W.h.length:=by rw [<- w.len];exact hn
 exact (w.at_ n W.h[n] a (List.getElem?_eq_getElem hl) (by rw [List.getElem?_eq_getElem hn,e])).some
theorem Le.fresh {K:Ck}{W W':Wd}(l:Le K W W') {p:Addr}(h:W'.H p=none):W.H p=none:=by
 cases e:W.H p with
 | none=>rfl
 | some o =>
  by_cases hm:p∈W.m
  .obtain ⟨o,q⟩:=l.ok.some (l.pre.subset hm)
   rw [h] at q;cases q
  .rw [l.keep p o e hm] at h;cases h
theorem WOk.out {K:Ck}{W:Wd}(w:WOk K W) {p:Addr}(h:W.H p=none):p∉W.m:=fun z=>by
 obtain ⟨o,q⟩:=w.some z
 rw [h] at q;cases q
theorem WOk.ff {K:Ck}{W:Wd}(w:WOk K W) {p:Addr}(h:W.H p=none):W.F p=none:=Same.free w.le h
structure Lf (K:Ck) (W W':Wd):Prop where
 fs:Same W.F W'.F
 pre:W.m <+: W'.m
 fz:∀ (n:Nat) (ks:List Key) (xs:List PV),W.h[n]?=some (.fz ks xs)->W'.h[n]?=some (.fz ks xs)/\∀ a,W.m[n]?=some a->W'.H a=W.H a
theorem Le.lf {K:Ck}{W W':Wd}(l:Le K W W'):Lf K W W':=⟨l.fs,l.pre,l.fz⟩
theorem Lf.refl {K:Ck}{W:Wd}:Lf K W W:=⟨Same.refl _,prefix_refl _,fun _ _ _ e=>⟨e,fun _ _=>rfl⟩⟩
theorem Lf.trans {K:Ck}{W W1 W2:Wd}(a:Lf K W W1) (b:Lf K W1 W2):Lf K W W2:=⟨a.fs.trans b.fs,a.pre.trans b.pre,fun n ks xs e=>by
  obtain ⟨e1,q1⟩:=a.fz n ks xs e
  obtain ⟨e2,q2⟩:=b.fz n ks xs e1
  exact ⟨e2,fun c em=>(q2 c (ydz a.pre em)).trans (q1 c em)⟩⟩
theorem Lf.rep {K:Ck}{W W':Wd}(l:Lf K W W') {x:PV}{v:V}(h:yco K W x v):yco K W' x v:=Rep.mono l.fs l.pre x v h
noncomputable def ybE (K:Ck) (t:TE) (e:XE):Prop:=∀ (W0 W:Wd) (ρ:PSt) (σ:St) (Q:VK) (x:PV) (h':AH),Good K W0 W ρ σ->e ρ W.h=some (x,h') ->
 (∀ v W',W'.h=h'->Le K W W'->yco K W' x v->Q v W'.H)->t σ W.H Q
noncomputable def ylP (K:Ck) (t:TT) (e:XT):Prop:=∀ (W0 W:Wd) (ρ:PSt) (σ:St) (Q:Bool->Hp->Prop) (x:Bool) (h':AH),Good K W0 W ρ σ->e ρ W.h=some (x,h') ->
 (∀ W',W'.h=h'->Le K W W'->Q x W'.H)->t σ W.H Q
noncomputable def ylc (K:Ck) (t:TA) (e:XA):Prop:=∀ (W0 W:Wd) (ρ:PSt) (σ:St) (Q:List V->Hp->Prop) (x:List PV) (h':AH),Good K W0 W ρ σ->e ρ W.h=some (x,h') ->
 (∀ v W',W'.h=h'->Le K W W'->ycq K W' x v->Q v W'.H)->t σ W.H Q
def ylQ (K:Ck) (t:TE) (e:XO):Prop:=∀ (W0 W:Wd) (ρ:PSt) (σ:St) (Q:VK) (d:Nd) (h':AH),Good K W0 W ρ σ->e ρ W.h=some (d,h') ->
 (∀ p W',W'.h=h'->Le K W W'->p∉W'.m->W.H p=none->d≠.dead->NdAt K W'.F W'.H W'.m d p->Q (.ref p) W'.H)->t σ W.H Q
noncomputable def Ends.Ok (K:Ck) (W0 W:Wd) (D:Ends) (h':AH):Out->Prop
 | .nx ρ'=>∀ W' σ',W'.h=h'->Lf K W W'->Good K W0 W' ρ' σ'->D.nx σ' W'.H
 | .bk ρ'=>∀ W' σ',W'.h=h'->Lf K W W'->Good K W0 W' ρ' σ'->D.bk σ' W'.H
 | .ct ρ'=>∀ W' σ',W'.h=h'->Lf K W W'->Good K W0 W' ρ' σ'->D.ct σ' W'.H
 | .rt x=>∀ W' v,W'.h=h'->Le K W0 W'->yco K W' x v->D.rt v W'.H
def yeX (K:Ck) (t:TS) (s:XS):Prop:=∀ (W0 W:Wd) (ρ:PSt) (σ:St) (D:Ends) (o:Out) (h':AH),Good K W0 W ρ σ->s ρ W.h=some (o,h')->Ends.Ok K W0 W D h' o->t D σ W.H
noncomputable def ob {α β:Type}(o:Option (α×AH)) (f:α->AH->Option β):Option β:=o.bind fun q=>f q.1 q.2
theorem yg {α β:Type}{o:Option (α×AH)}{f:α->AH->Option β}{b:β}(h:ob o f=some b):∃ x h',o=some (x,h')/\f x h'=some b:=by
 obtain ⟨⟨x,h'⟩,e,k⟩:=Option.bind_eq_some_iff.mp h
 exact ⟨x,h',e,k⟩
end PX
namespace PX
open PySem L2
variable {K:Ck}
def yf (i:Nat):XE:=fun ρ h=>match ρ[i]? with|some (.val x)=>some (x,h)|_=>none
def xC (x:PV):XE:=fun _ h=>some (x,h)
abbrev P2:=PV->PV->AH->Option (PV×AH)
abbrev P2O:=PV->PV->AH->Option (Nd×AH)
def xOp (p:P2) (a b:XE):XE:=fun ρ h=>ob (a ρ h) fun x h1=>ob (b ρ h1) fun y h2=>p x y h2
def ysP (p:P2O) (a b:XE):XO:=fun ρ h=>ob (a ρ h) fun x h1=>ob (b ρ h1) fun y h2=>p x y h2
def xUn (p:PV->AH->Option (PV×AH)) (a:XE):XE:=fun ρ h=>ob (a ρ h) fun x h1=>p x h1
def oB (x:PV) (h:AH):Option (Bool×AH):=match x with|.bl b=>some (b,h)|_=>none
def yeZ (p p':P2) (a b c:XE):XE:=fun ρ h=>ob (a ρ h) fun x h1=>ob (b ρ h1) fun y h2=>ob (p x y h2) fun z h3=>ob (oB z h3) fun k h3=>if k=true then ob (c ρ h3) fun w h4=>p' y w h4 else some (.bl false,h3)
def yo (a:XE):XT:=fun ρ h=>ob (a ρ h) oB
def yjF (a b:XE):XE:=fun ρ h=>ob (a ρ h) fun x h1=>ob (oB x h1) fun k h1=>if k=true then b ρ h1 else some (.bl false,h1)
def ywU (a:XE):XE:=fun ρ h=>ob (a ρ h) fun x h1=>ob (oB x h1) fun k h1=>some (.bl (!k),h1)
def ywV (a b:XT):XT:=fun ρ h=>ob (a ρ h) fun k h1=>if k=true then b ρ h1 else some (false,h1)
def xOr (a b:XT):XT:=fun ρ h=>ob (a ρ h) fun k h1=>if k=true then some (true,h1) else b ρ h1
def yiV (a:XT):XT:=fun ρ h=>ob (a ρ h) fun k h1=>some (!k,h1)
def xIf (c:XT) (a b:XE):XE:=fun ρ h=>ob (c ρ h) fun k h1=>if k=true then a ρ h1 else b ρ h1
def yh:XA:=fun _ h=>some ([],h)
def yc (a:XE) (r:XA):XA:=fun ρ h=>ob (a ρ h) fun x h1=>ob (r ρ h1) fun xs h2=>some (x::xs,h2)
def yiy (a:XA):XE:=fun ρ h=>ob (a ρ h) fun xs h1=>if xs.length<=1000 then some (.tup xs,h1) else none
def yfi (a:XA):XO:=fun ρ h=>ob (a ρ h) fun xs h1=>if xs.length<=1000 then some (.lst xs,h1) else none
def xFz (e:XO):XE:=fun ρ h=>ob (e ρ h) fun d h1=>match d with|.lst xs=>some (.lst xs,h1)|.ins k ns xs=>some (.ins k ns xs,h1)|_=>none
def yhy (e:XO):XE:=fun ρ h=>ob (e ρ h) fun d h1=>some (.loc h1.length,h1++[d])
def yM (f:Fn) (a:XA):XE:=fun ρ h=>ob (a ρ h) f
def xCB (p:List PV->AH->Option (PV×AH)) (a:XA):XE:=fun ρ h=>ob (a ρ h) p
def yiz (p:List PV->AH->Option (Nd×AH)) (a:XA):XO:=fun ρ h=>ob (a ρ h) p
abbrev PM:=PV->List PV->AH->Option (PV×AH)
def xBM (c:PV->AH->Bool) (p:PM) (o:XE) (a:XA):XE:=fun ρ h=>ob (o ρ h) fun x h1=>if c x h1=true then ob (a ρ h1) fun xs h2=>p x xs h2 else none
def ygT (e:XE):PSt->AH->Option (Option Int×AH):=fun ρ h=>ob (e ρ h) fun x h1=>match x with|.int i=>some (some i,h1)|_=>none
def yjG:PSt->AH->Option (Option Int×AH):=fun _ h=>some (none,h)
def xSl (p:PV->Option Int->Option Int->AH->Option (PV×AH)) (e:XE) (lo hi:PSt->AH->Option (Option Int×AH)):XE:=fun ρ h=>ob (e ρ h) fun x h1=>ob (lo ρ h1) fun l h2=>ob (hi ρ h2) fun u h3=>p x l u h3
def ywW (p:PV->Option Int->Option Int->AH->Option (Nd×AH)) (e:XE) (lo hi:PSt->AH->Option (Option Int×AH)):XO:=fun ρ h=>ob (e ρ h) fun x h1=>ob (lo ρ h1) fun l h2=>ob (hi ρ h2) fun u h3=>p x l u h3
noncomputable def ycf (K:Ck) (r:R2) (p:P2):Prop:=∀ (W:Wd) (x y:PV) (v u:V) (Q:VK) (z:PV) (h':AH),WOk K W->yco K W x v->yco K W y u->p x y W.h=some (z,h')->(∀ w W',W'.h=h'->Le K W W'->yco K W' z w->Q w W'.H)->r v u W.H Q
def yoU (K:Ck) (W:Wd) (d:Nd) (h':AH) (Q:VK):Prop:=∀ p W',W'.h=h'->Le K W W'->p∉W'.m->W.H p=none->d≠.dead->NdAt K W'.F W'.H W'.m d p->Q (.ref p) W'.H
def ynB (K:Ck) (r:R2) (p:P2O):Prop:=∀ (W:Wd) (x y:PV) (v u:V) (Q:VK) (d:Nd) (h':AH),WOk K W->yco K W x v->yco K W y u->p x y W.h=some (d,h')->yoU K W d h' Q->r v u W.H Q
noncomputable def ywX (K:Ck) (r:V->Hp->VK->Prop) (p:PV->AH->Option (PV×AH)):Prop:=∀ (W:Wd) (x:PV) (v:V) (Q:VK) (z:PV) (h':AH),WOk K W->yco K W x v->p x W.h=some (z,h')->(∀ w W',W'.h=h'->Le K W W'->yco K W' z w->Q w W'.H)->r v W.H Q
noncomputable def yhz (K:Ck) (r:List V->Hp->VK->Prop) (p:List PV->AH->Option (PV×AH)):Prop:=∀ (W:Wd) (xs:List PV) (vs:List V) (Q:VK) (z:PV) (h':AH),WOk K W->ycq K W xs vs->p xs W.h=some (z,h')->(∀ w W',W'.h=h'->Le K W W'->yco K W' z w->Q w W'.H)->r vs W.H Q
def yqr (K:Ck) (r:List V->Hp->VK->Prop) (p:List PV->AH->Option (Nd×AH)):Prop:=∀ (W:Wd) (xs:List PV) (vs:List V) (Q:VK) (d:Nd) (h':AH),WOk K W->ycq K W xs vs->p xs W.h=some (d,h')->yoU K W d h' Q->r vs W.H Q
def yiD (K:Ck) (T:String) (c:PV->AH->Bool) (r:V->List V->Hp->VK->Prop) (p:PM):Prop :=
 (∀ (W:Wd) (x:PV) (v:V),WOk K W->yco K W x v->c x W.h=true->tyV K.K T v W.H) /\
 ∀ (W:Wd) (x:PV) (v:V) (xs:List PV) (vs:List V) (Q:VK) (z:PV) (h':AH),WOk K W->yco K W x v->ycq K W xs vs->p x xs W.h=some (z,h')->(∀ w W',W'.h=h'->Le K W W'->yco K W' z w->Q w W'.H)->r v vs W.H Q
theorem ywY (i:Nat):ybE K (ypA i) (yf i):=by
 intro W0 W ρ σ Q x h' g e q
 unfold yf at e
 split at e
 .rename_i y hy
  cases e
  obtain ⟨v,h1,h2⟩:=g.val i _ hy
  exact ⟨v,h1,q v W rfl (.refl g.ok) h2⟩
 .cases e
theorem yoV {v:V}{x:PV}(h:∀ W:Wd,yco K W x v):ybE K (tC v) (xC x):=by
 intro W0 W ρ σ Q y h' g e q
 cases e
 exact q v W rfl (.refl g.ok) (h W)
theorem yqs {i:Int}:ybE K (tC (.int i)) (xC (.int i)):=yoV fun _=>rfl
theorem yqt {i:Str}:ybE K (tC (.str i)) (xC (.str i)):=yoV fun _=>rfl
theorem yAe {i:Bool}:ybE K (tC (.bl i)) (xC (.bl i)):=yoV fun _=>rfl
theorem ywZ:ybE K (tC .non) (xC .non):=yoV fun _=>rfl
theorem yAf {n:String}:ybE K (tC (.ty n)) (xC (.ty n)):=yoV fun _=>rfl
theorem yxa {k:Nat}:ybE K (tC (.ref (K.A k))) (xC (.cls k)):=yoV fun _=>rfl
section
variable {ta tb tc:TE}{ea eb ec:XE}{t:TA}{e:XA}
theorem ynC {r:R2}{p:P2}(o:ycf K r p) (a:ybE K ta ea) (b:ybE K tb eb):ybE K (tOp r ta tb) (xOp p ea eb):=by
 intro W0 W ρ σ Q z h' g e q
 obtain ⟨x,h1,e1,f1⟩:=yg e
 obtain ⟨y,h2,e2,f2⟩:=yg f1
 refine a W0 W ρ σ _ x h1 g e1 fun v W1 w1 l1 r1=>?_
 subst w1
 refine b W0 W1 ρ σ _ y h2 (g.step l1) e2 fun u W2 w2 l2 r2=>?_
 subst w2
 exact o W2 x y v u Q z h' l2.ok (l2.rep r1) r2 f2 fun w W3 w3 l3 r3=>q w W3 w3 (l1.trans (l2.trans l3)) r3
theorem yge {W W1:Wd}{d:Nd}{h':AH}{Q:VK}(l:Le K W W1) (q:yoU K W d h' Q):yoU K W1 d h' Q:=fun p W' e l' n f=>q p W' e (l.trans l') n (l.fresh f)
theorem yxb {r:R2}{p:P2O}(o:ynB K r p) (a:ybE K ta ea) (b:ybE K tb eb):ylQ K (tOp r ta tb) (ysP p ea eb):=by
 intro W0 W ρ σ Q z h' g e q
 obtain ⟨x,h1,e1,f1⟩:=yg e
 obtain ⟨y,h2,e2,f2⟩:=yg f1
 refine a W0 W ρ σ _ x h1 g e1 fun v W1 w1 l1 r1=>?_
 subst w1
 refine b W0 W1 ρ σ _ y h2 (g.step l1) e2 fun u W2 w2 l2 r2=>?_
 subst w2
 exact o W2 x y v u Q z h' l2.ok (l2.rep r1) r2 f2 (yge (l1.trans l2) q)
theorem yAg {r} {p} (o:ywX K r p) (a:ybE K ta ea):ybE K (tUn r ta) (xUn p ea):=by
 intro W0 W ρ σ Q z h' g e q
 obtain ⟨x,h1,e1,f1⟩:=yg e
 refine a W0 W ρ σ _ x h1 g e1 fun v W1 w1 l1 r1=>?_
 subst w1
 exact o W1 x v Q z h' l1.ok r1 f1 fun w W3 w3 l3 r3=>q w W3 w3 (l1.trans l3) r3
theorem yjH {x:PV}{h:AH}{k:Bool}{h':AH}(e:oB x h=some (k,h')):x=.bl k/\h'=h:=by
 unfold oB at e
 split at e
 .cases e;exact ⟨rfl,rfl⟩
 .cases e
theorem yle {r r':R2}{p p':P2}(o:ycf K r p) (o':ycf K r' p') (a:ybE K ta ea) (b:ybE K tb eb) (c:ybE K tc ec):ybE K (ypV r r' ta tb tc) (yeZ p p' ea eb ec):=by
 intro W0 W ρ σ Q z h' g e q
 obtain ⟨x,h1,e1,f1⟩:=yg e
 obtain ⟨y,h2,e2,f2⟩:=yg f1
 obtain ⟨z',h3,e3,f3⟩:=yg f2
 obtain ⟨k,h3',e3',f4⟩:=yg f3
 obtain ⟨rfl,rfl⟩:=yjH e3'
 refine a W0 W ρ σ _ x h1 g e1 fun v W1 w1 l1 r1=>?_
 subst w1
 refine b W0 W1 ρ σ _ y h2 (g.step l1) e2 fun u W2 w2 l2 r2=>?_
 subst w2
 refine o W2 x y v u _ _ _ l2.ok (l2.rep r1) r2 e3 fun w W3 w3 l3 r3=>⟨k,r3,?_⟩
 subst w3
 have l:=l1.trans (l2.trans l3)
 cases k with
 | false =>
  rw [if_neg (by decide)] at f4 ⊢
  cases f4
  exact q _ W3 rfl l rfl
 | true =>
  rw [if_pos rfl] at f4 ⊢
  obtain ⟨w',h4,e4,f5⟩:=yg f4
  refine c W0 W3 ρ σ _ w' h4 (g.step l) e4 fun u' W4 w4 l4 r4=>?_
  subst w4
  exact o' W4 y w' u u' Q z h' l4.ok ((l3.trans l4).rep r2) r4 f5 fun w W5 w5 l5 r5=>q w W5 w5 (l.trans (l4.trans l5)) r5
theorem yjI (a:ybE K ta ea):ylP K (ywE ta) (yo ea):=by
 intro W0 W ρ σ Q k h' g e q
 obtain ⟨x,h1,e1,f1⟩:=yg e
 obtain ⟨rfl,rfl⟩:=yjH f1
 exact a W0 W ρ σ _ _ _ g e1 fun v W1 w1 l1 r1=>⟨k,r1,q W1 w1 l1⟩
theorem yAh (a:ybE K ta ea):ylP K (tB ta) (yo ea):=yjI a
theorem yty (a:ybE K ta ea) (b:ybE K tb eb):ybE K (yzD ta tb) (yjF ea eb):=by
 intro W0 W ρ σ Q z h' g e q
 obtain ⟨x,h1,e1,f1⟩:=yg e
 obtain ⟨k,h1',e1',f2⟩:=yg f1
 obtain ⟨rfl,rfl⟩:=yjH e1'
 refine a W0 W ρ σ _ _ _ g e1 fun v W1 w1 l1 r1=>⟨k,r1,?_⟩
 subst w1
 cases k with
 | false =>
  rw [if_neg (by decide)] at f2 ⊢
  cases f2
  exact q _ W1 rfl l1 rfl
 | true =>
  rw [if_pos rfl] at f2 ⊢
  exact b W0 W1 ρ σ _ z h' (g.step l1) f2 fun v W2 w2 l2 r2=>q v W2 w2 (l1.trans l2) r2
theorem ytz (a:ybE K ta ea):ybE K (yzE ta) (ywU ea):=by
 intro W0 W ρ σ Q z h' g e q
 obtain ⟨x,h1,e1,f1⟩:=yg e
 obtain ⟨k,h1',e1',f2⟩:=yg f1
 obtain ⟨rfl,rfl⟩:=yjH e1'
 cases f2
 exact a W0 W ρ σ _ _ _ g e1 fun v W1 w1 l1 r1=>⟨k,r1,q _ W1 w1 l1 rfl⟩
section
variable {tA tB':TT}{eA eB:XT}
theorem yxc (a:ylP K tA eA) (b:ylP K tB' eB):ylP K (yFh tA tB') (ywV eA eB):=by
 intro W0 W ρ σ Q z h' g e q
 obtain ⟨k,h1,e1,f1⟩:=yg e
 refine a W0 W ρ σ _ _ _ g e1 fun W1 w1 l1=>?_
 subst w1
 cases k with
 | false =>
  rw [if_neg (by decide)] at f1 ⊢
  cases f1
  exact q W1 rfl l1
 | true =>
  rw [if_pos rfl] at f1 ⊢
  exact b W0 W1 ρ σ _ z h' (g.step l1) f1 fun W2 w2 l2=>q W2 w2 (l1.trans l2)
theorem yAi (a:ylP K tA eA) (b:ylP K tB' eB):ylP K (tOr tA tB') (xOr eA eB):=by
 intro W0 W ρ σ Q z h' g e q
 obtain ⟨k,h1,e1,f1⟩:=yg e
 refine a W0 W ρ σ _ _ _ g e1 fun W1 w1 l1=>?_
 subst w1
 cases k with
 | true =>
  rw [if_pos rfl] at f1 ⊢
  cases f1
  exact q W1 rfl l1
 | false =>
  rw [if_neg (by decide)] at f1 ⊢
  exact b W0 W1 ρ σ _ z h' (g.step l1) f1 fun W2 w2 l2=>q W2 w2 (l1.trans l2)
theorem yxd (a:ylP K tA eA):ylP K (yCI tA) (yiV eA):=by
 intro W0 W ρ σ Q z h' g e q
 obtain ⟨k,h1,e1,f1⟩:=yg e
 cases f1
 exact a W0 W ρ σ _ _ _ g e1 fun W1 w1 l1=>q W1 w1 l1
theorem yAj (c:ylP K tA eA) (a:ybE K ta ea) (b:ybE K tb eb):ybE K (tIf tA ta tb) (xIf eA ea eb):=by
 intro W0 W ρ σ Q z h' g e q
 obtain ⟨k,h1,e1,f1⟩:=yg e
 refine c W0 W ρ σ _ _ _ g e1 fun W1 w1 l1=>?_
 subst w1
 cases k with
 | true =>
  rw [if_pos rfl] at f1 ⊢
  exact a W0 W1 ρ σ _ z h' (g.step l1) f1 fun v W2 w2 l2 r2=>q v W2 w2 (l1.trans l2) r2
 | false =>
  rw [if_neg (by decide)] at f1 ⊢
  exact b W0 W1 ρ σ _ z h' (g.step l1) f1 fun v W2 w2 l2 r2=>q v W2 w2 (l1.trans l2) r2
end
theorem yjJ:ylc K ytk yh:=by
 intro W0 W ρ σ Q z h' g e q
 cases e
 exact q [] W rfl (.refl g.ok) rfl
theorem ytA (a:ybE K ta ea) (r:ylc K t e):ylc K (ymc ta t) (yc ea e):=by
 intro W0 W ρ σ Q z h' g e q
 obtain ⟨x,h1,e1,f1⟩:=yg e
 obtain ⟨xs,h2,e2,f2⟩:=yg f1
 cases f2
 refine a W0 W ρ σ _ x h1 g e1 fun v W1 w1 l1 r1=>?_
 subst w1
 exact r W0 W1 ρ σ _ xs _ (g.step l1) e2 fun vs W2 w2 l2 r2=>q (v::vs) W2 w2 (l1.trans l2) ⟨v,vs,rfl,l2.rep r1,r2⟩
def ytB (W:Wd) (p:Addr) (o:HO):Wd:=⟨upd W.F p o,upd W.H p o,W.m,W.h⟩
theorem yjK {W:Wd}{p:Addr}{o:HO}(w:WOk K W) (h:W.H p=none):Le K W (ytB W p o):=by
 have hm:=w.out h
 have hf:=w.ff h
 have sF:Same W.F (upd W.F p o):=ydq hf o
 refine ⟨⟨?_,w.len,w.nd,fun n d a e1 e2=>?_⟩,sF,prefix_refl _,fun b u e _=>ydq h o b u e,fun b u e _ f=>?_,fun b z n=>absurd z n,fun n ks xs e1=>⟨e1,fun a e2=>yw fun z=>hm (z ▸ mem_of_getElem? e2)⟩⟩
 .intro b u e
  show upd W.H p o b=some u
  by_cases hb:b=p
  .subst hb;rw [show (ytB W b o).F b=upd W.F b o b from rfl,yn] at e;rw [yn];exact e
  .rw [show (ytB W p o).F b=upd W.F p o b from rfl,yw hb] at e;rw [yw hb];exact w.le _ _ e
 .have ha:a≠p:=fun z=>hm (z ▸ mem_of_getElem? e2)
  exact (w.at_ n d a e1 e2).mono sF (prefix_refl _) (fun u e=>by rw [show (ytB W p o).H a=upd W.H p o a from rfl,yw ha];exact e) fun f=>(yw ha).trans f
 .have:b≠p:=yZ e h
  rw [show (ytB W p o).F b=upd W.F p o b from rfl,yw this];exact f
def yeQ (W:Wd) (p:Addr) (o:HO):Wd:=⟨W.F,upd W.H p o,W.m,W.h⟩
theorem ycr {W:Wd}{p:Addr}{o:HO}(w:WOk K W) (h:W.H p=none):Le K W (yeQ W p o):=by
 have hm:=w.out h
 refine ⟨⟨?_,w.len,w.nd,fun n d a e1 e2=>?_⟩,Same.refl _,prefix_refl _,fun b u e _=>ydq h o b u e,fun b u e _ f=>f,fun b z n=>absurd z n,fun n ks xs e1=>⟨e1,fun a e2=>yw fun z=>hm (z ▸ mem_of_getElem? e2)⟩⟩
 .exact fun b u e=>ydq h o b u (w.le _ _ e)
 .exact (w.at_ n d a e1 e2).mono (Same.refl _) (prefix_refl _) (fun u e=>ydq h o _ _ e) id
theorem small {n:Nat}(h:n<=1000):n<=sizeLine:=le_of_lt (yhx h)
theorem yxe (a:ylc K t e):ybE K (yFr t) (yiy e):=by
 intro W0 W ρ σ Q z h' g e q
 obtain ⟨xs,h1,e1,f1⟩:=yg e
 split at f1
 .rename_i hl
  cases f1
  refine a W0 W ρ σ _ xs _ g e1 fun vs W1 w1 l1 r1=>⟨small (by rw [r1.len];exact hl),fun p hp=>?_⟩
  have l2:=yjK (o:=.tup vs) l1.ok hp
  exact q (.ref p) (ytB W1 p (.tup vs)) w1 (l1.trans l2) ⟨p,vs,rfl,.inl yn,l2.repL r1⟩
 .cases f1
theorem yxf (a:ylc K t e):ylQ K (yFs t) (yfi e):=by
 intro W0 W ρ σ Q z h' g e q
 obtain ⟨xs,h1,e1,f1⟩:=yg e
 split at f1
 .rename_i hl
  cases f1
  refine a W0 W ρ σ _ xs _ g e1 fun vs W1 w1 l1 r1=>⟨small (by rw [r1.len];exact hl),fun p hp=>?_⟩
  have l2:=ycr (o:=.lst vs) l1.ok hp
  exact q p (yeQ W1 p (.lst vs)) w1 (l1.trans l2) (l1.ok.out hp) (l1.fresh hp) (fun z=>by cases z) ⟨l1.ok.ff hp,vs,yn,r1⟩
 .cases f1
def ytC (W:Wd) (p:Addr) (o:HO):Wd:=⟨upd W.F p o,W.H,W.m,W.h⟩
theorem yqu {W:Wd}{p:Addr}{o:HO}(w:WOk K W) (h:W.H p=some o) (hm:p∉W.m) (hf:W.F p=none):WOk K (ytC W p o)/\Same W.F (upd W.F p o):=by
 have sF:Same W.F (upd W.F p o):=ydq hf o
 refine ⟨⟨?_,w.len,w.nd,fun n d a e1 e2=>?_⟩,sF⟩
 .intro b u e
  by_cases hb:b=p
  .subst hb;rw [show (ytC W b o).F b=upd W.F b o b from rfl,yn] at e;cases e;exact h
  .rw [show (ytC W p o).F b=upd W.F p o b from rfl,yw hb] at e;exact w.le _ _ e
 .have ha:a≠p:=fun z=>hm (z ▸ mem_of_getElem? e2)
  exact (w.at_ n d a e1 e2).mono sF (prefix_refl _) (fun u e=>e) fun f=>(yw ha).trans f
theorem ymv {W W1:Wd}{p:Addr}{o:HO}(l:Le K W W1) (h:W1.H p=some o) (hm:p∉W1.m) (hf:W1.F p=none) (hn:W.H p=none):Le K W (ytC W1 p o):=by
 obtain ⟨k,sF⟩:=yqu l.ok h hm hf
 refine ⟨k,l.fs.trans sF,l.pre,l.keep,fun b u e n f=>?_,l.mn,l.fz⟩
 have:b≠p:=yZ e hn
 rw [show (ytC W1 p o).F b=upd W1.F p o b from rfl,yw this];exact l.new b u e n f
theorem yAk {o:XO}(a:ylQ K ta o):ybE K ta (xFz o):=by
 intro W0 W ρ σ Q z h' g e q
 obtain ⟨d,h1,e1,f1⟩:=yg e
 refine a W0 W ρ σ _ d h1 g e1 fun p W1 w1 l1 hm hn hd at_=>?_
 split at f1
 .rename_i xs
  cases f1
  obtain ⟨hf,vs,hp,r⟩:=at_
  have l2:=ymv l1 hp hm hf hn
  exact q (.ref p) (ytC W1 p (.lst vs)) w1 l2 ⟨p,vs,rfl,yn,RepL.mono (ydq hf _) (prefix_refl _) _ _ r⟩
 .rename_i k ns xs
  cases f1
  obtain ⟨hf,dx,vs,hp,hl,r⟩:=at_
  have l2:=ymv l1 hp hm hf hn
  exact q (.ref p) (ytC W1 p _) w1 l2 ⟨p,dx,vs,rfl,yn,hl,RepL.mono (ydq hf _) (prefix_refl _) _ _ r⟩
 .cases f1
theorem yqv {o:XO}(a:ylQ K ta o):ybE K ta (yhy o):=by
 intro W0 W ρ σ Q z h' g e q
 obtain ⟨d,h1,e1,f1⟩:=yg e
 cases f1
 refine a W0 W ρ σ _ d h1 g e1 fun p W1 w1 l1 hm hn hd at_=>?_
 subst w1
 have pre:W1.m <+: W1.m++[p]:=List.prefix_append _ _
 refine q (.ref p) ⟨W1.F,W1.H,W1.m++[p],W1.h++[d]⟩ rfl ⟨⟨l1.ok.le,?_,?_,fun n d' a e1 e2=>?_⟩,l1.fs,l1.pre.trans pre,l1.keep,l1.new,fun b z n=>?_,fun n ks xs e1=>⟨by
  have:=(l1.fz n ks xs e1).1
  show (W1.h++[d])[n]?=_
  rw [getElem?_append_left (List.getElem?_eq_some_iff.mp this).1];exact this,(l1.fz n ks xs e1).2⟩⟩ ⟨p,rfl,?_⟩
 .show (W1.m++[p]).length=(W1.h++[d]).length
  rw [length_append,length_append,l1.ok.len];rfl
 .show (W1.m++[p]).Nodup
  rw [List.nodup_append]
  refine ⟨l1.ok.nd,by simp,?_⟩
  intro a ha b hb
  simp at hb
  subst hb
  exact fun z=>hm (z ▸ ha)
 .have e1:(W1.h++[d])[n]?=some d':=e1
  have e2:(W1.m++[p])[n]?=some a:=e2
  by_cases hlt:n<W1.h.length
  .rw [getElem?_append_left hlt] at e1
   rw [getElem?_append_left (by rw [l1.ok.len];exact hlt)] at e2
   exact (l1.ok.at_ n d' a e1 e2).mono (Same.refl _) pre (fun _ f1=>f1) id
  .rw [getElem?_append_right (by omega)] at e1
   rw [getElem?_append_right (by rw [l1.ok.len];omega)] at e2
   rw [l1.ok.len] at e2
   cases hk:n-W1.h.length with
   | zero =>
    rw [hk] at e1 e2
    simp at e1 e2
    subst e1 e2
    exact at_.mono (Same.refl _) pre (fun _ f1=>f1) id
   | succ k=>rw [hk] at e1;simp at e1
 .have z:b∈W1.m++[p]:=z
  rcases List.mem_append.mp z with z|z
  .exact l1.mn b z n
  .simp at z;subst z;exact hn
 .show (W1.m++[p])[W1.h.length]?=some p
  rw [<- l1.ok.len];simp
noncomputable def spE (K:Ck) (n:Nat) (f:Fn):Sp:=fun vs H Q _=>∃ (W:Wd) (xs:List PV) (x:PV) (h':AH),W.H=H/\WOk K W/\ycq K W xs vs/\xs.length=n/\f xs W.h=some (x,h')/\∀ v W',W'.h=h'->Le K W W'->yco K W' x v->Q v W'.H
theorem ytD {n:Nat}{f:Fn}{ex:XK}(a:ylc K t e) (hn:∀ ρ h xs h',e ρ h=some (xs,h')->xs.length=n):ybE K (ytl (spE K n f) [] ex t) (yM f e):=by
 intro W0 W ρ σ Q z h' g e' q
 obtain ⟨xs,h1,e1,e2⟩:=yg e'
 refine a W0 W ρ σ _ xs h1 g e1 fun vs W1 w1 l1 r1=>?_
 subst w1
 rw [append_nil]
 exact ⟨W1,xs,z,h',rfl,l1.ok,r1,hn _ _ _ _ e1,e2,fun v W2 w2 l2 r2=>q v W2 w2 (l1.trans l2) r2⟩
theorem ymw:∀ ρ h xs h',yh ρ h=some (xs,h')->xs.length=0:=fun ρ h xs h' e=>by cases e;rfl
theorem ytE {n:Nat}(l:∀ ρ h xs h',e ρ h=some (xs,h')->xs.length=n):∀ ρ h xs h',yc ea e ρ h=some (xs,h')->xs.length=n+1:=fun ρ h xs h' q=>by
 obtain ⟨x,h1,e1,q⟩:=yg q
 obtain ⟨ys,h2,e2,q⟩:=yg q
 cases q
 rw [length_cons,l _ _ _ _ e2]
theorem yvK {r} {p} (o:yhz K r p) (a:ylc K t e):ybE K (tCB r t) (xCB p e):=by
 intro W0 W ρ σ Q z h' g e' q
 obtain ⟨xs,h1,e1,e2⟩:=yg e'
 refine a W0 W ρ σ _ xs h1 g e1 fun vs W1 w1 l1 r1=>?_
 subst w1
 exact o W1 xs vs Q z h' l1.ok r1 e2 fun v W2 w2 l2 r2=>q v W2 w2 (l1.trans l2) r2
theorem yxg {r} {p} (o:yqr K r p) (a:ylc K t e):ylQ K (tCB r t) (yiz p e):=by
 intro W0 W ρ σ Q z h' g e' q
 obtain ⟨xs,h1,e1,e2⟩:=yg e'
 refine a W0 W ρ σ _ xs h1 g e1 fun vs W1 w1 l1 r1=>?_
 subst w1
 exact o W1 xs vs Q z h' l1.ok r1 e2 (yge l1 q)
theorem yvL {T:String}{c} {r} {p} (o:yiD K T c r p) (b:ybE K ta ea) (a:ylc K t e):ybE K (tBM K.K T r ta t) (xBM c p ea e):=by
 intro W0 W ρ σ Q z h' g e' q
 obtain ⟨x,h1,e1,f1⟩:=yg e'
 split at f1
 .rename_i hc
  obtain ⟨xs,h2,e2,f2⟩:=yg f1
  refine b W0 W ρ σ _ x h1 g e1 fun v W1 w1 l1 r1=>⟨o.1 W1 x v l1.ok r1 (by rw [w1];exact hc),?_⟩
  subst w1
  refine a W0 W1 ρ σ _ xs h2 (g.step l1) e2 fun vs W2 w2 l2 r2=>?_
  subst w2
  exact o.2 W2 x v xs vs Q z h' l2.ok (l2.rep r1) r2 f2 fun w W3 w3 l3 r3=>q w W3 w3 (l1.trans (l2.trans l3)) r3
 .cases f1
theorem yxh {T:String}{c} {r} {p} (o:yiD K T c r p) (b:ybE K ta ea):ybE K (yCs K.K T r ta) (xBM c p ea yh):=yvL (t:=ytk) o b yjJ
end
noncomputable def yvM (K:Ck) (t:TO) (e:PSt->AH->Option (Option Int×AH)):Prop:=∀ (W0 W:Wd) (ρ:PSt) (σ:St) (Q:Option Int->Hp->Prop) (x:Option Int) (h':AH),Good K W0 W ρ σ->e ρ W.h=some (x,h') ->
 (∀ W',W'.h=h'->Le K W W'->Q x W'.H)->t σ W.H Q
theorem yoW:yvM K yqc yjG:=by
 intro W0 W ρ σ Q z h' g e q
 cases e
 exact q W rfl (.refl g.ok)
theorem ytF {ta:TE}{ea:XE}(a:ybE K ta ea):yvM K (yzU ta) (ygT ea):=by
 intro W0 W ρ σ Q z h' g e q
 obtain ⟨x,h1,e1,f1⟩:=yg e
 split at f1
 .rename_i i
  cases f1
  exact a W0 W ρ σ _ _ _ g e1 fun v W1 w1 l1 r1=>⟨i,r1,q W1 w1 l1⟩
 .cases f1
noncomputable def yxi (K:Ck) (r:V->Option Int->Option Int->Hp->VK->Prop) (p:PV->Option Int->Option Int->AH->Option (PV×AH)):Prop:=∀ (W:Wd) (x:PV) (v:V) (lo hi:Option Int) (Q:VK) (z:PV) (h':AH),WOk K W->yco K W x v->p x lo hi W.h=some (z,h')->(∀ w W',W'.h=h'->Le K W W'->yco K W' z w->Q w W'.H)->r v lo hi W.H Q
def yqw (K:Ck) (r:V->Option Int->Option Int->Hp->VK->Prop) (p:PV->Option Int->Option Int->AH->Option (Nd×AH)):Prop:=∀ (W:Wd) (x:PV) (v:V) (lo hi:Option Int) (Q:VK) (d:Nd) (h':AH),WOk K W->yco K W x v->p x lo hi W.h=some (d,h')->yoU K W d h' Q->r v lo hi W.H Q
theorem yAl {r} {p} {ta:TE}{ea:XE}{tl th:TO}{el eh} (o:yxi K r p) (a:ybE K ta ea) (b:yvM K tl el) (c:yvM K th eh):ybE K (tSl r ta tl th) (xSl p ea el eh):=by
 intro W0 W ρ σ Q z h' g e q
 obtain ⟨x,h1,e1,f1⟩:=yg e
 obtain ⟨l,h2,e2,f2⟩:=yg f1
 obtain ⟨u,h3,e3,f3⟩:=yg f2
 refine a W0 W ρ σ _ x h1 g e1 fun v W1 w1 l1 r1=>?_
 subst w1
 refine b W0 W1 ρ σ _ l h2 (g.step l1) e2 fun W2 w2 l2=>?_
 subst w2
 refine c W0 W2 ρ σ _ u h3 (g.step (l1.trans l2)) e3 fun W3 w3 l3=>?_
 subst w3
 exact o W3 x v l u Q z h' l3.ok ((l2.trans l3).rep r1) f3 fun w W4 w4 l4 r4=>q w W4 w4 (l1.trans (l2.trans (l3.trans l4))) r4
theorem yxj {r} {p} {ta:TE}{ea:XE}{tl th:TO}{el eh} (o:yqw K r p) (a:ybE K ta ea) (b:yvM K tl el) (c:yvM K th eh):ylQ K (tSl r ta tl th) (ywW p ea el eh):=by
 intro W0 W ρ σ Q z h' g e q
 obtain ⟨x,h1,e1,f1⟩:=yg e
 obtain ⟨l,h2,e2,f2⟩:=yg f1
 obtain ⟨u,h3,e3,f3⟩:=yg f2
 refine a W0 W ρ σ _ x h1 g e1 fun v W1 w1 l1 r1=>?_
 subst w1
 refine b W0 W1 ρ σ _ l h2 (g.step l1) e2 fun W2 w2 l2=>?_
 subst w2
 refine c W0 W2 ρ σ _ u h3 (g.step (l1.trans l2)) e3 fun W3 w3 l3=>?_
 subst w3
 exact o W3 x v l u Q z h' l3.ok ((l2.trans l3).rep r1) f3 (yge (l1.trans (l2.trans l3)) q)
end PX
namespace PX
open PySem L2
variable {K:Ck}
def yI:XS:=fun ρ h=>some (.nx ρ,h)
def ym (s u:XS):XS:=fun ρ h=>ob (s ρ h) fun o h1=>match o with|.nx ρ'=>u ρ' h1|.rt x=>some (.rt x,h1)|.bk ρ'=>some (.bk ρ',h1)|.ct ρ'=>some (.ct ρ',h1)
def ybD (e:XE):XS:=fun ρ h=>ob (e ρ h) fun _ h1=>some (.nx ρ,h1)
def yO (e:XE):XS:=fun ρ h=>ob (e ρ h) fun x h1=>some (.rt x,h1)
def ybF (c:XT) (s u:XS):XS:=fun ρ h=>ob (c ρ h) fun k h1=>if k=true then s ρ h1 else u ρ h1
abbrev XG:=PV->PSt->Option PSt
abbrev XGs:=List PV->PSt->Option PSt
def yu (i:Nat):XG:=fun x ρ=>some (ρ.set i (.val x))
def yAm:XGs:=fun xs ρ=>match xs with|[]=>some ρ|_=>none
def ylf (g:XG) (r:XGs):XGs:=fun xs ρ=>match xs with|[]=>none|x::xs=>(g x ρ).bind fun ρ'=>r xs ρ'
def yzi (n:Nat) (g:XGs):XG:=fun x ρ=>match x with|.tup xs=>if xs.length=n then g xs ρ else none|_=>none
def ycg (e:XE) (g:XG):XS:=fun ρ h=>ob (e ρ h) fun x h1=>(g x ρ).bind fun ρ'=>some (.nx ρ',h1)
def ymx (e:XO) (i:Nat):XS:=fun ρ h=>ob (e ρ h) fun d h1=>some (.nx (ρ.set i (.own d)),h1)
def ysQ:PVar->PVar
 | .own (.lst xs)=>.val (.lst xs)
 | .own (.ins k ns xs)=>.val (.ins k ns xs)
 | v=>v
def ymy (i:Nat) (ρ:PSt):PSt:=ρ.modify i ysQ
def yoX (i:Nat) (s:XS):XS:=fun ρ h=>s (ymy i ρ) h
def yfA (i:Nat) (e:XE):XS:=fun ρ h=>match ρ[i]? with
 | some (.own (.lst xs))=>ob (e ρ h) fun x h1=>if xs.length<100000 then some (.nx (ρ.set i (.own (.lst (xs++[x])))),h1) else none
 | _=>none
def ygb (g:XG) (s:XS):List PV->PSt->AH->Option (Out×AH)
 | [],ρ,h=>some (.nx ρ,h)
 | x::xs,ρ,h=>(g x ρ).bind fun ρ1=>ob (s ρ1 h) fun o h1=>match o with|.nx ρ'=>ygb g s xs ρ' h1|.ct ρ'=>ygb g s xs ρ' h1|.bk ρ'=>some (.nx ρ',h1)|.rt y=>some (.rt y,h1)
def ymz (it:XA) (g:XG) (s:XS):XS:=fun ρ h=>ob (it ρ h) fun xs h1=>ygb g s xs ρ h1
def whl (c:XT) (s:XS):Nat->PSt->AH->Option (Out×AH)
 | 0,_,_=>none
 | n+1,ρ,h=>ob (c ρ h) fun k h1=>if k=true then ob (s ρ h1) fun o h2=>(match o with|.nx ρ'=>whl c s n ρ' h2|.ct ρ'=>whl c s n ρ' h2|.bk ρ'=>some (.nx ρ',h2)|.rt y=>some (.rt y,h2)) else some (.nx ρ,h1)
def yfa (fuel:Nat) (c:XT) (s:XS):XS:=fun ρ h=>whl c s fuel ρ h
def ybA (N:Nat) (s:XS):Fn:=fun xs h=>ob (s (xs.map .val++replicate (N-xs.length) .no) h) fun o h1=>match o with|.rt x=>some (x,h1)|.nx _=>some (.non,h1)|_=>none
def yqx (ρ:PSt) (i:Nat):PVar:=match ρ[i]? with|some (.val y)=>.val y|_=>.no
def yfb (ix:List Nat) (ρ:PSt) (x:PV):PSt:=.val x::ix.map (yqx ρ)
def yhA (e:XE) (inn:PV->PSt):List PV->AH->Option (List PV×AH)
 | [],h=>some ([],h)
 | x::xs,h=>ob (e (inn x) h) fun y h1=>ob (yhA e inn xs h1) fun ys h2=>some (y::ys,h2)
def yfj (it:XA) (ix:List Nat) (e:XE):XO:=fun ρ h=>ob (it ρ h) fun xs h1=>if xs.length<=100000 then ob (yhA e (yfb ix ρ) xs h1) fun ys h2=>some (.lst ys,h2) else none
theorem Ends.Ok.from_ {W0 W W1:Wd}{D:Ends}{h':AH}{o:Out}(l:Lf K W W1) (k:Ends.Ok K W0 W D h' o):Ends.Ok K W0 W1 D h' o:=by
 cases o with
 | nx ρ=>exact fun W' σ' e l' g=>k W' σ' e (l.trans l') g
 | bk ρ=>exact fun W' σ' e l' g=>k W' σ' e (l.trans l') g
 | ct ρ=>exact fun W' σ' e l' g=>k W' σ' e (l.trans l') g
 | rt x=>exact k
section
variable {ta tb:TE}{ea eb:XE}{t u:TS}{s s':XS}{tA:TT}{eA:XT}
theorem ytG:yeX K yzI yI:=by
 intro W0 W ρ σ D o h' g e q
 cases e
 exact q W σ rfl .refl g
theorem yxk (a:yeX K t s) (b:yeX K u s'):yeX K (yCK t u) (ym s s'):=by
 intro W0 W ρ σ D o h' g e q
 obtain ⟨o1,h1,e1,f1⟩:=yg e
 refine a W0 W ρ σ _ o1 h1 g e1 ?_
 cases o1 with
 | nx ρ'=>exact fun W' σ' w l g'=>b W0 W' ρ' σ' D o h' g' (by rw [w];exact f1) (q.from_ l)
 | rt x=>cases f1;exact q
 | bk ρ'=>cases f1;exact q
 | ct ρ'=>cases f1;exact q
theorem ytH (a:ybE K ta ea):yeX K (ypJ ta) (ybD ea):=by
 intro W0 W ρ σ D o h' g e q
 obtain ⟨x,h1,e1,f1⟩:=yg e
 cases f1
 exact a W0 W ρ σ _ x _ g e1 fun v W1 w1 l1 r1=>q W1 σ w1 l1.lf (g.step l1)
theorem yxl (a:ybE K ta ea):yeX K (yFi ta) (yO ea):=by
 intro W0 W ρ σ D o h' g e q
 obtain ⟨x,h1,e1,f1⟩:=yg e
 cases f1
 exact a W0 W ρ σ _ x _ g e1 fun v W1 w1 l1 r1=>q W1 v w1 (g.le.trans l1) r1
theorem yxm (c:ylP K tA eA) (a:yeX K t s) (b:yeX K u s'):yeX K (yFj tA t u) (ybF eA s s'):=by
 intro W0 W ρ σ D o h' g e q
 obtain ⟨k,h1,e1,f1⟩:=yg e
 refine c W0 W ρ σ _ k h1 g e1 fun W1 w1 l1=>?_
 subst w1
 cases k with
 | true =>
  rw [if_pos rfl] at f1 ⊢
  exact a W0 W1 ρ σ D o h' (g.step l1) f1 (q.from_ l1.lf)
 | false =>
  rw [if_neg (by decide)] at f1 ⊢
  exact b W0 W1 ρ σ D o h' (g.step l1) f1 (q.from_ l1.lf)
theorem Good.set {W0 W:Wd}{ρ:PSt}{σ:St}(g:Good K W0 W ρ σ) (i:Nat) {x:PV}{v:V}(r:yco K W x v):Good K W0 W (ρ.set i (.val x)) (σ.set i (some v)) where
 le:=g.le
 len:=by simp [g.len]
 val:=fun j y e=>by
  by_cases hj:i=j
  .subst hj
   by_cases hl:i<ρ.length
   .rw [getElem?_set_self hl] at e
    cases e
    exact ⟨v,getElem?_set_self (by rw [g.len];exact hl),r⟩
   .rw [getElem?_eq_none (by simp;omega)] at e;cases e
  .rw [getElem?_set_ne hj] at e
   obtain ⟨w,h1,h2⟩:=g.val j y e
   exact ⟨w,by rw [getElem?_set_ne hj];exact h1,h2⟩
 own:=fun j d e=>by
  by_cases hj:i=j
  .subst hj
   by_cases hl:i<ρ.length
   .rw [getElem?_set_self hl] at e;cases e
   .rw [getElem?_eq_none (by simp;omega)] at e;cases e
  .rw [getElem?_set_ne hj] at e
   obtain ⟨p,h1,h2⟩:=g.own j d e
   exact ⟨p,by rw [getElem?_set_ne hj];exact h1,h2⟩
 ne:=fun j k d d' hjk e1 e2=>by
  have f:∀ {j:Nat}{d:Nd},(ρ.set i (.val x))[j]?=some (.own d)->i≠j/\ρ[j]?=some (.own d):=fun {j d} e=>by
   by_cases hj:i=j
   .subst hj
    by_cases hl:i<ρ.length
    .rw [getElem?_set_self hl] at e;cases e
    .rw [getElem?_eq_none (by simp;omega)] at e;cases e
   .rw [getElem?_set_ne hj] at e;exact ⟨hj,e⟩
  obtain ⟨a1,a2⟩:=f e1
  obtain ⟨b1,b2⟩:=f e2
  rw [getElem?_set_ne a1,getElem?_set_ne b1]
  exact g.ne j k d d' hjk a2 b2
theorem Good.setO {W0 W:Wd}{ρ:PSt}{σ:St}(g:Good K W0 W ρ σ) (i:Nat) {d:Nd}{p:Addr}(hm:p∉W.m) (h0:W0.H p=none) (hd:d≠.dead) (at_:NdAt K W.F W.H W.m d p)
  (ne:∀ j d',i≠j->ρ[j]?=some (.own d')->σ[j]?≠some (some (.ref p))):Good K W0 W (ρ.set i (.own d)) (σ.set i (some (.ref p))) where
 le:=g.le
 len:=by simp [g.len]
 val:=fun j y e=>by
  by_cases hj:i=j
  .subst hj
   by_cases hl:i<ρ.length
   .rw [getElem?_set_self hl] at e;cases e
   .rw [getElem?_eq_none (by simp;omega)] at e;cases e
  .rw [getElem?_set_ne hj] at e
   obtain ⟨w,h1,h2⟩:=g.val j y e
   exact ⟨w,by rw [getElem?_set_ne hj];exact h1,h2⟩
 own:=fun j d' e=>by
  by_cases hj:i=j
  .subst hj
   by_cases hl:i<ρ.length
   .rw [getElem?_set_self hl] at e
    cases e
    exact ⟨p,getElem?_set_self (by rw [g.len];exact hl),hm,h0,hd,at_⟩
   .rw [getElem?_eq_none (by simp;omega)] at e;cases e
  .rw [getElem?_set_ne hj] at e
   obtain ⟨p,h1,h2⟩:=g.own j d' e
   exact ⟨p,by rw [getElem?_set_ne hj];exact h1,h2⟩
 ne:=fun j k d1 d2 hjk e1 e2=>by
  have self:∀ {j:Nat}{d':Nd},i=j->(ρ.set i (.own d))[j]?=some (.own d')->(σ.set i (some (.ref p)))[j]?=some (some (.ref p)):=fun {j d'} hj e=>by
   subst hj
   by_cases hl:i<ρ.length
   .exact getElem?_set_self (by rw [g.len];exact hl)
   .rw [getElem?_eq_none (by simp;omega)] at e;cases e
  by_cases hj:i=j
  .have hk:i≠k:=fun z=>hjk (hj.symm.trans z)
   rw [self hj e1,getElem?_set_ne hk]
   rw [getElem?_set_ne hk] at e2
   exact (ne k d2 hk e2).symm
  .rw [getElem?_set_ne hj]
   rw [getElem?_set_ne hj] at e1
   by_cases hk:i=k
   .rw [self hk e2]
    exact ne j d1 hj e1
   .rw [getElem?_set_ne hk] at e2 ⊢
    exact g.ne j k d1 d2 hjk e1 e2
noncomputable def yqy (K:Ck) (g:TG) (y:XG):Prop:=∀ (W0 W:Wd) (ρ ρ':PSt) (σ:St) (x:PV) (v:V) (Q:St->Hp->Prop),Good K W0 W ρ σ->yco K W x v->y x ρ=some ρ'->(∀ σ',Good K W0 W ρ' σ'->Q σ' W.H)->g v σ W.H Q
noncomputable def yoY (K:Ck) (g:TGs) (y:XGs):Prop:=∀ (W0 W:Wd) (ρ ρ':PSt) (σ:St) (x:List PV) (v:List V) (Q:St->Hp->Prop),Good K W0 W ρ σ->ycq K W x v->y x ρ=some ρ'->(∀ σ',Good K W0 W ρ' σ'->Q σ' W.H)->g v σ W.H Q
theorem yhB (i:Nat):yqy K (yoG i) (yu i):=by
 intro W0 W ρ ρ' σ x v Q g r e q
 cases e
 exact q _ (g.set i r)
theorem ytI:yoY K yFl yAm:=by
 intro W0 W ρ ρ' σ x v Q g r e q
 cases x with
 | nil=>cases e;exact ⟨r,q _ g⟩
 | cons _ _=>cases e
theorem yqz {g:TG}{gs:TGs}{y:XG}{ys:XGs}(a:yqy K g y) (b:yoY K gs ys):yoY K (yzK g gs) (ylf y ys):=by
 intro W0 W ρ ρ' σ x v Q gd r e q
 cases x with
 | nil=>cases e
 | cons x xs =>
  obtain ⟨v1,vs,rfl,r1,r2⟩:=r
  obtain ⟨ρ1,e1,e2⟩:=Option.bind_eq_some_iff.mp e
  exact ⟨v1,vs,rfl,a W0 W ρ ρ1 σ x v1 _ gd r1 e1 fun σ' g'=>b W0 W ρ1 ρ' σ' xs vs Q g' r2 e2 q⟩
theorem ytJ {n:Nat}{gs:TGs}{ys:XGs}(b:yoY K gs ys):yqy K (yFm K.K n gs) (yzi n ys):=by
 intro W0 W ρ ρ' σ x v Q g r e q
 unfold yzi at e
 split at e
 .rename_i xs
  split at e
  .rename_i hl
   obtain ⟨a,vs,rfl,hs,rs⟩:=r
   exact ⟨a,vs,rfl,(hs.elim (fun h=>SqT.of (g.ok.le _ _ h)) .inr),by rw [rs.len];exact hl,b W0 W ρ ρ' σ xs vs Q g rs e q⟩
  .cases e
 .cases e
theorem yqA {g:TG}{y:XG}(a:ybE K ta ea) (b:yqy K g y):yeX K (yvz ta g) (ycg ea y):=by
 intro W0 W ρ σ D o h' gd e q
 obtain ⟨x,h1,e1,f1⟩:=yg e
 obtain ⟨ρ',e2,f2⟩:=Option.bind_eq_some_iff.mp f1
 cases f2
 exact a W0 W ρ σ _ x _ gd e1 fun v W1 w1 l1 r1=>b W0 W1 ρ ρ' σ x v _ (gd.step l1) r1 e2 fun σ' g'=>q W1 σ' w1 l1.lf g'
theorem ytK {o:XO}(i:Nat) (a:ylQ K ta o):yeX K (yvz ta (yoG i)) (ymx o i):=by
 intro W0 W ρ σ D o h' gd e q
 obtain ⟨d,h1,e1,f1⟩:=yg e
 cases f1
 refine a W0 W ρ σ _ d _ gd e1 fun p W1 w1 l1 hm hn hd at_=>q W1 _ w1 l1.lf ((gd.step l1).setO i hm (gd.le.fresh hn) hd at_ fun j d' hj e hs=>?_)
 obtain ⟨p',h1,h2,_,_,h5⟩:=gd.own j d' e
 rw [h1] at hs
 cases hs
 obtain ⟨o,ho⟩:=h5.some
 rw [hn] at ho;cases ho
theorem Good.frz {W0 W:Wd}{ρ:PSt}{σ:St}(g:Good K W0 W ρ σ) (i:Nat):∃ W',W'.h=W.h/\W'.H=W.H/\Lf K W W'/\Good K W0 W' (ymy i ρ) σ:=by
 unfold ymy
 cases e:ρ[i]? with
 | none=>exact ⟨W,rfl,rfl,.refl,by rw [List.modify_eq_self (by simpa using e)];exact g⟩
 | some v =>
  have hl:i<ρ.length:=(List.getElem?_eq_some_iff.mp e).1
  have em:ρ.modify i ysQ=ρ.set i (ysQ v):=by
   apply List.ext_getElem?
   intro j
   rw [List.getElem?_modify,List.getElem?_set]
   by_cases hj:i=j
   .subst hj
    obtain ⟨_,ev⟩:=List.getElem?_eq_some_iff.mp e
    simp [hl,ev]
   .simp [hj]
  have same:ysQ v=v->∃ W',W'.h=W.h/\W'.H=W.H/\Lf K W W'/\Good K W0 W' (ρ.modify i ysQ) σ:=fun z=>⟨W,rfl,rfl,.refl,by
   rw [em,z]
   have:ρ.set i v=ρ:=by
    apply List.ext_getElem?
    intro j
    by_cases hj:i=j
    .subst hj;rw [getElem?_set_self hl,e]
    .rw [getElem?_set_ne hj]
   rw [this];exact g⟩
  have go:∀ (d:Nd) (x:PV) (p:Addr) (o:HO),v=.own d->ysQ v=.val x->σ[i]?=some (some (.ref p))->p∉W.m->W0.H p=none->W.H p=some o->W.F p=none->(∀ (F':Hp),Same W.F F'->F' p=some o->Rep K F' W.m x (.ref p)) ->
    ∃ W',W'.h=W.h/\W'.H=W.H/\Lf K W W'/\Good K W0 W' (ρ.modify i ysQ) σ:=fun d x p o hv hx hs hm h0 hp hf hr=>by
   obtain ⟨k,sF⟩:=yqu (K:=K) g.ok hp hm hf
   have lf:Lf K W (ytC W p o):=⟨sF,prefix_refl _,fun _ _ _ e=>⟨e,fun _ _=>rfl⟩⟩
   refine ⟨ytC W p o,rfl,rfl,lf,⟨ymv g.le hp hm hf h0,by rw [List.length_modify];exact g.len,fun j y e'=>?_,fun j d' e'=>?_,fun j1 j2 d1 d2 hj e1 e2=>?_⟩⟩
   .rw [em,hx] at e'
    by_cases hj:i=j
    .subst hj
     rw [getElem?_set_self hl] at e'
     cases e'
     exact ⟨_,hs,hr _ sF yn⟩
    .rw [getElem?_set_ne hj] at e'
     obtain ⟨w,a1,a2⟩:=g.val j y e'
     exact ⟨w,a1,lf.rep a2⟩
   .rw [em,hx] at e'
    by_cases hj:i=j
    .subst hj
     rw [getElem?_set_self hl] at e'
     cases e'
    .rw [getElem?_set_ne hj] at e'
     obtain ⟨q,a1,a2,a3,a4,a5⟩:=g.own j d' e'
     have hq:q≠p:=fun z=>g.ne j i d' d (fun z=>hj z.symm) e' (hv ▸ e) (by rw [a1,hs,z])
     exact ⟨q,a1,a2,a3,a4,a5.mono sF (prefix_refl _) (fun _ e=>e) fun f=>(yw hq).trans f⟩
   .rw [em,hx] at e1 e2
    have f:∀ {j:Nat}{d:Nd},(ρ.set i (.val x))[j]?=some (.own d)->ρ[j]?=some (.own d):=fun {j d} e=>by
     by_cases hj:i=j
     .subst hj;rw [getElem?_set_self hl] at e;cases e
     .rw [getElem?_set_ne hj] at e;exact e
    exact g.ne j1 j2 d1 d2 hj (f e1) (f e2)
  cases v with
  | no=>exact same rfl
  | val x=>exact same rfl
  | own d =>
   obtain ⟨p,a1,a2,a3,a4,a5⟩:=g.own i d e
   cases d with
   | lst xs =>
    obtain ⟨hf,vs,hp,r⟩:=a5
    exact go _ (.lst xs) p _ rfl rfl a1 a2 a3 hp hf fun F' s hF=>⟨p,vs,rfl,hF,RepL.mono s (prefix_refl _) _ _ r⟩
   | dct ks xs=>exact same rfl
   | fz ks xs=>exact same rfl
   | ins k ns xs =>
    obtain ⟨hf,dx,vs,hp,hl,r⟩:=a5
    exact go _ (.ins k ns xs) p _ rfl rfl a1 a2 a3 hp hf fun F' s hF=>⟨p,dx,vs,rfl,hF,hl,RepL.mono s (prefix_refl _) _ _ r⟩
   | dead=>exact same rfl
theorem yxn (i:Nat) (a:yeX K t s):yeX K t (yoX i s):=by
 intro W0 W ρ σ D o h' g e q
 obtain ⟨W',e1,e2,l,g'⟩:=g.frz i
 rw [<- e2]
 exact a W0 W' _ σ D o h' g' (by rw [e1];exact e) (q.from_ l)
end
end PX
namespace PX
open PySem L2
variable {K:Ck}
section
variable {ta tb:TE}{ea eb:XE}{t u:TS}{s s':XS}{tA:TT}{eA:XT}
def ysR (W:Wd) (p:Addr) (o:HO):Wd:=⟨W.F,upd W.H p o,W.m,W.h⟩
theorem yxo {W:Wd}{p:Addr}{o:HO}(w:WOk K W) (hm:p∉W.m) (hf:W.F p=none):WOk K (ysR W p o):=by
 refine ⟨fun b u e=>?_,w.len,w.nd,fun n d a e1 e2=>?_⟩
 .have:b≠p:=yZ e hf
  exact (yw this).trans (w.le _ _ e)
 .have ha:a≠p:=fun z=>hm (z ▸ mem_of_getElem? e2)
  exact (w.at_ n d a e1 e2).mono (Same.refl _) (prefix_refl _) (fun u e=>(yw ha).trans e) id
theorem yjL {W W1:Wd}{p:Addr}{o:HO}(l:Le K W W1) (hm:p∉W1.m) (hf:W1.F p=none) (hn:W.H p=none):Le K W (ysR W1 p o) :=
 ⟨yxo l.ok hm hf,l.fs,l.pre,fun b u e n=>(yw (yZ e hn)).trans (l.keep b u e n),l.new,l.mn,fun n ks xs e1=>⟨(l.fz n ks xs e1).1,fun a e2=>(yw (fun (z:a=p)=>hm (z ▸ mem_of_getElem? (ydz l.pre e2)))).trans ((l.fz n ks xs e1).2 a e2)⟩⟩
theorem yqB {W W1:Wd}{p:Addr}{o:HO}(l:Le K W W1) (hm:p∉W1.m):Lf K W (ysR W1 p o) :=
 ⟨l.fs,l.pre,fun n ks xs e1=>⟨(l.fz n ks xs e1).1,fun a e2=>(yw (fun (z:a=p)=>hm (z ▸ mem_of_getElem? (ydz l.pre e2)))).trans ((l.fz n ks xs e1).2 a e2)⟩⟩
theorem Good.mut {W0 W:Wd}{ρ:PSt}{σ:St}(g:Good K W0 W ρ σ) {i:Nat}{d d':Nd}{p:Addr}{o:HO}(e:ρ[i]?=some (.own d)) (hs:σ[i]?=some (some (.ref p))) (hm:p∉W.m) (h0:W0.H p=none) (hf:W.F p=none) (hd:d'≠.dead)
  (at_:NdAt K W.F (upd W.H p o) W.m d' p):Good K W0 (ysR W p o) (ρ.set i (.own d')) σ:=by
 have hl:i<ρ.length:=(List.getElem?_eq_some_iff.mp e).1
 refine ⟨yjL g.le hm hf h0,by rw [length_set];exact g.len,fun j y e'=>?_,fun j d1 e'=>?_,fun j1 j2 d1 d2 hj e1 e2=>?_⟩
 .by_cases hj:i=j
  .subst hj;rw [getElem?_set_self hl] at e';cases e'
  .rw [getElem?_set_ne hj] at e';exact g.val j y e'
 .by_cases hj:i=j
  .subst hj;rw [getElem?_set_self hl] at e';cases e';exact ⟨p,hs,hm,h0,hd,at_⟩
  .rw [getElem?_set_ne hj] at e'
   obtain ⟨q,a1,a2,a3,a4,a5⟩:=g.own j d1 e'
   have hq:q≠p:=fun z=>g.ne j i d1 d (fun z=>hj z.symm) e' e (by rw [a1,hs,z])
   exact ⟨q,a1,a2,a3,a4,a5.mono (Same.refl _) (prefix_refl _) (fun u e=>(yw hq).trans e) id⟩
 .have f:∀ {j:Nat}{d1:Nd},(ρ.set i (.own d'))[j]?=some (.own d1)->∃ d2,ρ[j]?=some (.own d2):=fun {j d1} e'=>by
   by_cases hj:i=j
   .subst hj;exact ⟨d,e⟩
   .rw [getElem?_set_ne hj] at e';exact ⟨_,e'⟩
  obtain ⟨_,f1⟩:=f e1
  obtain ⟨_,f2⟩:=f e2
  exact g.ne j1 j2 _ _ hj f1 f2
theorem big {n:Nat}(h:n<100000):n<sizeLine:=lt_of_lt_of_le h (by decide)
theorem yxp {n:Nat}(h:n<=100000):n<=sizeLine:=Nat.le_trans h (by decide)
theorem ytL (i:Nat) (a:ybE K ta ea):yeX K (ypJ (tBM K.K "list" ymf (ypA i) (ymc ta ytk))) (yfA i ea):=by
 intro W0 W ρ σ D o h' g e q
 unfold yfA at e
 split at e
 .rename_i xs0 hx
  obtain ⟨x,h1,e1,f1⟩:=yg e
  split at f1
  .rename_i hlen
   cases f1
   obtain ⟨p,a1,a2,a3,a4,hf,vs,hp,r⟩:=g.own i _ hx
   refine ⟨.ref p,a1,.inl ⟨rfl,_,SqL.of hp⟩,?_⟩
   refine a W0 W ρ σ _ x _ g e1 fun v W1 w1 l1 r1=>⟨p,vs,v,rfl,rfl,l1.keep _ _ hp a2,by rw [r.len];exact big hlen,?_⟩
   have g1:=g.step l1
   obtain ⟨p',b1,b2,b3,b4,b5,vs',b6,b7⟩:=g1.own i _ hx
   rw [a1] at b1
   cases b1
   rw [l1.keep _ _ hp a2] at b6
   cases b6
   exact q (ysR W1 p (.lst (vs++[v]))) σ w1 (yqB l1 b2) (g1.mut hx a1 b2 b3 b5 (fun z=>by cases z) ⟨b5,_,yn,b7.snoc r1⟩)
  .cases f1
 .cases e
structure yCt (K:Ck) (W:Wd) (J:It) (xs:List PV):Prop where
 go:∀ (i:Nat) (W':Wd),Lf K W W'->WOk K W'->i<xs.length->J.go i W'.H
 yld:∀ (i:Nat) (W':Wd) (v:V) (H2:Hp),Lf K W W'->WOk K W'->i<xs.length->J.yld i W'.H v H2->H2=W'.H/\∃ x,xs[i]?=some x/\yco K W' x v
 stop:∀ (W':Wd),Lf K W W'->WOk K W'->J.stop xs.length W'.H
noncomputable def yvN (K:Ck) (wi:TI) (e:XA):Prop:=∀ (W0 W:Wd) (ρ:PSt) (σ:St) (R:It->Hp->Prop) (xs:List PV) (h':AH),Good K W0 W ρ σ->e ρ W.h=some (xs,h')->(∀ J W',W'.h=h'->Le K W W'->yCt K W' J xs->R J W'.H)->wi σ W.H R
def xIL (e:XE):XA:=fun ρ h=>ob (e ρ h) fun x h1=>match x with|.lst xs=>some (xs,h1)|.scr ns=>some (ns.map .int,h1)|_=>none
def sgn (c:Nat):PV:=.str ⟨#[c]⟩
def xIS (e:XE):XA:=fun ρ h=>ob (e ρ h) fun x h1=>match x with|.str z=>if z.length<=100000 then some (z.cps.toList.map sgn,h1) else none|_=>none
def yhC (lo:Int) (n:Nat):List PV:=(List.range n).map fun (k:Nat)=>.int (lo+(k:Int))
def yqC (a:XA):XA:=fun ρ h=>ob (a ρ h) fun xs h1=>match xs with|[.int j]=>if -1000000000<=j/\j<=1000000000 then some (yhC 0 j.toNat,h1) else none|_=>none
theorem yfk {W:Wd}(w:WOk K W) {a:Addr}{vs:List V}(h:SqL K.K W.F a vs):SqL K.K W.H a vs:=Same.seq w.le h
theorem ycx {W:Wd}(w:WOk K W) {a:Addr}{vs:List V}(h:TpAt K.K W.F a vs):SqT K.K W.H a vs:=h.elim (fun h=>SqT.of (w.le _ _ h)) .inr
theorem yqD (a:ybE K ta ea):yvN K (ytd K.K ta) (xIL ea):=by
 intro W0 W ρ σ R xs h' g e q
 obtain ⟨x,h1,e1,f1⟩:=yg e
 refine a W0 W ρ σ _ x h1 g e1 fun v W1 w1 l1 r1=>?_
 have key:∀ (a:Addr) (vs:List V),v=.ref a->SqL K.K W1.F a vs->RepL K W1.F W1.m xs vs->h1=h'->∃ a,v=.ref a/\(∃ xs,SqL K.K W1.H a xs)/\R (Itl K.K a) W1.H:=fun a vs ev hs rs eh=>by
  subst eh
  refine ⟨a,ev,⟨vs,yfk l1.ok hs⟩,q _ W1 w1 l1 ⟨fun i W' l w hi=>?_,fun i W' v' H2 l w hi hy=>?_,fun W' l w=>?_⟩⟩
  .obtain ⟨v',h1,_⟩:=rs.get (List.getElem?_eq_getElem hi)
   exact ⟨vs,v',yfk w (Same.seq l.fs hs),h1⟩
  .obtain ⟨h1,h2⟩:=hy
   have:=h2 vs (yfk w (Same.seq l.fs hs))
   obtain ⟨x,h3,h4⟩:=rs.get' this
   exact ⟨h1,x,h3,l.rep h4⟩
  .exact ⟨vs,yfk w (Same.seq l.fs hs),by rw [rs.len];exact Nat.le_refl _⟩
 split at f1
 .cases f1
  obtain ⟨a,vs,ev,hs,rs⟩:=r1
  exact key a vs ev (SqL.of hs) rs rfl
 .rename_i ns
  cases f1
  obtain ⟨a,ev,hs⟩:=r1
  exact key a _ ev hs (RepL.of_ints ns) rfl
 .cases f1
theorem ytM (a:ybE K ta ea):yvN K (yFF ta) (xIS ea):=by
 intro W0 W ρ σ R xs h' g e q
 obtain ⟨x,h1,e1,f1⟩:=yg e
 refine a W0 W ρ σ _ x h1 g e1 fun v W1 w1 l1 r1=>?_
 split at f1
 .rename_i z
  split at f1
  .rename_i hz
   cases f1
   have hl:z.length=z.cps.toList.length:=by simp [Str.length]
   refine ⟨z,r1,yxp hz,q _ W1 w1 l1 ⟨fun i W' l w hi=>?_,fun i W' v' H2 l w hi hy=>?_,fun W' l w=>?_⟩⟩
   .show i<z.length
    rw [hl];simpa using hi
   .obtain ⟨h1,c,h2,h3⟩:=hy
    exact ⟨h1,sgn c,by rw [getElem?_map,h2];rfl,h3⟩
   .show _=z.length
    rw [hl];simp
  .cases f1
 .cases f1
theorem yAn (W:Wd) (lo:Int) (n:Nat):yCt K W (Itr lo n) (yhC lo n):=by
 refine ⟨fun i W' l w hi=>?_,fun i W' v' H2 l w hi hy=>?_,fun W' l w=>?_⟩
 .show i<n
  simpa [yhC] using hi
 .obtain ⟨h1,h2⟩:=hy
  have hi:i<n:=by simpa [yhC] using hi
  exact ⟨h1,.int (lo+(i:Int)),by simp [yhC,hi],h2⟩
 .show n<=_
  simp [yhC]
theorem yqE {t:TA}{e:XA}(a:ylc K t e):yvN K (yzO t) (yqC e):=by
 intro W0 W ρ σ R xs h' g e q
 obtain ⟨ys,h1,e1,f1⟩:=yg e
 split at f1
 .rename_i j
  split at f1
  .rename_i hj
   cases f1
   refine a W0 W ρ σ _ _ _ g e1 fun vs W1 w1 l1 r1=>?_
   obtain ⟨v,r,rfl,rv,rr⟩:=r1
   obtain rfl:r=[]:=rr
   exact ⟨j,by rw [show v=.int j from rv],by omega,by omega,q _ W1 w1 l1 (yAn W1 0 _)⟩
  .cases f1
 .cases f1
theorem yxq {wi:TI}{it:XA}{g:TG}{y:XG}(a:yvN K wi it) (b:yqy K g y) (c:yeX K t s):yeX K (yCq wi g t) (ymz it y s):=by
 intro W0 W ρ σ D o h' gd e q
 obtain ⟨xs,h1,e1,f1⟩:=yg e
 refine a W0 W ρ σ _ xs h1 gd e1 fun J W1 w1 l1 J1=>?_
 subst w1
 have q1:=q.from_ l1.lf
 refine ⟨fun i m σ H=>m=xs.length-i/\i<=xs.length/\∃ W' ρ',W'.H=H/\Lf K W1 W'/\Good K W0 W' ρ' σ/\ygb y s (xs.drop i) ρ' W'.h=some (o,h'),⟨_,rfl,zero_le _,W1,ρ,rfl,.refl,gd.step l1,by simpa using f1⟩,?_⟩
 rintro i m σ _ ⟨rfl,hi,W',ρ',rfl,l,g',f⟩
 by_cases hlt:i<xs.length
 .rw [List.drop_eq_getElem_cons hlt] at f
  obtain ⟨ρ1,k1,f⟩:=Option.bind_eq_some_iff.mp f
  obtain ⟨o1,h2,k2,f3⟩:=yg f
  refine .inr ⟨J1.go i W' l g'.ok hlt,fun σ2 H2=>i+1<=xs.length/\∃ W2 ρ2,W2.H=H2/\Lf K W1 W2/\Good K W0 W2 ρ2 σ2/\ygb y s (xs.drop (i+1)) ρ2 W2.h=some (o,h'),fun σ2 H2 ⟨n1,n2⟩=>⟨xs.length-(i+1),by omega,rfl,n1,n2⟩,fun v H2 hy=>?_⟩
  obtain ⟨rfl,x,hx,rx⟩:=J1.yld i W' v H2 l g'.ok hlt hy
  rw [List.getElem?_eq_getElem hlt] at hx
  cases hx
  refine b W0 W' ρ' ρ1 σ _ v _ g' rx k1 fun σ2 g2=>?_
  refine c W0 W' ρ1 σ2 _ o1 h2 g2 k2 ?_
  cases o1 with
  | nx ρ2=>exact fun W2 σ3 w2 l2 g3=>⟨hlt,W2,ρ2,rfl,l.trans l2,g3,by rw [w2];exact f3⟩
  | ct ρ2=>exact fun W2 σ3 w2 l2 g3=>⟨hlt,W2,ρ2,rfl,l.trans l2,g3,by rw [w2];exact f3⟩
  | bk ρ2=>cases f3;exact fun W2 σ3 w2 l2 g3=>q1 W2 σ3 w2 (l.trans l2) g3
  | rt x=>cases f3;exact q1
 .have ei:i=xs.length:=by omega
  subst ei
  refine .inl ⟨J1.stop W' l g'.ok,?_⟩
  rw [List.drop_length] at f
  cases f
  exact q1 W' σ rfl l g'
theorem yqF (n:Nat) (c:ylP K tA eA) (a:yeX K t s):yeX K (yvB tA t) (yfa n eA s):=by
 intro W0 W ρ σ D o h' gd e q
 refine ⟨fun m σ H=>∃ W' ρ',W'.H=H/\Lf K W W'/\Good K W0 W' ρ' σ/\whl eA s m ρ' W'.h=some (o,h'),⟨n,W,ρ,rfl,.refl,gd,e⟩,?_⟩
 rintro m σ _ ⟨W',ρ',rfl,l,g',f⟩
 cases m with
 | zero=>cases f
 | succ m =>
  obtain ⟨k,h1,e1,f1⟩:=yg f
  refine c W0 W' ρ' σ _ k h1 g' e1 fun W1 w1 l1=>?_
  subst w1
  cases k with
  | false =>
   rw [if_neg (by decide)] at f1 ⊢
   cases f1
   exact q W1 σ rfl (l.trans l1.lf) (g'.step l1)
  | true =>
   rw [if_pos rfl] at f1 ⊢
   obtain ⟨o1,h2,k2,f3⟩:=yg f1
   refine ⟨fun σ2 H2=>∃ W2 ρ2,W2.H=H2/\Lf K W W2/\Good K W0 W2 ρ2 σ2/\whl eA s m ρ2 W2.h=some (o,h'),fun σ2 H2 z=>⟨m,Nat.lt_succ_self _,z⟩,?_⟩
   refine a W0 W1 ρ' σ _ o1 h2 (g'.step l1) k2 ?_
   have l':=l.trans l1.lf
   cases o1 with
   | nx ρ2=>exact fun W2 σ3 w2 l2 g3=>⟨W2,ρ2,rfl,l'.trans l2,g3,by rw [w2];exact f3⟩
   | ct ρ2=>exact fun W2 σ3 w2 l2 g3=>⟨W2,ρ2,rfl,l'.trans l2,g3,by rw [w2];exact f3⟩
   | bk ρ2=>cases f3;exact fun W2 σ3 w2 l2 g3=>q W2 σ3 w2 (l'.trans l2) g3
   | rt x=>cases f3;exact q
theorem ymA {e:XE}{inn:PV->PSt}:∀ {xs:List PV}{h:AH}{ys:List PV}{h':AH},yhA e inn xs h=some (ys,h')->ys.length=xs.length
 | [],_,_,_,e=>by cases e;rfl
 | x::xs,_,_,_,e=>by
  obtain ⟨y,h1,e1,f1⟩:=yg e
  obtain ⟨ys,h2,e2,f2⟩:=yg f1
  cases f2
  rw [length_cons,length_cons,ymA e2]
theorem yjM {W0 W W':Wd}{ρ:PSt}{σ:St}(g:Good K W0 W ρ σ) (l:Le K W W') (ix:List Nat) {x:PV}{v:V}(r:yco K W' x v):Good K W' W' (yfb ix ρ x) (inner ix σ v) where
 le:=.refl l.ok
 len:=by simp [yfb,inner]
 val:=fun j y e=>by
  cases j with
  | zero=>simp [yfb] at e;subst e;exact ⟨v,rfl,r⟩
  | succ j =>
   have e:(ix.map (yqx ρ))[j]?=some (.val y):=e
   rw [getElem?_map] at e
   cases ei:ix[j]? with
   | none=>rw [ei] at e;cases e
   | some i =>
    rw [ei] at e
    have e:yqx ρ i=.val y:=Option.some.inj e
    unfold yqx at e
    split at e
    .rename_i z hz
     cases e
     obtain ⟨w,h1,h2⟩:=g.val i _ hz
     exact ⟨w,by show (ix.map fun i=>(σ[i]?).getD none)[j]?=_;rw [getElem?_map,ei];simp [h1],l.rep h2⟩
    .cases e
 own:=fun j d e=>by
  cases j with
  | zero=>simp [yfb] at e
  | succ j =>
   have e:(ix.map (yqx ρ))[j]?=some (.own d):=e
   rw [getElem?_map] at e
   cases ei:ix[j]? with
   | none=>rw [ei] at e;cases e
   | some i =>
    rw [ei] at e
    have e:yqx ρ i=.own d:=Option.some.inj e
    unfold yqx at e
    split at e<;>cases e
 ne:=fun j k d d' _ e _=>by
  cases j with
  | zero=>simp [yfb] at e
  | succ j =>
   have e:(ix.map (yqx ρ))[j]?=some (.own d):=e
   rw [getElem?_map] at e
   cases ei:ix[j]? with
   | none=>rw [ei] at e;cases e
   | some i =>
    rw [ei] at e
    have e:yqx ρ i=.own d:=Option.some.inj e
    unfold yqx at e
    split at e<;>cases e
theorem ynD {wi:TI}{it:XA}(ix:List Nat) (a:yvN K wi it) (b:ybE K ta ea):ylQ K (yoR wi ix ta) (yfj it ix ea):=by
 intro W0 W ρ σ Q d h' gd e q
 obtain ⟨xs,h1,e1,f1⟩:=yg e
 split at f1
 .rename_i hlen
  obtain ⟨zs,h2,e2,f2⟩:=yg f1
  cases f2
  have hz:=ymA e2
  refine a W0 W ρ σ _ xs h1 gd e1 fun J W1 w1 l1 J1=>?_
  subst w1
  intro D hD
  have nm:=l1.ok.out hD
  have nf:=l1.ok.ff hD
  refine ⟨fun i m H=>m=xs.length-i/\i<=xs.length/\∃ W' acc done rest,W'.H=H/\Le K W1 W'/\D∉W'.m/\W'.F D=none/\H D=some (.lst acc)/\ycq K W' done acc/\done.length=i/\zs=done++rest/\yhA ea (yfb ix ρ) (xs.drop i) W'.h=some (rest,h'),⟨_,rfl,zero_le _,yeQ W1 D (.lst []),[],[],zs,rfl,ycr l1.ok hD,nm,nf,yn,rfl,rfl,rfl,by rw [List.drop_zero];exact e2⟩,?_⟩
  rintro i m _ ⟨rfl,hi,W',acc,done,rest,rfl,l,n1,n2,hd,rd,ld,ez,f⟩
  by_cases hlt:i<xs.length
  .rw [List.drop_eq_getElem_cons hlt] at f
   obtain ⟨y,h3,k1,f3⟩:=yg f
   obtain ⟨ys,h4,k2,f4⟩:=yg f3
   cases f4
   refine .inr ⟨J1.go i W' l.lf l.ok hlt,fun v H2 hy=>?_⟩
   obtain ⟨rfl,x,hx,rx⟩:=J1.yld i W' v H2 l.lf l.ok hlt hy
   rw [List.getElem?_eq_getElem hlt] at hx
   cases hx
   refine b W' W' _ _ _ y h3 (yjM gd (l1.trans l) ix rx) k1 fun w W2 w2 l2 r2=>?_
   obtain ⟨o2,n2'⟩:∃ o,W'.H D=some o:=⟨_,hd⟩
   have nm2:D∉W2.m:=fun z=>by rw [l2.mn D z n1] at hd;cases hd
   have nf2:W2.F D=none:=l2.new D _ hd n1 n2
   refine ⟨acc,l2.keep _ _ hd n1,?_,xs.length-(i+1),by omega,rfl,hlt,ysR W2 D (.lst (acc++[w])),acc++[w],done++[y],ys,rfl,yjL (l.trans l2) nm2 nf2 hD,nm2,nf2,yn,(l2.repL rd).snoc r2,by simp [ld],by simp [ez],?_⟩
   .rw [rd.len,ld];exact big (by omega)
   .show yhA ea (yfb ix ρ) (xs.drop (i+1)) W2.h=some (ys,h')
    rw [w2];exact k2
  .have ei:i=xs.length:=by omega
   subst ei
   rw [List.drop_length] at f
   cases f
   refine .inl ⟨J1.stop W' l.lf l.ok,?_⟩
   rw [append_nil] at ez
   subst ez
   exact q D W' rfl (l1.trans l) n1 (l1.fresh hD) (fun z=>by cases z) ⟨n2,acc,hd,rd⟩
 .cases f1
theorem ygf {W:Wd}(w:WOk K W) {N:List Str}{xs:List PV}{vs:List V}(r:ycq K W xs vs):Good K W W (xs.map .val++replicate (N.length-xs.length) .no) (L2.start N vs) where
 le:=.refl w
 len:=by simp [L2.start,r.len]
 val:=fun j y e=>by
  by_cases hj:j<xs.length
  .rw [getElem?_append_left (by simpa using hj),getElem?_map,List.getElem?_eq_getElem hj] at e
   cases e
   obtain ⟨v,h1,h2⟩:=r.get (List.getElem?_eq_getElem hj)
   refine ⟨v,?_,h2⟩
   unfold L2.start
   rw [getElem?_append_left (by simp [r.len,hj]),getElem?_map,h1];rfl
  .rw [getElem?_append_right (by simp;omega),getElem?_replicate] at e
   split at e<;>cases e
 own:=fun j d e=>by
  by_cases hj:j<xs.length
  .rw [getElem?_append_left (by simpa using hj),getElem?_map,List.getElem?_eq_getElem hj] at e
   cases e
  .rw [getElem?_append_right (by simp;omega),getElem?_replicate] at e
   split at e<;>cases e
 ne:=fun j k d d' _ e _=>by
  by_cases hj:j<xs.length
  .rw [getElem?_append_left (by simpa using hj),getElem?_map,List.getElem?_eq_getElem hj] at e
   cases e
  .rw [getElem?_append_right (by simp;omega),getElem?_replicate] at e
   split at e<;>cases e
theorem ytN {N:List Str}{n:Nat}{vs:List V}{H:Hp}{Q:VK}{E:XK}{bk ct:St->Hp->Prop}(a:yeX K t s) (h:spE K n (ybA N.length s) vs H Q E):t ⟨fun _ H'=>Q .non H',Q,bk,ct⟩ (L2.start N vs) H:=by
 obtain ⟨W,xs,x,h',rfl,w,r,_,e,q⟩:=h
 obtain ⟨o,h1,e1,f1⟩:=yg e
 refine a W W _ _ _ o h1 (ygf w r) e1 ?_
 cases o with
 | rt y=>cases f1;exact fun W' v ew l rv=>q v W' ew l rv
 | nx ρ=>cases f1;exact fun W' σ' ew _ g=>q .non W' ew g.le rfl
 | bk ρ=>cases f1
 | ct ρ=>cases f1
theorem yxr {n:Nat}{f:Fn}{vs:List V}{H:Hp}{Q:VK}{E:XK}(h:spE K n f vs H Q E):vs.length=n:=by
 obtain ⟨W,xs,x,h',rfl,w,r,hn,_⟩:=h
 rw [r.len,hn]
end
end PX
namespace PX
open PySem L2
variable {K:Ck}
def oI (g:Int->Int->PV):P2:=fun x y h=>match x,y with|.int i,.int j=>some (g i j,h)|_,_=>none
noncomputable def oIc (C:Int->Int->Prop) [∀ i j,Decidable (C i j)] (g:Int->Int->PV):P2:=fun x y h=>match x,y with|.int i,.int j=>if C i j then some (g i j,h) else none|_,_=>none
abbrev yhk:P2:=oI fun i j=>.int (i+j)
abbrev ytO:P2:=oI fun i j=>.int (i-j)
noncomputable def MulOk (i j:Int):Prop:=(-18446744073709551616<i/\i<18446744073709551616)\/(-18446744073709551616<j/\j<18446744073709551616)
instance (i j:Int):Decidable (MulOk i j):=by unfold MulOk;infer_instance
def yqG (i j:Int):Prop:=(0<=i/\i<18446744073709551616)/\0<=j/\j<=1000000
instance (i j:Int):Decidable (yqG i j):=by unfold yqG;infer_instance
abbrev yCu:P2:=oIc MulOk fun i j=>.int (i*j)
abbrev oDiv:P2:=oIc (fun _ j=>0<j/\j<1073741824) fun i j=>.int (i/j)
abbrev oMod:P2:=oIc (fun _ j=>0<j) fun i j=>.int (i%j)
abbrev yDi:P2:=oIc yqG fun i j=>.int (i ^ j.toNat)
abbrev oLt:P2:=oI fun i j=>.bl (decide (i<j))
abbrev oLe:P2:=oI fun i j=>.bl (decide (i<=j))
abbrev oGt:P2:=oI fun i j=>.bl (decide (j<i))
abbrev oGe:P2:=oI fun i j=>.bl (decide (j<=i))
abbrev yzj:PV->AH->Option (PV×AH):=fun x h=>match x with|.int i=>some (.int (-i),h)|_=>none
theorem yzk {g:Int->Int->PV}{gV:Int->Int->V}(h:∀ (W:Wd) i j,yco K W (g i j) (gV i j)):ycf K (rI0 gV) (oI g):=by
 intro W x y v u Q z h' w rx ry e q
 unfold oI at e
 split at e
 .rename_i i j
  cases e
  exact ⟨i,j,rx,ry,q _ W rfl (.refl w) (h W i j)⟩
 .cases e
theorem ytP {C:Int->Int->Prop} [∀ i j,Decidable (C i j)] {C':Int->Int->Prop}{g:Int->Int->PV}{gV:Int->Int->V}(hc:∀ i j,C i j->C' i j) (h:∀ (W:Wd) i j,yco K W (g i j) (gV i j)):ycf K (rI C' gV) (oIc C g):=by
 intro W x y v u Q z h' w rx ry e q
 unfold oIc at e
 split at e
 .rename_i i j
  split at e
  .rename_i c
   cases e
   exact ⟨i,j,rx,ry,hc i j c,q _ W rfl (.refl w) (h W i j)⟩
  .cases e
 .cases e
theorem ydW:ycf K yCV yhk:=yzk fun _ _ _=>rfl
theorem yoZ:ycf K yCW ytO:=yzk fun _ _ _=>rfl
theorem yxs:ycf K yCX yCu:=ytP (fun i j h=>by unfold CMul;rw [show (2:Int) ^ 64=18446744073709551616 by decide];exact h) fun _ _ _=>rfl
theorem ytQ:ycf K yCY oDiv:=ytP (fun i j h=>h) fun _ _ _=>rfl
theorem ygU:ycf K yCZ oMod:=ytP (fun i j h=>h) fun _ _ _=>rfl
theorem yAo:ycf K yDa yDi:=ytP (fun i j h=>by unfold yCP;rw [show 2 ^ 64=18446744073709551616 by decide];unfold yqG at h;omega) fun _ _ _=>rfl
theorem yxt:ycf K yFV oLt:=yzk fun _ _ _=>rfl
theorem ysS:ycf K yFW oLe:=yzk fun _ _ _=>rfl
theorem yCv:ycf K yFX oGt:=yzk fun _ _ _=>rfl
theorem yGa:ycf K yFY oGe:=yzk fun _ _ _=>rfl
theorem ytR:ywX K yDb yzj:=by
 intro W x v Q z h' w rx e q
 unfold yzj at e
 split at e
 .rename_i i
  cases e
  exact ⟨i,rx,q _ W rfl (.refl w) rfl⟩
 .cases e
def sv:PV->Option V
 | .non=>some .non
 | .bl b=>some (.bl b)
 | .int i=>some (.int i)
 | .str s=>some (.str s)
 | _=>none
theorem yfc {W:Wd}{x:PV}{v u:V}(e:sv x=some u) (r:yco K W x v):v=u:=by
 cases x<;>cases e<;>exact r
def oEq:P2:=fun x y h=>match sv x,sv y with|some v,some u=>if yvD v u=true then some (.bl (decide (v=u)),h) else none|_,_=>none
def oNe:P2:=fun x y h=>match sv x,sv y with|some v,some u=>if yvD v u=true then some (.bl (!decide (v=u)),h) else none|_,_=>none
theorem ycX:ycf K rEq oEq:=by
 intro W x y v u Q z h' w rx ry e q
 unfold oEq at e
 split at e
 .rename_i v' u' e1 e2
  obtain rfl:=yfc e1 rx
  obtain rfl:=yfc e2 ry
  split at e
  .rename_i c
   cases e
   exact ⟨c,q _ W rfl (.refl w) rfl⟩
  .cases e
 .cases e
theorem yxu:ycf K rNe oNe:=by
 intro W x y v u Q z h' w rx ry e q
 unfold oNe at e
 split at e
 .rename_i v' u' e1 e2
  obtain rfl:=yfc e1 rx
  obtain rfl:=yfc e2 ry
  split at e
  .rename_i c
   cases e
   exact ⟨c,q _ W rfl (.refl w) rfl⟩
  .cases e
 .cases e
def isN:PV->Bool
 | .non=>true
 | _=>false
def yzl:P2:=fun x y h=>match y with|.non=>some (.bl (isN x),h)|_=>none
def ytS:P2:=fun x y h=>match y with|.non=>some (.bl (!isN x),h)|_=>none
theorem yqH {W:Wd}{x:PV}{v:V}(r:yco K W x v):decide (v=.non)=isN x:=by
 cases x with
 | non=>rw [show v=.non from r];rfl
 | bl b=>rw [show v=.bl b from r];rfl
 | int b=>rw [show v=.int b from r];rfl
 | str b=>rw [show v=.str b from r];rfl
 | ty b=>rw [show v=.ty b from r];rfl
 | cls b=>rw [show v=.ref _ from r];rfl
 | scr b=>obtain ⟨a,e,_⟩:=r;rw [e];rfl
 | lst b=>obtain ⟨a,_,e,_⟩:=r;rw [e];rfl
 | tup b=>obtain ⟨a,_,e,_⟩:=r;rw [e];rfl
 | ins k n b=>obtain ⟨a,_,_,e,_⟩:=r;rw [e];rfl
 | loc n=>obtain ⟨a,e,_⟩:=r;rw [e];rfl
theorem yxv:ycf K yFZ yzl:=by
 intro W x y v u Q z h' w rx ry e q
 unfold yzl at e
 split at e
 .cases e
  exact ⟨ry,by rw [yqH rx];exact q _ W rfl (.refl w) rfl⟩
 .cases e
theorem yAp:ycf K yDd ytS:=by
 intro W x y v u Q z h' w rx ry e q
 unfold ytS at e
 split at e
 .cases e
  exact ⟨ry,by rw [yqH rx];exact q _ W rfl (.refl w) rfl⟩
 .cases e
noncomputable def yer:P2:=fun x y h=>match x,y with|.str i,.str j=>if i.length+j.length<=100000 then some (.str (i++j),h) else none|_,_=>none
theorem yds:ycf K yDc yer:=by
 intro W x y v u Q z h' w rx ry e q
 unfold yer at e
 split at e
 .rename_i i j
  split at e
  .rename_i c
   cases e
   exact ⟨i,j,rx,ry,yxp c,q _ W rfl (.refl w) rfl⟩
  .cases e
 .cases e
noncomputable def yAq:P2:=fun x y h=>match x,y with|.str s,.str j=>(match s.cps.toList with|[c]=>some (.bl (decide (c∈j.cps.toList)),h)|_=>none)|_,_=>none
theorem one_sign {s:Str}{c:Nat}(h:s.cps.toList=[c]):s=⟨#[c]⟩:=by
 obtain ⟨⟨l⟩⟩:=s
 have:l=[c]:=h
 rw [this]
theorem yAr:ycf K yFC yAq:=by
 intro W x y v u Q z h' w rx ry e q
 unfold yAq at e
 split at e
 .rename_i s j
  split at e
  .rename_i c hc
   cases e
   exact ⟨c,j,by rw [<- one_sign hc];exact rx,ry,q _ W rfl (.refl w) rfl⟩
  .cases e
 .cases e
def ycj:P2:=fun x y h=>match y with
 | .int i=>(match x with
  | .lst xs=>(match atI xs i with|some v=>some (v,h)|none=>none)
  | .scr ns=>(match atI ns i with|some v=>some (.int v,h)|none=>none)
  | .loc n=>(match h[n]? with|some (.lst xs)=>(match atI xs i with|some v=>some (v,h)|none=>none)|_=>none)
  | _=>none)
 | _=>none
def yce:P2:=fun x y h=>match x,y with|.tup xs,.int i=>(match atI xs i with|some v=>some (v,h)|none=>none)|_,_=>none
def yAs:P2:=fun x y h=>match x,y with|.str s,.int i=>(match atI s.cps.toList i with|some c=>if s.length<=100000 then some (sgn c,h) else none|none=>none)|_,_=>none
theorem RepL.at {F:Hp}{m:List Addr}{xs:List PV}{vs:List V}(r:RepL K F m xs vs) {i:Int}{x:PV}(e:atI xs i=some x):∃ v,atI vs i=some v/\Rep K F m x v:=by
 unfold atI at e ⊢
 rw [r.len]
 obtain ⟨j,e1,e2⟩:=Option.bind_eq_some_iff.mp e
 rw [e1]
 exact r.get e2
theorem WOk.loc {W:Wd}(w:WOk K W) {n:Nat}{d:Nd}{v:V}(e:W.h[n]?=Option.some d) (r:yco K W (.loc n) v):∃ a,v=.ref a/\W.m[n]?=Option.some a/\NdAt K W.F W.H W.m d a:=by
 obtain ⟨a,ea,h⟩:=r
 exact ⟨a,ea,h,w.at_ n d a e h⟩
theorem ycT:ycf K (yFu K.K) ycj:=by
 intro W x y v u Q z h' w rx ry e q
 unfold ycj at e
 split at e
 .rename_i i
  split at e
  .rename_i xs
   split at e
   .rename_i y hy
    cases e
    obtain ⟨a,vs,ev,hs,rs⟩:=rx
    obtain ⟨v',h1,h2⟩:=rs.at hy
    exact ⟨a,vs,i,v',ev,ry,SqL.of (w.le _ _ hs),h1,q _ W rfl (.refl w) h2⟩
   .cases e
  .rename_i ns
   split at e
   .rename_i y hy
    cases e
    obtain ⟨a,ev,hs⟩:=rx
    refine ⟨a,_,i,.int y,ev,ry,yfk w hs,?_,q _ W rfl (.refl w) rfl⟩
    unfold atI at hy ⊢
    rw [length_map]
    obtain ⟨j,e1,e2⟩:=Option.bind_eq_some_iff.mp hy
    rw [e1]
    show (ns.map V.int)[j]?=_
    rw [getElem?_map,e2];rfl
   .cases e
  .rename_i n
   split at e
   .rename_i xs hn
    split at e
    .rename_i y hy
     cases e
     obtain ⟨a,ev,hm,hf,vs,hp,rs⟩:=w.loc hn rx
     obtain ⟨v',h1,h2⟩:=rs.at hy
     exact ⟨a,vs,i,v',ev,ry,SqL.of hp,h1,q _ W rfl (.refl w) h2⟩
    .cases e
   .cases e
  .cases e
 .cases e
theorem ybk:ycf K (yFv K.K) yce:=by
 intro W x y v u Q z h' w rx ry e q
 unfold yce at e
 split at e
 .rename_i xs i
  split at e
  .rename_i y hy
   cases e
   obtain ⟨a,vs,ev,hs,rs⟩:=rx
   obtain ⟨v',h1,h2⟩:=rs.at hy
   exact ⟨a,vs,i,v',ev,ry,ycx w hs,h1,q _ W rfl (.refl w) h2⟩
  .cases e
 .cases e
theorem yDj:ycf K yFw yAs:=by
 intro W x y v u Q z h' w rx ry e q
 unfold yAs at e
 split at e
 .rename_i s i
  split at e
  .rename_i c hc
   split at e
   .rename_i hl
    cases e
    exact ⟨s,i,c,rx,ry,yxp hl,hc,q _ W rfl (.refl w) rfl⟩
   .cases e
  .cases e
 .cases e
noncomputable def yky {α:Type}(xs:List α) (lo hi:Option Int):List α:=(xs.drop (HT.sIx xs.length 0 lo)).take (HT.sIx xs.length xs.length hi-HT.sIx xs.length 0 lo)
noncomputable def listOf (x:PV) (h:AH):Option (List PV):=match x with|.lst xs=>some xs|.scr ns=>some (ns.map .int)|.loc n=>(match h[n]? with|some (.lst xs)=>some xs|_=>none)|_=>none
theorem ygg {W:Wd}(w:WOk K W) {x:PV}{v:V}{xs:List PV}(e:listOf x W.h=some xs) (r:yco K W x v):∃ a vs,v=.ref a/\SqL K.K W.H a vs/\ycq K W xs vs:=by
 unfold listOf at e
 split at e
 .cases e
  obtain ⟨a,vs,ev,hs,rs⟩:=r
  exact ⟨a,vs,ev,SqL.of (w.le _ _ hs),rs⟩
 .rename_i ns
  cases e
  obtain ⟨a,ev,hs⟩:=r
  exact ⟨a,_,ev,yfk w hs,RepL.of_ints ns⟩
 .rename_i n
  split at e
  .rename_i ys hn
   cases e
   obtain ⟨a,ev,hm,hf,vs,hp,rs⟩:=w.loc hn r
   exact ⟨a,vs,ev,SqL.of hp,rs⟩
  .cases e
 .cases e
noncomputable def ybw (x:PV) (h:AH):Option (List PV):=match x with|.lst xs=>some xs|.loc n=>(match h[n]? with|some (.lst xs)=>some xs|_=>none)|_=>none
theorem yK {W:Wd}(w:WOk K W) {x:PV}{v:V}{xs:List PV}(e:ybw x W.h=some xs) (r:yco K W x v):∃ a vs,v=.ref a/\W.H a=some (.lst vs)/\ycq K W xs vs:=by
 unfold ybw at e
 split at e
 .cases e
  obtain ⟨a,vs,ev,hs,rs⟩:=r
  exact ⟨a,vs,ev,w.le _ _ hs,rs⟩
 .rename_i n
  split at e
  .rename_i ys hn
   cases e
   obtain ⟨a,ev,hm,hf,vs,hp,rs⟩:=w.loc hn r
   exact ⟨a,vs,ev,hp,rs⟩
  .cases e
 .cases e
theorem yAt {W:Wd}(w:WOk K W) {p:Addr}(hp:W.H p=none) {xs:List PV}{vs:List V}(r:ycq K W xs vs) {Q:VK}(q:yoU K W (.lst xs) W.h Q):Q (.ref p) (upd W.H p (.lst vs)) :=
 q p (yeQ W p (.lst vs)) rfl (ycr w hp) (w.out hp) hp (fun z=>by cases z) ⟨w.ff hp,vs,yn,r⟩
def yxw:PV->Option Int->Option Int->AH->Option (Nd×AH):=fun x lo hi h=>match listOf x h with|some xs=>some (.lst (yky xs lo hi),h)|none=>none
theorem yAu:yqw K (yFx K.K) yxw:=by
 intro W x v lo hi Q d h' w rx e q
 unfold yxw at e
 split at e
 .rename_i xs hx
  cases e
  obtain ⟨a,vs,ev,hs,rs⟩:=ygg w hx rx
  refine ⟨a,vs,ev,hs,fun p hp=>yAt w hp ?_ q⟩
  have:=(rs.drop (HT.sIx xs.length 0 lo)).take (HT.sIx xs.length xs.length hi-HT.sIx xs.length 0 lo)
  unfold yky ysO
  rw [rs.len]
  exact this
 .cases e
def yxx:P2O:=fun x y h=>match ybw x h,ybw y h with|some xs,some ys=>if xs.length+ys.length<=100000 then some (.lst (xs++ys),h) else none|_,_=>none
theorem ytT:ynB K yFz yxx:=by
 intro W x y v u Q d h' w rx ry e q
 unfold yxx at e
 split at e
 .rename_i xs ys hx hy
  split at e
  .rename_i hl
   cases e
   obtain ⟨a,vs,ev,hs,rs⟩:=yK w hx rx
   obtain ⟨b,us,eu,ht,ru⟩:=yK w hy ry
   refine ⟨a,b,vs,us,ev,eu,hs,ht,by rw [rs.len,ru.len];exact yxp hl,fun p hp=>yAt w hp (rs.app ru) q⟩
  .cases e
 .cases e
def repL {α:Type}(k:Nat) (xs:List α):List α:=(replicate k xs).flatten
theorem RepL.rep {F:Hp}{m:List Addr}{xs:List PV}{vs:List V}(r:RepL K F m xs vs):∀ k:Nat,RepL K F m (repL k xs) (repL k vs)
 | 0=>rfl
 | k+1=>by
  show RepL K F m ((replicate (k+1) xs).flatten) ((replicate (k+1) vs).flatten)
  rw [List.replicate_succ,List.replicate_succ,List.flatten_cons,List.flatten_cons]
  exact r.app (RepL.rep r k)
def yxy:P2O:=fun x y h=>match ybw x h,y with|some xs,.int k=>if -1000000<=k/\k<=100000/\xs.length*k.toNat<=100000 then some (.lst (repL k.toNat xs),h) else none|_,_=>none
theorem yxz:ynB K yFA yxy:=by
 intro W x y v u Q d h' w rx ry e q
 unfold yxy at e
 split at e
 .rename_i xs k hx
  split at e
  .rename_i hl
   cases e
   obtain ⟨a,vs,ev,hs,rs⟩:=yK w hx rx
   refine ⟨a,k,vs,ev,ry,hs,by omega,by omega,by rw [rs.len];exact yxp hl.2.2,fun p hp=>yAt w hp (rs.rep _) q⟩
  .cases e
 .cases e
noncomputable def yqI (x:PV) (h:AH):Option Nat:=match x with|.tup xs=>some xs.length|.lst xs=>some xs.length|.scr ns=>some ns.length|.loc n=>(match h[n]? with|some (.lst xs)=>some xs.length|_=>none)|_=>none
def ybP:List PV->AH->Option (PV×AH):=fun xs h=>match xs with|[x]=>(match yqI x h with|some n=>some (.int n,h)|none=>none)|_=>none
noncomputable def ymB:List PV->AH->Option (PV×AH):=fun xs h=>match xs with|[.str z]=>if z.length<=100000 then some (.int z.length,h) else none|_=>none
theorem ymC {W:Wd}{x:PV}{vs:List V}(r:ycq K W [x] vs):∃ v,vs=[v]/\yco K W x v:=by
 obtain ⟨v,r',e,h,l⟩:=r
 exact ⟨v,by rw [e,show r'=[] from l],h⟩
theorem yGb {W:Wd}{x y:PV}{vs:List V}(r:ycq K W [x,y] vs):∃ v u,vs=[v,u]/\yco K W x v/\yco K W y u:=by
 obtain ⟨v,r',e,h,l⟩:=r
 obtain ⟨u,e2,h2⟩:=ymC l
 exact ⟨v,u,by rw [e,e2],h,h2⟩
theorem yct:yhz K (yzZ K.K) ybP:=by
 intro W xs vs Q z h' w r e q
 unfold ybP at e
 split at e
 .rename_i x
  split at e
  .rename_i n hn
   cases e
   obtain ⟨v,rfl,rx⟩:=ymC r
   have fin:∀ (ys:List V),ys.length=n->Q (.int ys.length) W.H:=fun ys hl=>by rw [hl];exact q _ W rfl (.refl w) rfl
   unfold yqI at hn
   split at hn
   .cases hn
    obtain ⟨a,us,rfl,hs,rs⟩:=rx
    exact ⟨a,us,rfl,.inr (ycx w hs),fin _ rs.len⟩
   .rename_i ys
    cases hn
    obtain ⟨a,us,rfl,hs,rs⟩:=rx
    exact ⟨a,us,rfl,.inl (SqL.of (w.le _ _ hs)),fin _ rs.len⟩
   .rename_i ns
    cases hn
    obtain ⟨a,rfl,hs⟩:=rx
    exact ⟨a,_,rfl,.inl (yfk w hs),fin _ (by simp)⟩
   .split at hn
    .rename_i ys hy
     cases hn
     obtain ⟨a,rfl,hm,hf,us,hp,rs⟩:=w.loc hy rx
     exact ⟨a,us,rfl,.inl (SqL.of hp),fin _ rs.len⟩
    .cases hn
   .cases hn
  .cases e
 .cases e
theorem ynE:yhz K yDe ymB:=by
 intro W xs vs Q z h' w r e q
 unfold ymB at e
 split at e
 .rename_i s
  split at e
  .rename_i hl
   cases e
   obtain ⟨v,rfl,rx⟩:=ymC r
   exact ⟨s,by rw [show v=_ from rx],yxp hl,q _ W rfl (.refl w) rfl⟩
  .cases e
 .cases e
noncomputable def ypa:List PV->AH->Option (PV×AH):=fun xs h=>match xs with|[.int i]=>if i.natAbs.log2<1920 then some (.str (toString i:String),h) else none|_=>none
theorem yvO:yhz K yDf ypa:=by
 intro W xs vs Q z h' w r e q
 unfold ypa at e
 split at e
 .rename_i i
  split at e
  .rename_i hl
   cases e
   obtain ⟨v,rfl,rx⟩:=ymC r
   exact ⟨i,by rw [show v=_ from rx],hl,q _ W rfl (.refl w) rfl⟩
  .cases e
 .cases e
noncomputable def yqJ:List PV->AH->Option (PV×AH):=fun xs h=>match xs with|[.str z]=>if z.cps.toList≠[]/\(∀ c∈z.cps.toList,48<=c/\c<=57)/\z.length<=640 then some (.int (ywP z.cps.toList),h) else none|_=>none
theorem yAv:yhz K yAa yqJ:=by
 intro W xs vs Q z h' w r e q
 unfold yqJ at e
 split at e
 .rename_i i
  split at e
  .rename_i hl
   cases e
   obtain ⟨v,rfl,rx⟩:=ymC r
   exact ⟨i,by rw [show v=_ from rx],hl.1,hl.2.1,hl.2.2,q _ W rfl (.refl w) rfl⟩
  .cases e
 .cases e
def yR:List PV->AH->Option (Nd×AH):=fun xs h=>match xs with|[.tup ys]=>some (.lst ys,h)|[x]=>(match listOf x h with|some ys=>some (.lst ys,h)|none=>none)|_=>none
theorem ybg:yqr K (ywQ K.K) yR:=by
 intro W xs vs Q d h' w r e q
 unfold yR at e
 split at e
 .rename_i ys
  cases e
  obtain ⟨v,rfl,a,us,rfl,hs,rs⟩:=ymC r
  exact ⟨a,us,rfl,.inr (ycx w hs),fun p hp=>yAt w hp rs q⟩
 .rename_i x _
  split at e
  .rename_i ys hy
   cases e
   obtain ⟨v,rfl,rx⟩:=ymC r
   obtain ⟨a,us,rfl,hs,rs⟩:=ygg w hy rx
   exact ⟨a,us,rfl,.inl hs,fun p hp=>yAt w hp rs q⟩
  .cases e
 .cases e
def strsOf:List PV->Option (List Str)
 | []=>some []
 | .str s::r=>(strsOf r).map (s::·)
 | _=>none
def intsOf:List PV->Option (List Int)
 | []=>some []
 | .int s::r=>(intsOf r).map (s::·)
 | _=>none
def yhD:List PV->Option (List Bool)
 | []=>some []
 | .bl s::r=>(yhD r).map (s::·)
 | _=>none
theorem yiW:∀ ss:List Str,strsOf (ss.map .str)=some ss
 | []=>rfl
 | s::ss=>by show (strsOf (ss.map .str)).map _=_;rw [yiW ss];rfl
theorem yiX:∀ ss:List Int,intsOf (ss.map .int)=some ss
 | []=>rfl
 | s::ss=>by show (intsOf (ss.map .int)).map _=_;rw [yiX ss];rfl
theorem ylg:∀ ss:List Bool,yhD (ss.map .bl)=some ss
 | []=>rfl
 | s::ss=>by show (yhD (ss.map .bl)).map _=_;rw [ylg ss];rfl
theorem yiY {F:Hp}{m:List Addr}:∀ {xs:List PV}{ss:List Str}{vs:List V},strsOf xs=some ss->RepL K F m xs vs->vs=ss.map V.str
 | [],_,_,e,r=>by cases e;exact r
 | x::xs,ss,_,e,⟨v,r',ev,h,l⟩=>by
  cases x<;>try cases e
  rename_i s
  obtain ⟨ts,e1,e2⟩:=Option.map_eq_some_iff.mp e
  subst e2
  rw [ev,show v=_ from h,yiY e1 l];rfl
theorem yiZ {F:Hp}{m:List Addr}:∀ {xs:List PV}{ss:List Int}{vs:List V},intsOf xs=some ss->RepL K F m xs vs->vs=ss.map V.int
 | [],_,_,e,r=>by cases e;exact r
 | x::xs,ss,_,e,⟨v,r',ev,h,l⟩=>by
  cases x<;>try cases e
  rename_i s
  obtain ⟨ts,e1,e2⟩:=Option.map_eq_some_iff.mp e
  subst e2
  rw [ev,show v=_ from h,yiZ e1 l];rfl
theorem yhE {F:Hp}{m:List Addr}:∀ {xs:List PV}{ss:List Bool}{vs:List V},yhD xs=some ss->RepL K F m xs vs->vs=ss.map V.bl
 | [],_,_,e,r=>by cases e;exact r
 | x::xs,ss,_,e,⟨v,r',ev,h,l⟩=>by
  cases x<;>try cases e
  rename_i s
  obtain ⟨ts,e1,e2⟩:=Option.map_eq_some_iff.mp e
  subst e2
  rw [ev,show v=_ from h,yhE e1 l];rfl
def yAw:List PV->AH->Option (PV×AH):=fun xs h=>match xs with|[x]=>(match ybw x h with|some ys=>(match intsOf ys with|some ns=>some (.int ns.sum,h)|none=>none)|none=>none)|_=>none
theorem yDk:yhz K yFE yAw:=by
 intro W xs vs Q z h' w r e q
 unfold yAw at e
 split at e
 .split at e
  .rename_i ys hy
   split at e
   .rename_i ns hn
    cases e
    obtain ⟨v,rfl,rx⟩:=ymC r
    obtain ⟨a,us,rfl,hs,rs⟩:=yK w hy rx
    have:=yiZ hn rs
    subst this
    exact ⟨a,ns,rfl,hs,q _ W rfl (.refl w) rfl⟩
   .cases e
  .cases e
 .cases e
def yvP:List PV->AH->Option (PV×AH):=fun xs h=>match xs with|[x]=>(match ybw x h with|some ys=>(match yhD ys with|some ns=>some (.bl (ns.all id),h)|none=>none)|none=>none)|_=>none
theorem yAx:yhz K yFD yvP:=by
 intro W xs vs Q z h' w r e q
 unfold yvP at e
 split at e
 .split at e
  .rename_i ys hy
   split at e
   .rename_i ns hn
    cases e
    obtain ⟨v,rfl,rx⟩:=ymC r
    obtain ⟨a,us,rfl,hs,rs⟩:=yK w hy rx
    have:=yhE hn rs
    subst this
    exact ⟨a,ns,rfl,hs,q _ W rfl (.refl w) rfl⟩
   .cases e
  .cases e
 .cases e
def isStr:PV->AH->Bool:=fun x _=>match x with|.str _=>true|_=>false
def ypb:PM:=fun x xs h=>match x,xs with|.str sep,[y]=>(match ybw y h with|some ys=>(match strsOf ys with|some ts=>if sep.length<=16/\(ts.map (·.length)).sum+ts.length<=1048576 then some (.str (Str.join sep ts),h) else none|none=>none)|none=>none)|_,_=>none
theorem yAy:yiD K "str" isStr rJoin ypb:=by
 refine ⟨fun W x v w r c=>?_,fun W x v xs vs Q z h' w rx r e q=>?_⟩
 .unfold isStr at c
  split at c
  .rw [show v=_ from r];rfl
  .cases c
 .unfold ypb at e
  split at e
  .rename_i sep y
   split at e
   .rename_i ys hy
    split at e
    .rename_i ts ht
     split at e
     .rename_i c
      cases e
      obtain ⟨u,rfl,ru⟩:=ymC r
      obtain ⟨a,us,rfl,hs,rs⟩:=yK w hy ru
      have:=yiY ht rs
      subst this
      exact ⟨sep,a,ts,rx,rfl,hs,c.1,c.2,q _ W rfl (.refl w) rfl⟩
     .cases e
    .cases e
   .cases e
  .cases e
noncomputable def ymD:PM:=fun x xs h=>match x,xs with|.str z,[.str s]=>(match s.cps.toList with|[c]=>if z.length<=1000/\c∈z.cps.toList then some (.int (z.cps.toList.idxOf c),h) else none|_=>none)|_,_=>none
theorem ytU:yiD K "str" isStr yqm ymD:=by
 refine ⟨fun W x v w r c=>?_,fun W x v xs vs Q z h' w rx r e q=>?_⟩
 .unfold isStr at c
  split at c
  .rw [show v=_ from r];rfl
  .cases c
 .unfold ymD at e
  split at e
  .rename_i z s
   split at e
   .rename_i c hc
    split at e
    .rename_i hl
     cases e
     obtain ⟨u,rfl,ru⟩:=ymC r
     exact ⟨z,c,rx,by rw [show u=_ from ru,one_sign hc],hl.1,hl.2,q _ W rfl (.refl w) rfl⟩
    .cases e
   .cases e
  .cases e
end PX
namespace PX
open PySem L2
variable {K:Ck}
noncomputable def putN (f:Str) (x:PV) (ns:List Str) (xs:List PV):List Str×List PV:=if f∈ns then (ns,xs.set (ns.idxOf f) x) else (ns++[f],xs++[x])
theorem ynF (f:Str) (y:V):∀ (ns:List Str) (vs:List V),vs.length=ns.length->yiS f y (ns.zip vs)=if f∈ns then ns.zip (vs.set (ns.idxOf f) y) else (ns++[f]).zip (vs++[y])
 | [],[],_=>by simp [yiS]
 | n::ns,v::vs,hl=>by
  have ih:=ynF f y ns vs (by simpa using hl)
  show (if n=f then (n,y)::ns.zip vs else (n,v)::yiS f y (ns.zip vs))=_
  by_cases h:n=f
  .subst h
   simp [List.idxOf_cons_self]
  .have h':¬ f=n:=fun z=>h z.symm
   have hb:(n == f)=false:=by simpa using h
   rw [if_neg h,ih]
   by_cases hm:f∈ns
   .simp [hm,h',List.idxOf_cons,hb]
   .simp [hm,h']
theorem yja {f:Str}:∀ {ns:List Str}{vs:List V},vs.length=ns.length->f∈ns->(ns.zip vs).lookup f=vs[ns.idxOf f]?
 | [],_,_,h=>by simp at h
 | n::ns,v::vs,hl,h=>by
  show List.lookup f ((n,v)::ns.zip vs)=_
  by_cases hn:f=n
  .subst hn
   rw [yDh,List.idxOf_cons_self];rfl
  .rw [yAb hn,yja (by simpa using hl) (by simpa [hn] using h)]
   have hb:(n == f)=false:=by simpa using fun z:n=f=>hn z.symm
   simp [List.idxOf_cons,hb]
theorem ydf {f:Str}:∀ {ns:List Str}{vs:List V},f∉ns->(ns.zip vs).lookup f=none
 | [],_,_=>by simp
 | n::ns,[],_=>by simp
 | n::ns,v::vs,h=>by
  show List.lookup f ((n,v)::ns.zip vs)=_
  rw [yAb (fun z:f=n=>h (by rw [z];exact mem_cons_self)),ydf fun z=>h (mem_cons_of_mem _ z)]
noncomputable def yeo (x:PV) (h:AH):Option (Nat×List Str×List PV):=match x with|.ins k ns xs=>some (k,ns,xs)|.loc n=>(match h[n]? with|some (.ins k ns xs)=>some (k,ns,xs)|_=>none)|_=>none
theorem yfB {W:Wd}(w:WOk K W) {x:PV}{v:V}{k:Nat}{ns:List Str}{xs:List PV}(e:yeo x W.h=some (k,ns,xs)) (r:yco K W x v):∃ a dx vs,v=.ref a/\W.H a=some (.ins (K.A k) dx (ns.zip vs))/\vs.length=ns.length/\ycq K W xs vs:=by
 unfold yeo at e
 split at e
 .cases e
  obtain ⟨a,dx,vs,ev,hs,hl,rs⟩:=r
  exact ⟨a,dx,vs,ev,w.le _ _ hs,hl,rs⟩
 .rename_i n
  split at e
  .rename_i hn
   cases e
   obtain ⟨a,ev,hm,hf,dx,vs,hp,hl,rs⟩:=w.loc hn r
   exact ⟨a,dx,vs,ev,hp,hl,rs⟩
  .cases e
 .cases e
def ybm (cs:List Nat) (f:Str) (e:XE):XE:=fun ρ h=>ob (e ρ h) fun x h1=>match yeo x h1 with|some (k,ns,xs)=>if k∈cs/\f∈ns then (match xs[ns.idxOf f]? with|some y=>some (y,h1)|none=>none) else none|none=>none
theorem yxA {cs:List Nat}{f:Str}{ta:TE}{ea:XE}(hc:∀ k∈cs,Cls K.K (K.A k)/\NoAttr K.K (K.A k) f) (a:ybE K ta ea):ybE K (yFq K.K ta f) (ybm cs f ea):=by
 intro W0 W ρ σ Q z h' g e q
 obtain ⟨x,h1,e1,f1⟩:=yg e
 refine a W0 W ρ σ _ x h1 g e1 fun v W1 w1 l1 r1=>?_
 subst w1
 split at f1
 .rename_i k ns xs hi
  split at f1
  .rename_i c
   split at f1
   .rename_i y hy
    cases f1
    obtain ⟨a,dx,vs,ev,hp,hl,rs⟩:=yfB l1.ok hi r1
    obtain ⟨u,h2,h3⟩:=rs.get hy
    exact ⟨a,_,dx,_,u,ev,hp,(hc k c.1).1,(hc k c.1).2,by rw [yja hl c.2];exact h2,q _ W1 rfl l1 h3⟩
   .cases f1
  .cases f1
 .cases f1
def ycU (cs:List Nat) (i:Nat) (f:Str) (e:XE):XS:=fun ρ h=>ob (e ρ h) fun x h1=>match ρ[i]? with
 | some (.own (.ins k ns xs))=>if k∈cs/\ns.length<1000 then some (.nx (ρ.set i (.own (.ins k (putN f x ns xs).1 (putN f x ns xs).2))),h1) else none
 | _=>none
theorem RepL.putN {F:Hp}{m:List Addr}{f:Str}{x:PV}{v:V}{ns:List Str}{xs:List PV}{vs:List V}(r:RepL K F m xs vs) (hl:vs.length=ns.length) (rx:Rep K F m x v) :
  ∃ us,yiS f v (ns.zip vs)=(PX.putN f x ns xs).1.zip us/\us.length=(PX.putN f x ns xs).1.length/\RepL K F m (PX.putN f x ns xs).2 us:=by
 rw [ynF f v ns vs hl]
 unfold PX.putN
 by_cases h:f∈ns
 .rw [if_pos h,if_pos h]
  exact ⟨_,rfl,by rw [length_set];exact hl,r.set _ rx⟩
 .rw [if_neg h,if_neg h]
  exact ⟨_,rfl,by rw [length_append,length_append,hl];rfl,r.snoc rx⟩
noncomputable def ysT (K:Ck) (t:TS) (s:XS):Prop:=∀ (W0 W:Wd) (ρ ρ':PSt) (σ:St) (D:Ends) (h':AH),Good K W0 W ρ σ->s ρ W.h=some (.nx ρ',h')->(∀ W',W'.h=h'->Lf K W W'->Good K W0 W' ρ' σ->D.nx σ W'.H)->t D σ W.H
theorem ytV {cs:List Nat}{i:Nat}{f:Str}{ta:TE}{ea:XE}(hc:∀ k∈cs,Cls K.K (K.A k)/\NoAttr K.K (K.A k) f) (a:ybE K ta ea):ysT K (yCR K.K (ypA i) ta f) (ycU cs i f ea):=by
 intro W0 W ρ ρ' σ D h' g e q
 obtain ⟨x,h1,e1,f1⟩:=yg e
 split at f1
 .rename_i k ns xs hi
  split at f1
  .rename_i c
   cases f1
   refine a W0 W ρ σ _ x _ g e1 fun v W1 w1 l1 r1=>?_
   have g1:=g.step l1
   obtain ⟨p,b1,b2,b3,b4,b5,dx,vs,b6,b7,b8⟩:=g1.own i _ hi
   obtain ⟨us,p1,p2,p3⟩:=b8.putN (f:=f) b7 r1
   refine ⟨_,b1,p,_,dx,_,rfl,b6,(hc k c.1).1,(hc k c.1).2,by rw [length_zip,b7];simpa using c.2,?_⟩
   rw [p1]
   exact q (ysR W1 p _) w1 (yqB l1 b2) (g1.mut hi b1 b2 b3 b5 (fun z=>by cases z) ⟨b5,dx,us,yn,p2,p3⟩)
  .cases f1
 .cases f1
theorem ytW {t u:TS}{s s':XS}(a:ysT K t s) (b:ysT K u s'):ysT K (yCK t u) (ym s s'):=by
 intro W0 W ρ ρ' σ D h' g e q
 obtain ⟨o1,h1,e1,f1⟩:=yg e
 cases o1 with
 | nx ρ1=>exact a W0 W ρ ρ1 σ _ h1 g e1 fun W1 w1 l1 g1=>b W0 W1 ρ1 ρ' σ D h' g1 (by rw [w1];exact f1) fun W2 w2 l2 g2=>q W2 w2 (l1.trans l2) g2
 | rt y=>cases f1
 | bk y=>cases f1
 | ct y=>cases f1
def ypc (N:Nat) (k:Nat) (s:XS):List PV->AH->Option (Nd×AH):=fun xs h=>ob (s (.own (.ins k [] [])::(xs.map .val++replicate (N-(xs.length+1)) .no)) h) fun o h1=>match o with|.nx ρ=>(match ρ[0]? with|some (PVar.own d)=>some (d,h1)|_=>none)|_=>none
def spI (K:Ck) (n k:Nat) (f:List PV->AH->Option (Nd×AH)):Sp:=fun vs H Q _=>∃ (W:Wd) (x dx:Addr) (args:List V) (xs:List PV) (d:Nd) (h':AH),vs=.ref x::args/\W.H x=none/\W.H dx=none/\dx≠x/\H=upd (upd W.H dx (.own x)) x (.ins (K.A k) dx []) /\
 WOk K W/\ycq K W xs args/\xs.length=n/\f xs W.h=some (d,h')/\∀ W',W'.h=h'->Le K W W'->x∉W'.m->d≠.dead->NdAt K W'.F W'.H W'.m d x->Q .non W'.H
theorem yxB {n k:Nat}{f} {vs:List V}{H:Hp}{Q:VK}{E:XK}(h:spI K n k f vs H Q E):vs.length=n+1:=by
 obtain ⟨W,x,dx,args,xs,d,h',rfl,_,_,_,_,w,r,hn,_⟩:=h
 rw [length_cons,r.len,hn]
theorem ytX {N:List Str}{n k:Nat}{t:TS}{s:XS}{vs:List V}{H:Hp}{Q:VK}{E:XK}{bk ct:St->Hp->Prop}(hN:n+1<=N.length) (a:ysT K t s) (h:spI K n k (ypc N.length k s) vs H Q E):t ⟨fun _ H'=>Q .non H',Q,bk,ct⟩ (L2.start N vs) H:=by
 obtain ⟨W,x,dx,args,xs,d,h',rfl,hx,hd,hne,rfl,w,r,hn,e,q⟩:=h
 obtain ⟨o,h1,e1,f1⟩:=yg e
 have l1:Le K W (yeQ W dx (.own x)):=ycr w hd
 have hx1:(yeQ W dx (.own x)).H x=none:=(yw hne.symm).trans hx
 have l2:Le K (yeQ W dx (.own x)) (yeQ (yeQ W dx (.own x)) x (.ins (K.A k) dx [])):=ycr l1.ok hx1
 have l:=l1.trans l2
 have gs:=ygf (K:=K) (N:=N.drop 1) w r
 have g:Good K W (yeQ (yeQ W dx (.own x)) x (.ins (K.A k) dx [])) (.own (.ins k [] [])::(xs.map .val++replicate (N.length-(xs.length+1)) .no)) (L2.start N (.ref x::args)):=by
  have es:L2.start N (.ref x::args)=some (.ref x)::L2.start (N.drop 1) args:=by
   have e3:N.length-(args.length+1)=(N.drop 1).length-args.length:=by rw [length_drop];omega
   unfold L2.start
   rw [map_cons,List.cons_append,length_cons,e3]
  have eN:N.length-(xs.length+1)=(N.drop 1).length-xs.length:=by rw [length_drop];omega
  rw [es,eN]
  have gs':=gs.step l
  have noown:∀ (j:Nat) (d:Nd),(xs.map PVar.val++replicate ((N.drop 1).length-xs.length) .no)[j]?≠some (.own d):=fun j d z=>by
   by_cases hj:j<xs.length
   .rw [getElem?_append_left (by simpa using hj),getElem?_map,List.getElem?_eq_getElem hj] at z
    cases z
   .rw [getElem?_append_right (by simp;omega),getElem?_replicate] at z
    split at z<;>cases z
  refine ⟨l,by rw [length_cons,length_cons,gs.len],fun j y z=>?_,fun j d z=>?_,fun i j d d' hij z z'=>?_⟩
  .cases j with
   | zero=>cases z
   | succ j=>exact gs'.val j y z
  .cases j with
   | zero=>cases z;exact ⟨x,rfl,w.out hx,hx,(fun z=>by cases z),w.ff hx,dx,[],yn,rfl,rfl⟩
   | succ j=>exact absurd z (noown j d)
  .cases i with
   | zero =>
    cases j with
    | zero=>exact absurd rfl hij
    | succ j=>exact absurd z' (noown j d')
   | succ i=>exact absurd z (noown i d)
 cases o with
 | rt y=>cases f1
 | bk ρ=>cases f1
 | ct ρ=>cases f1
 | nx ρ =>
  refine a W _ _ ρ _ _ h1 g e1 fun W' ew lf g'=>?_
  dsimp only at f1
  split at f1
  .rename_i d' hd'
   cases f1
   obtain ⟨p,b1,b2,b3,b4,b5⟩:=g'.own 0 _ hd'
   have b1:some (some (V.ref x))=some (some (V.ref p)):=b1
   cases b1
   exact q W' ew g'.le b2 b4 b5
  .cases f1
def ygV (f:List PV->AH->Option (Nd×AH)) (a:XA):XO:=fun ρ h=>ob (a ρ h) f
theorem ynG {n k:Nat}{f} {ex:XK}{t:TA}{e:XA}(a:ylc K t e) (hn:∀ ρ h xs h',e ρ h=some (xs,h')->xs.length=n):ylQ K (ytm (K.A k) (spI K n k f) [] ex t) (ygV f e):=by
 intro W0 W ρ σ Q d h' g e' q
 obtain ⟨xs,h1,e1,e2⟩:=yg e'
 refine a W0 W ρ σ _ xs h1 g e1 fun vs W1 w1 l1 r1=>?_
 subst w1
 intro x dx hx hd hne
 rw [append_nil]
 exact ⟨W1,x,dx,vs,xs,d,h',rfl,hx,hd,hne,rfl,l1.ok,r1,hn _ _ _ _ e1,e2,fun W2 w2 l2 hm hdd at_=>⟨rfl,q x W2 w2 (l1.trans l2) hm (l1.fresh hx) hdd at_⟩⟩
def ynH (k:Nat):XO:=fun _ h=>some (.ins k [] [],h)
theorem yqK {k:Nat}:ylQ K (yvI (K.A k)) (ynH k):=by
 intro W0 W ρ σ Q d h' g e q
 cases e
 intro x dx hx hd hne
 have w:=g.ok
 have l1:Le K W (yeQ W dx (.own x)):=ycr w hd
 have hx1:(yeQ W dx (.own x)).H x=none:=(yw hne.symm).trans hx
 have l2:Le K (yeQ W dx (.own x)) (yeQ (yeQ W dx (.own x)) x (.ins (K.A k) dx [])):=ycr l1.ok hx1
 exact q x (yeQ (yeQ W dx (.own x)) x (.ins (K.A k) dx [])) rfl (l1.trans l2) (w.out hx) hx (fun z=>by cases z) ⟨w.ff hx,dx,[],yn,rfl,rfl⟩
def yiE (m:Str) (f:Nat->Fn) (e:XE):XE:=fun ρ h=>ob (e ρ h) fun x h1=>match yeo x h1 with|some (k,ns,_)=>if m∈ns then none else f k [x] h1|none=>none
theorem ytY {m:Str}{f:Nat->Fn}{ta:TE}{ea:XE}(a:ybE K ta ea):ybE K (yvJ K.A m (fun k=>spE K 1 (f k)) ta) (yiE m f ea):=by
 intro W0 W ρ σ Q z h' g e q
 obtain ⟨x,h1,e1,f1⟩:=yg e
 refine a W0 W ρ σ _ x h1 g e1 fun v W1 w1 l1 r1=>?_
 subst w1
 split at f1
 .rename_i k ns xs hi
  split at f1
  .cases f1
  .rename_i hm
   obtain ⟨b,dx,vs,ev,hp,hl,rs⟩:=yfB l1.ok hi r1
   exact ⟨b,k,dx,_,ev,hp,ydf hm,W1,[x],z,h',rfl,l1.ok,⟨v,[],rfl,r1,rfl⟩,rfl,f1,fun u W2 w2 l2 r2=>q u W2 w2 (l1.trans l2) r2⟩
 .cases f1
def yAz (tb:List (Nat×Nat×Bool)) (x c:PV) (h:AH):Option Bool:=match c with
 | .ty n=>(match x with
  | .int _=>if n = "int" then some true else if n = "bool"\/n = "str"\/n = "list"\/n = "tuple"\/n = "dict" then some false else none
  | .bl _=>if n = "int"\/n = "bool" then some true else if n = "str"\/n = "list"\/n = "tuple"\/n = "dict" then some false else none
  | .str _=>if n = "str" then some true else if n = "int"\/n = "bool"\/n = "list"\/n = "tuple"\/n = "dict" then some false else none
  | .non=>if n = "int"\/n = "bool"\/n = "str"\/n = "list"\/n = "tuple"\/n = "dict" then some false else none
  | .tup _=>if n = "tuple" then some true else if n = "int"\/n = "bool"\/n = "str"\/n = "list"\/n = "dict" then some false else none
  | _=>(match ybw x h with|some _=>if n = "list" then some true else if n = "int"\/n = "bool"\/n = "str"\/n = "tuple"\/n = "dict" then some false else none|none=>none))
 | .cls c'=>(match yeo x h with|some (k,_)=>(tb.find? fun r=>r.1 == k && r.2.1 == c').map (·.2.2)|none=>none)
 | _=>none
def yiA (tb:List (Nat×Nat×Bool)):List PV->AH->Option (PV×AH):=fun xs h=>match xs with|[x,c]=>(match yAz tb x c h with|some b=>some (.bl b,h)|none=>none)|_=>none
theorem yes {tb:List (Nat×Nat×Bool)}(ht:∀ r∈tb,∀ (H:Hp) (a dx:Addr) (fs:List (Str×V)),H a=some (.ins (K.A r.1) dx fs)->IsI K.K H (.ref a) (.ref (K.A r.2.1)) r.2.2):yhz K (yFB K.K) (yiA tb):=by
 intro W xs vs Q z h' w r e q
 unfold yiA at e
 split at e
 .rename_i x c
  split at e
  .rename_i b hb
   cases e
   obtain ⟨v,u,rfl,rx,ru⟩:=yGb r
   refine ⟨v,u,b,rfl,?_,q _ W rfl (.refl w) rfl⟩
   unfold yAz at hb
   split at hb
   .rename_i n
    obtain rfl:u=.ty n:=ru
    split at hb
    .rw [show v=_ from rx]
     repeat' split at hb
     all_goals cases hb
     .rename_i hn;subst hn;exact ymh
     .rename_i hn;rcases hn with rfl|rfl|rfl|rfl|rfl
      .exact ykK
      .exact ymm
      .exact ykO
      .exact yjA
      .exact ykP
    .rw [show v=_ from rx]
     repeat' split at hb
     all_goals cases hb
     .rename_i hn;rcases hn with rfl|rfl
      .exact yoS
      .exact ymj
     .rename_i hn;rcases hn with rfl|rfl|rfl|rfl
      .exact yoT
      .exact ymn
      .exact ykQ
      .exact ymo
    .rw [show v=_ from rx]
     repeat' split at hb
     all_goals cases hb
     .rename_i hn;subst hn;exact ymk
     .rename_i hn;rcases hn with rfl|rfl|rfl|rfl|rfl
      .exact ymp
      .exact ykR
      .exact ykS
      .exact yjB
      .exact ykT
    .rw [show v=_ from rx]
     repeat' split at hb
     all_goals cases hb
     .rename_i hn;rcases hn with rfl|rfl|rfl|rfl|rfl|rfl
      .exact ymi
      .exact ykU
      .exact ymq
      .exact ykV
      .exact yjC
      .exact ykW
    .obtain ⟨a,us,rfl,hs,_⟩:=rx
     have hp:(∃ xs,W.H a=some (.tup xs))\/∃ o,K.K.lookup a=some o/\o.cls=.type "tuple":=hs.elim (fun h=>.inl ⟨_,w.le _ _ h⟩) fun ⟨o,its,n,e1,e2,_⟩=>.inr ⟨o,e1,e2⟩
     repeat' split at hb
     all_goals cases hb
     .rename_i hn;subst hn;exact yjE hp
     .rename_i hn;rcases hn with rfl|rfl|rfl|rfl|rfl
      .exact ymt hp
      .exact ykZ hp
      .exact ymu hp
      .exact yla hp
      .exact ylb hp
    .split at hb
     .rename_i ys hy
      obtain ⟨a,us,rfl,hp,_⟩:=yK w hy rx
      repeat' split at hb
      all_goals cases hb
      .rename_i hn;subst hn;exact ykL hp
      .rename_i hn;rcases hn with rfl|rfl|rfl|rfl|rfl
       .exact ymr hp
       .exact ykX hp
       .exact yms hp
       .exact yjD hp
       .exact ykY hp
     .cases hb
   .rename_i c'
    obtain rfl:u=.ref (K.A c'):=ru
    split at hb
    .rename_i k p hi
     obtain ⟨r',h1,h2⟩:=Option.map_eq_some_iff.mp hb
     have hm:=List.mem_of_find?_eq_some h1
     have hp:=List.find?_some h1
     simp only [and_eq_true,beq_iff_eq] at hp
     obtain ⟨a,dx,us,rfl,hs,_⟩:=yfB w hi rx
     obtain ⟨p1,p2⟩:=hp
     have:=ht r' hm W.H a dx (p.1.zip us) (by rw [p1];exact hs)
     rw [p2,h2] at this
     exact this
    .cases hb
   .cases hb
  .cases e
 .cases e
end PX
namespace PX
open PySem L2
section
variable {ρ:PSt}{h h1:AH}{x y z:PV}{a b c:XE}{ca cb:XT}{aa:XA}{eo:XO}{s u:XS}{i:Nat}{p:P2}
theorem ybK {α β:Type}{x:α}{h:AH}{f:α->AH->Option β}:ob (some (x,h)) f=f x h:=id rfl
theorem yDl {α β:Type}{f:α->AH->Option β}:ob (none:Option (α×AH)) f=none:=id rfl
theorem yDm {α β γ:Type}{o:Option (α×AH)}{f:α->AH->Option (β×AH)}{g:β->AH->Option γ}:ob (ob o f) g=ob o fun x h=>ob (f x h) g:=by cases o<;>rfl
theorem yDn {α β:Type}{q:Prop} [Decidable q] {o o':Option (α×AH)}{f:α->AH->Option β}:ob (if q then o else o') f=if q then ob o f else ob o' f:=by split<;>rfl
theorem yvQ:yf 0 (.val x::ρ) h=some (x,h):=id rfl
theorem yAA {v:PVar}{n:Nat}:yf (n+1) (v::ρ) h=yf n ρ h:=by simp [yf]
theorem x_c:xC x ρ h=some (x,h):=id rfl
theorem yDo:xOp p a b ρ h=ob (a ρ h) fun x h1=>ob (b ρ h1) fun y h2=>p x y h2:=id rfl
theorem yDp {p:P2O}:ysP p a b ρ h=ob (a ρ h) fun x h1=>ob (b ρ h1) fun y h2=>p x y h2:=id rfl
theorem yGc {p}:xUn p a ρ h=ob (a ρ h) fun x h1=>p x h1:=id rfl
theorem yGd {k:Bool}:oB (.bl k) h=some (k,h):=id rfl
theorem yxC {p p':P2}:yeZ p p' a b c ρ h=ob (a ρ h) fun x h1=>ob (b ρ h1) fun y h2=>ob (p x y h2) fun z h3=>ob (oB z h3) fun k h3=>if k=true then ob (c ρ h3) fun w h4=>p' y w h4 else some (.bl false,h3):=id rfl
theorem yAB:yo a ρ h=ob (a ρ h) oB:=id rfl
theorem yAC:yjF a b ρ h=ob (a ρ h) fun x h1=>ob (oB x h1) fun k h1=>if k=true then b ρ h1 else some (.bl false,h1):=id rfl
theorem yDq:ywV ca cb ρ h=ob (ca ρ h) fun k h1=>if k=true then cb ρ h1 else some (false,h1):=id rfl
theorem yGe:xOr ca cb ρ h=ob (ca ρ h) fun k h1=>if k=true then some (true,h1) else cb ρ h1:=id rfl
theorem yDr:yiV ca ρ h=ob (ca ρ h) fun k h1=>some (!k,h1):=id rfl
theorem yGf:xIf ca a b ρ h=ob (ca ρ h) fun k h1=>if k=true then a ρ h1 else b ρ h1:=id rfl
theorem yxD:yh ρ h=some ([],h):=id rfl
theorem yAD:yc a aa ρ h=ob (a ρ h) fun x h1=>ob (aa ρ h1) fun xs h2=>some (x::xs,h2):=id rfl
theorem yDs:yiy aa ρ h=ob (aa ρ h) fun xs h1=>if xs.length<=1000 then some (.tup xs,h1) else none:=id rfl
theorem yDt:yfi aa ρ h=ob (aa ρ h) fun xs h1=>if xs.length<=1000 then some (.lst xs,h1) else none:=id rfl
def fzN:Nd->AH->Option (PV×AH)
 | .lst xs,h=>some (.lst xs,h)
 | .ins k ns xs,h=>some (.ins k ns xs,h)
 | _,_=>none
theorem yCw:xFz eo ρ h=ob (eo ρ h) fzN:=by
 unfold xFz;congr;funext d h1;cases d<;>rfl
theorem yDu {xs:List PV}:fzN (.lst xs) h=some (.lst xs,h):=id rfl
theorem yDv {k:Nat}{ns:List Str}{xs:List PV}:fzN (.ins k ns xs) h=some (.ins k ns xs,h):=id rfl
theorem yDw:yhy eo ρ h=ob (eo ρ h) fun d h1=>some (.loc h1.length,h1++[d]):=id rfl
theorem x_call {f:Fn}:yM f aa ρ h=ob (aa ρ h) f:=id rfl
theorem yGg {f}:xCB f aa ρ h=ob (aa ρ h) f:=id rfl
theorem yDx {f}:yiz f aa ρ h=ob (aa ρ h) f:=id rfl
theorem yAE {q} {p:PM}:xBM q p a aa ρ h=ob (a ρ h) fun x h1=>if q x h1=true then ob (aa ρ h1) fun xs h2=>p x xs h2 else none:=id rfl
theorem yxE {s:Str}:isStr (.str s) h=true:=id rfl
theorem yAF {f}:ygV f aa ρ h=ob (aa ρ h) f:=id rfl
theorem yxF {k:Nat}:ynH k ρ h=some (.ins k [] [],h):=id rfl
theorem yAG:yI ρ h=some (.nx ρ,h):=id rfl
noncomputable def sqK (u:XS):Out->AH->Option (Out×AH)
 | .nx ρ,h=>u ρ h
 | .rt x,h=>some (.rt x,h)
 | .bk ρ,h=>some (.bk ρ,h)
 | .ct ρ,h=>some (.ct ρ,h)
theorem ypd:ym s u ρ h=ob (s ρ h) (sqK u):=by
 unfold ym;congr;funext o h1;cases o<;>rfl
theorem yDy:sqK u (.nx ρ) h=u ρ h:=id rfl
theorem yDz:sqK u (.rt x) h=some (.rt x,h):=id rfl
theorem ynI:ybD a ρ h=ob (a ρ h) fun _ h1=>some (.nx ρ,h1):=id rfl
theorem ytZ:yO a ρ h=ob (a ρ h) fun x h1=>some (.rt x,h1):=id rfl
theorem yDA:ybF ca s u ρ h=ob (ca ρ h) fun k h1=>if k=true then s ρ h1 else u ρ h1:=id rfl
theorem yua {g:XG}:ycg a g ρ h=ob (a ρ h) fun x h1=>(g x ρ).bind fun ρ'=>some (.nx ρ',h1):=id rfl
theorem yAH:ymx eo i ρ h=ob (eo ρ h) fun d h1=>some (.nx (ρ.set i (.own d)),h1):=id rfl
theorem yAI:yu i x ρ=some (ρ.set i (.val x)):=id rfl
theorem yDB:yoX i s ρ h=s (ymy i ρ) h:=id rfl
theorem yDC {v:PVar}:ymy 0 (v::ρ)=ysQ v::ρ:=id rfl
theorem yDD {v:PVar}{n:Nat}:ymy (n+1) (v::ρ)=v::ymy n ρ:=id rfl
theorem yDE {xs:List PV}:ysQ (.own (.lst xs))=.val (.lst xs):=id rfl
theorem yDF:ysQ (.val x)=.val x:=id rfl
theorem yDG {it:XA}{g:XG}:ymz it g s ρ h=ob (it ρ h) fun xs h1=>ygb g s xs ρ h1:=id rfl
def frK (g:XG) (s:XS) (xs:List PV):Out->AH->Option (Out×AH)
 | .nx ρ,h=>ygb g s xs ρ h
 | .ct ρ,h=>ygb g s xs ρ h
 | .bk ρ,h=>some (.nx ρ,h)
 | .rt y,h=>some (.rt y,h)
theorem yAJ {g:XG}{xs:List PV}:ygb g s (x::xs) ρ h=(g x ρ).bind fun ρ1=>ob (s ρ1 h) (frK g s xs):=by
 unfold ygb;congr;funext ρ1;congr;funext o h1;cases o<;>rfl
def fnK:Out->AH->Option (PV×AH)
 | .rt x,h=>some (x,h)
 | .nx _,h=>some (.non,h)
 | _,_=>none
theorem yp {N:Nat}{xs:List PV}:ybA N s xs h=ob (s (xs.map .val++replicate (N-xs.length) .no) h) fnK:=by
 unfold ybA;congr;funext o h1;cases o<;>rfl
theorem yDH:fnK (.rt x) h=some (x,h):=id rfl
theorem yDI:fnK (.nx ρ) h=some (.non,h):=id rfl
def ydU (cs:List Nat) (f:Str) (x:PV) (h:AH):Option (PV×AH):=match yeo x h with|some (k,ns,xs)=>if k∈cs/\f∈ns then (match xs[ns.idxOf f]? with|some y=>some (y,h)|none=>none) else none|none=>none
theorem ymE {cs:List Nat}{f:Str}:ybm cs f a ρ h=ob (a ρ h) (ydU cs f):=id rfl
theorem ygh {cs:List Nat}{f:Str}{k:Nat}{ns:List Str}{xs:List PV}{y:PV}(hk:k∈cs) (hf:f∈ns) (hy:xs[ns.idxOf f]?=some y):ydU cs f (.ins k ns xs) h=some (y,h):=by
 unfold ydU yeo
 simp [hk,hf,hy]
def yiF (m:Str) (f:Nat->Fn) (x:PV) (h:AH):Option (PV×AH):=match yeo x h with|some (k,ns,_)=>if m∈ns then none else f k [x] h|none=>none
theorem yvR {m:Str}{f:Nat->Fn}:yiE m f a ρ h=ob (a ρ h) (yiF m f):=id rfl
theorem ydt {m:Str}{f:Nat->Fn}{k:Nat}{ns:List Str}{xs:List PV}(hm:m∉ns):yiF m f (.ins k ns xs) h=f k [.ins k ns xs] h:=by
 unfold yiF yeo
 simp [hm]
theorem x_i {g:Int->Int->PV}{i j:Int}:oI g (.int i) (.int j) h=some (g i j,h):=id rfl
theorem yGh {C:Int->Int->Prop} [∀ i j,Decidable (C i j)] {g:Int->Int->PV}{i j:Int}:oIc C g (.int i) (.int j) h=if C i j then some (g i j,h) else none:=id rfl
theorem ynJ {i j:Int}(h1:-18446744073709551616<j) (h2:j<18446744073709551616):MulOk i j=True:=eq_true (.inr ⟨h1,h2⟩)
theorem yAK {i j:Int}(h1:-18446744073709551616<i) (h2:i<18446744073709551616):MulOk i j=True:=eq_true (.inl ⟨h1,h2⟩)
theorem yDJ {i j:Int}(h1:0<=i) (h2:i<18446744073709551616) (h3:0<=j) (h4:j<=1000000):yqG i j=True:=eq_true ⟨⟨h1,h2⟩,h3,h4⟩
theorem yDK {i j:Int}:oEq (.int i) (.int j) h=some (.bl (decide (i=j)),h):=by simp [oEq,sv,yvD]
theorem yDL {i j:Str}:oEq (.str i) (.str j) h=some (.bl (decide (i=j)),h):=by simp [oEq,sv,yvD]
theorem yDM {i j:Int}:oNe (.int i) (.int j) h=some (.bl (!decide (i=j)),h):=by simp [oNe,sv,yvD]
theorem yDN {i j:Str}:oNe (.str i) (.str j) h=some (.bl (!decide (i=j)),h):=by simp [oNe,sv,yvD]
theorem yDO:yzl x .non h=some (.bl (isN x),h):=id rfl
theorem yAL:ytS x .non h=some (.bl (!isN x),h):=id rfl
theorem yAM {i j:Str}:yer (.str i) (.str j) h=if i.length+j.length<=100000 then some (.str (i++j),h) else none:=id rfl
theorem yDP {c:Nat}{j:Str}:yAq (.str ⟨#[c]⟩) (.str j) h=some (.bl (decide (c∈j.cps.toList)),h):=id rfl
theorem yDQ {xs:List PV}{i:Int}:ycj (.lst xs) (.int i) h=(atI xs i).bind fun v=>some (v,h):=by
 simp only [ycj];cases atI xs i<;>rfl
theorem yDR {xs:List Int}{i:Int}:ycj (.scr xs) (.int i) h=(atI xs i).bind fun v=>some (.int v,h):=by
 simp only [ycj];cases atI xs i<;>rfl
theorem yDS {xs:List PV}{i:Int}:yce (.tup xs) (.int i) h=(atI xs i).bind fun v=>some (v,h):=by
 simp only [yce];cases atI xs i<;>rfl
theorem yDT {s:Str}{i:Int}:yAs (.str s) (.int i) h=(atI s.cps.toList i).bind fun c=>if s.length<=100000 then some (sgn c,h) else none:=by
 simp only [yAs];cases atI s.cps.toList i<;>rfl
theorem yDU {xs:List Int}{lo hi:Option Int}:yxw (.scr xs) lo hi h=some (.lst (yky (xs.map .int) lo hi),h):=id rfl
theorem yDV {xs ys:List PV}:yxx (.lst xs) (.lst ys) h=if xs.length+ys.length<=100000 then some (.lst (xs++ys),h) else none:=id rfl
theorem yDW {xs:List PV}{k:Int}:yxy (.lst xs) (.int k) h=if -1000000<=k/\k<=100000/\xs.length*k.toNat<=100000 then some (.lst (repL k.toNat xs),h) else none:=id rfl
theorem yGi {p} {lo hi}:xSl p a lo hi ρ h=ob (a ρ h) fun x h1=>ob (lo ρ h1) fun l h2=>ob (hi ρ h2) fun u h3=>p x l u h3:=id rfl
theorem yDX {p} {lo hi}:ywW p a lo hi ρ h=ob (a ρ h) fun x h1=>ob (lo ρ h1) fun l h2=>ob (hi ρ h2) fun u h3=>p x l u h3:=id rfl
theorem yAN:ygT a ρ h=ob (a ρ h) fun x h1=>match x with|.int i=>some (some i,h1)|_=>none:=id rfl
theorem yub:yjG ρ h=some (none,h):=id rfl
theorem yAO {xs:List PV}:ybP [.lst xs] h=some (.int xs.length,h):=id rfl
theorem yAP {xs:List Int}:ybP [.scr xs] h=some (.int xs.length,h):=id rfl
theorem yAQ {z:Str}:ymB [.str z] h=if z.length<=100000 then some (.int z.length,h) else none:=id rfl
theorem yvS {k:Int}:ypa [.int k] h=if k.natAbs.log2<1920 then some (.str (toString k:String),h) else none:=id rfl
theorem yxG {xs:List PV}:yR [.lst xs] h=some (.lst xs,h):=id rfl
theorem yGj {xs:List PV}(e:a ρ h=some (.lst xs,h1)):xIL a ρ h=some (xs,h1):=by unfold xIL;rw [e];rfl
theorem yvT {it:XA}{ix:List Nat}:yfj it ix a ρ h=ob (it ρ h) fun xs h1=>if xs.length<=100000 then ob (yhA a (yfb ix ρ) xs h1) fun ys h2=>some (.lst ys,h2) else none:=id rfl
end
end PX
namespace L2
open PySem PySem.Spec PyProof.Rows
end L2
namespace L2
open PySem PySem.Spec PyProof.Rows
section
variable (P:Program) (w:World)
end
section
variable {P:Program}{w:World}{H H':Hp}{h h':Heap}{a:Addr}{o:HO}
end
section
variable {P:Program}{w:World}{H:Hp}{h h':Heap}{x e:Addr}{o':HO}
end
section
variable {fs fs' ex ex':List Addr}{H H1 H2:Hp}{h h1 h2 h':Heap}{a x e:Addr}{o:HO}
end
end L2
namespace L2
open PySem PySem.Spec PyProof.Rows
section
variable {X:Cx}{pins:List (Addr×Obj)}{σ:List (Option V)}{H H':Hp}{s:Shared}{h':Heap}
end
end L2
namespace L2
open PySem PySem.Spec PyProof.Rows
section
variable {X:Cx}
variable {a b:Expr}{ta tb:TE}{pos:Pos}
variable {tA tB':TT}{rest:List Expr}
end
end L2
namespace L2
open PySem PySem.Spec PyProof.Rows
section
variable {X:Cx}{pins:List (Addr×Obj)}{σ:St}{H:Hp}{s:Shared}{a:Addr}{xs ys:List V}
end
section
variable {X:Cx}{pins:List (Addr×Obj)}{σ:St}{H:Hp}{s:Shared}{E:Value->Shared->Prop}
end
section
variable {X:Cx}{st:Stmt}{rest:List Stmt}{t u:TS}{e:Expr}{te:TE}{pos:Pos}
end
section
variable {X:Cx}{pos:Pos}
end
section
variable {X:Cx}{pos:Pos}
end
end L2
namespace L2
open PySem PySem.Spec PyProof.Rows
section
variable {X:Cx}{tg:Expr}
end
end L2
namespace L2
open PySem PySem.Spec PyProof.Rows
section
variable {X:Cx}{a b c:Expr}{ta tb tc:TE}{pos:Pos}
end
section
variable {X:Cx}{a b c:Expr}{ta tb tc:TE}{pos:Pos}
end
end L2
namespace L2
open PySem PySem.Spec PyProof.Rows
section
variable {prog:Program}{w:World}{A:Around}{E:Value->Shared->Prop}{s:Shared}{K:PySem.W.Frag}{x dx C f:Addr}{mA:Str->Option Value}{name:Str}{v:Value}
end
section
variable {P:Program}{w:World}{H H':Hp}{h h':Heap}{a C dx:Addr}{fs fs':List (Str×V)}
end
section
variable {X:Cx}{pins:List (Addr×Obj)}{σ:St}{H:Hp}{s:Shared}{a C dx:Addr}{fs:List (Str×V)}{f:Str}{v:V}{A:Around}{E:Value->Shared->Prop}
end
section
variable {X:Cx}{o e value:Expr}{f:Str}{pos pos' tpos:Pos}{ta tv:TE}
end
section
variable {X:Cx}{pins:List (Addr×Obj)}{σ:St}{H:Hp}{s:Shared}{A:Around}{E:Value->Shared->Prop}{Q:Value->Shared->Prop}{c:Value}{b:Bool}
end
end L2
namespace L2
open PySem PySem.Spec PyProof.Rows
section
variable {X:Cx}{e:Expr}{es:List Expr}{te:TE}{t:TA}{pos:Pos}
end
section
variable {X:Cx}{pins:List (Addr×Obj)}{σ:St}{H:Hp}{s s':Shared}
end
section
variable {X:Cx}{CX:CXT}{k:Nat}{f C:Addr}{fd:FuncData}{ps:List Str}{sp:Sp}{dvs:List V}{ds:List Value}{E:XK}{x m:Str}{p pos apos:Pos}{e o:Expr}{es:List Expr}{ta:TE}{t:TA}
end
section
variable {X:Cx}{CX:CXT}{k:Nat}{f C:Addr}{fd:FuncData}{ps ks:List Str}{sp:Sp}{E:XK}{x m:Str}{p pos apos kpos:Pos}{e o:Expr}{es:List Expr}{kws:List Keyword}{te ta:TE}{t tk:TA}{nm:Option Str}
variable {g:List Value->List Value->List Value}{gV:List V->List V->List V}
end
end L2
namespace L2
open PySem PySem.Spec PyProof.Rows
section
variable {X:Cx}{x:Str}{p pos:Pos}{e:Expr}{es:List Expr}{t:TA}{id T:String}{r:List V->Hp->VK->Prop}
end
end L2
namespace L2
open PySem PySem.Spec PyProof.Rows
section
variable {κ:Type} [DecidableEq κ]
def ylR (kvs:List (κ×V)) (k:κ):Option V:=(kvs.find? fun kv=>decide (kv.1=k)).map (·.2)
noncomputable def putK (kvs:List (κ×V)) (k:κ) (v:V):List (κ×V) :=
 if (kvs.any fun kv=>decide (kv.1=k))=true then kvs.map (fun kv=>if kv.1=k then (kv.1,v) else kv) else kvs++[(k,v)]
theorem yjN {p:κ×V}{r:List (κ×V)}{k:κ}(e:p.1=k):ylR (p::r) k=some p.2:=by simp [ylR,find?_cons,e]
theorem yjO {p:κ×V}{r:List (κ×V)}{k:κ}(e:¬ p.1=k):ylR (p::r) k=ylR r k:=by simp [ylR,find?_cons,e]
theorem ynK (k:κ):∀ kvs:List (κ×V),(kvs.any fun kv=>decide (kv.1=k))=(ylR kvs k).isSome
 | []=>rfl
 | p::r=>by
  rw [any_cons]
  by_cases e:p.1=k
  .simp only [yjN e,decide_eq_true e,Bool.true_or,Option.isSome_some]
  .rw [yjO e,decide_eq_false e,Bool.false_or];exact ynK k r
theorem yfl (kvs:List (κ×V)) (k:κ) (v:V):(putK kvs k v).length<=kvs.length+1:=by
 unfold putK
 split
 .rw [length_map];omega
 .rw [length_append,length_cons,length_nil];omega
theorem RelO.isSome_eq {o:Option V}{u:Option Value}(r:RelO o u):o.isSome=u.isSome:=by
 cases o with
 | none=>cases u with
  | none=>rfl
  | some _=>exact (show False from r).elim
 | some _=>cases u with
  | none=>exact (show False from r).elim
  | some _=>rfl
theorem KV.val {kvs:List (κ×V)}{vs:List (κ×Value)}(r:KV kvs vs) (k:κ):RelO (ylR kvs k) (valueAt vs k):=by
 unfold KV at r
 induction r with
 | nil=>exact True.intro
 | @cons p q ps qs h t ih =>
  obtain ⟨h1,h2⟩:=h
  by_cases e:p.1=k
  .have e':q.1=k:=h1.symm.trans e
   have b:valueAt (q::qs) k=some q.2:=by simp [valueAt,find?_cons,e']
   rw [yjN e,b];exact h2
  .have e':¬ q.1=k:=fun z=>e (h1.trans z)
   have b:valueAt (q::qs) k=valueAt qs k:=by simp [valueAt,find?_cons,e']
   rw [yjO e,b];exact ih
theorem KV.any {kvs:List (κ×V)}{vs:List (κ×Value)}(r:KV kvs vs) (k:κ):(kvs.any fun kv=>decide (kv.1=k))=vs.any fun kv=>decide (kv.1=k):=by
 unfold KV at r
 induction r with
 | nil=>rfl
 | cons h t ih=>rw [any_cons,any_cons,ih,h.1]
theorem KV.repl {kvs:List (κ×V)}{vs:List (κ×Value)}(r:KV kvs vs) (k:κ) {y:V}{u:Value}(ry:RelV y u) :
  KV (kvs.map fun kv=>if kv.1=k then (kv.1,y) else kv) (vs.map fun kv=>if kv.1=k then (kv.1,u) else kv):=by
 unfold KV at r ⊢
 induction r with
 | nil=>exact .nil
 | @cons p q ps qs h t ih =>
  rw [map_cons,map_cons]
  refine .cons ?_ ih
  obtain ⟨h1,h2⟩:=h
  by_cases e:p.1=k
  .rw [if_pos e,if_pos (h1.symm.trans e)];exact ⟨h1,ry⟩
  .rw [if_neg e,if_neg (fun z=>e (h1.trans z))];exact ⟨h1,h2⟩
theorem KV.put {kvs:List (κ×V)}{vs:List (κ×Value)}(r:KV kvs vs) (k:κ) {y:V}{u:Value}(ry:RelV y u):KV (putK kvs k y) (stored vs k u):=by
 unfold putK stored
 rw [r.any k]
 by_cases e:(vs.any fun kv=>decide (kv.1=k))=true
 .rw [if_pos e,if_pos e];exact r.repl k ry
 .rw [if_neg e,if_neg e];exact Paired.snoc r ⟨rfl,ry⟩
theorem KV.length {kvs:List (κ×V)}{vs:List (κ×Value)}(r:KV kvs vs):kvs.length=vs.length:=Paired.length r
end
theorem yxH {P:Program}{w:World}{k:Key}{u:Value}(r:RelV (kV k) u):(ycp P w).is k u=true:=by
 cases k with
 | inl i=>obtain ⟨t,e⟩:=(show ∃ t,u=Value.int i t from r);subst e;exact ylW P w i t
 | inr x=>obtain ⟨t,e⟩:=(show ∃ t,u=Value.str x t from r);subst e;exact ylX P w x t
theorem ylh {P:Program}{w:World}:∀ {ks:List Key}{us:List Value},Vals (ks.map kV) us->ItemsAre (ycp P w) ks us
 | [],_,r=>by rw [map_nil] at r;cases r;exact .nil
 | k::ks,_,r=>by
  rw [map_cons] at r
  cases r with
  | cons h t=>exact .cons (yxH h) (ylh t)
abbrev KT (H:Hp):List (List Key×V)->List (List Key×Addr×Value)->Prop:=Paired fun p q=>p.1=q.1/\H q.2.1=some (.tup (p.1.map kV))/\RelV p.2 q.2.2
theorem KT.val {H:Hp}{kvs:List (List Key×V)}{xs:List (List Key×Addr×Value)}(r:KT H kvs xs) (k:List Key):RelO (ylR kvs k) ((atKey xs k).map (·.2)):=by
 induction r with
 | nil=>exact True.intro
 | @cons p q ps qs h t ih =>
  obtain ⟨h1,_,h2⟩:=h
  by_cases e:p.1=k
  .have e':q.1=k:=h1.symm.trans e
   have b:atKey (q::qs) k=some q.2:=by simp [atKey,find?_cons,e']
   rw [yjN e,b];exact h2
  .have e':¬ q.1=k:=fun z=>e (h1.trans z)
   have b:atKey (q::qs) k=atKey qs k:=by simp [atKey,find?_cons,e']
   rw [yjO e,b];exact ih
theorem KT.repl {H:Hp}{kvs:List (List Key×V)}{xs:List (List Key×Addr×Value)}(r:KT H kvs xs) (k:List Key) {y:V}{u:Value}(ry:RelV y u) :
  KT H (kvs.map fun kv=>if kv.1=k then (kv.1,y) else kv) (xs.map (putAt k u)):=by
 induction r with
 | nil=>exact .nil
 | @cons p q ps qs h t ih =>
  rw [map_cons,map_cons]
  refine .cons ?_ ih
  obtain ⟨h1,h2,h3⟩:=h
  unfold putAt
  by_cases e:p.1=k
  .rw [if_pos e,if_pos (h1.symm.trans e)];exact ⟨h1,h2,ry⟩
  .rw [if_neg e,if_neg (fun z=>e (h1.trans z))];exact ⟨h1,h2,h3⟩
theorem KT.put {H:Hp}{kvs:List (List Key×V)}{xs:List (List Key×Addr×Value)}(r:KT H kvs xs) (k:List Key) {b:Addr}{y:V}{u:Value}(hb:H b=some (.tup (k.map kV))) (ry:RelV y u) :
  KT H (putK kvs k y) (storedH xs k b u):=by
 have e:(kvs.any fun kv=>decide (kv.1=k))=(atKey xs k).isSome:=by
  rw [ynK,(r.val k).isSome_eq,Option.isSome_map]
 unfold putK storedH
 rw [e]
 by_cases q:(atKey xs k).isSome=true
 .rw [if_pos q,if_pos q];exact r.repl k ry
 .rw [if_neg q,if_neg q];exact Paired.snoc r ⟨rfl,hb,ry⟩
theorem KT.keeps {H H':Hp}{kvs:List (List Key×V)}{xs:List (List Key×Addr×Value)}(r:KT H kvs xs) (ht:∀ b ys,H b=some (.tup ys)->H' b=some (.tup ys)):KT H' kvs xs :=
 Paired.mapP r fun _ _ z=>⟨z.1,ht _ _ z.2.1,z.2.2⟩
section
variable {P:Program}{w:World}{H:Hp}{h:Heap}{a:Addr}
theorem yAR {u:HO}(ok:HOk P w H h) (e:Rd H a u):ObjOk P w H h a u:=e.ok ok
theorem yxI {kvs:List (Key×V)}(ok:HOk P w H h) (e:Rd H a (.dK kvs)):kvs.length<=sizeLine/\(a == sysModules)=false/\∃ vs,KV kvs vs/\h.DictOf (ycp P w) a vs :=
 show ObjOk P w H h a (.dK kvs) from yAR ok e
theorem yxJ {kvs:List (Key×V)}(ok:HOk P w H h) (e:H a=some (.dK kvs)):kvs.length<=sizeLine/\(a == sysModules)=false/\∃ vs,KV kvs vs/\h.DictOf (ycp P w) a vs:=yxI ok (.inl e)
theorem yqL {ks:List Key}(ok:HOk P w H h) (e:H a=some (.tup (ks.map kV))):(tupleKind (ycp P w)).is h ks a:=by
 obtain ⟨_,its,r,o,h1,h2,n,h3⟩:=(show ObjOk P w H h a (.tup (ks.map kV)) from ok a _ e)
 exact ⟨o,its.toArray,n,h1,h2,h3,by simpa using ylh r⟩
theorem yxK {kvs:List (List Key×V)}(ok:HOk P w H h) (e:Rd H a (.dT kvs)):kvs.length<=sizeLine/\(a == sysModules)=false /\
  ∃ xs,KT H kvs xs/\h.DictOfH (tupleKind (ycp P w)) a xs:=by
 obtain ⟨z,y,xs,r,o,es,ep,h1,h2,h3,h4,h5⟩:=(show ObjOk P w H h a (.dT kvs) from yAR ok e)
 refine ⟨z,y,xs,r,o,es,ep,h1,h2,h3,h4,fun x hx=>?_,h5⟩
 have all:∀ {l:List (List Key×V)}{m:List (List Key×Addr×Value)},KT H l m->∀ x∈m,(tupleKind (ycp P w)).is h x.1 x.2.1:=by
  intro l m q
  induction q with
  | nil=>intro x hx;exact nomatch hx
  | @cons p q ps qs hq t ih =>
   intro x hx
   rcases mem_cons.mp hx with e|hx
   .subst e
    exact yqL ok (by rw [<- hq.1];exact hq.2.1)
   .exact ih x hx
 exact all r x hx
theorem yDY {kvs:List (List Key×V)}(ok:HOk P w H h) (e:H a=some (.dT kvs)):kvs.length<=sizeLine/\(a == sysModules)=false /\
  ∃ xs,KT H kvs xs/\h.DictOfH (tupleKind (ycp P w)) a xs:=yxK ok (.inl e)
end
noncomputable def DGet (H:Hp) (a:Addr) (y:V) (r:Option V):Prop :=
 (∃ kvs k,Rd H a (.dK kvs)/\y=kV k/\r=ylR kvs k)\/∃ kvs k b,Rd H a (.dT kvs)/\y=.ref b/\H b=some (.tup (k.map kV))/\r=ylR kvs k
def DPut (H:Hp) (a:Addr) (y v:V) (H':Hp):Prop :=
 (∃ kvs k,H a=some (.dK kvs)/\y=kV k/\kvs.length<sizeLine/\H'=upd H a (.dK (putK kvs k v))) \/
 ∃ kvs k b,H a=some (.dT kvs)/\y=.ref b/\H b=some (.tup (k.map kV))/\kvs.length<sizeLine/\H'=upd H a (.dT (putK kvs k v))
theorem DPut.k {H:Hp}{a:Addr}{kvs:List (Key×V)}{k:Key}{v:V}(e:H a=some (.dK kvs)) (hl:kvs.length<sizeLine):DPut H a (kV k) v (upd H a (.dK (putK kvs k v))):=.inl ⟨kvs,k,e,rfl,hl,rfl⟩
section
variable {X:Cx}{pins:List (Addr×Obj)}{σ:St}{H:Hp}{s:Shared}{a:Addr}{y v:V}{u r:Value}{o:Option V}{A:Around}{E:Value->Shared->Prop}
theorem Inv.big (I:Inv X pins σ H s):sysModules<s.heap.objs.size:=by
 have h:mainGlobals<s.heap.objs.size:=(I.mod.glob.keeps I.bk).lt
 exact Nat.lt_trans (by decide) h
theorem yqM {Q:Value->Shared->Prop}(hu:A.units+1<cLine) (I:Inv X pins σ H s) (g:DGet H a y (some v)) (ry:RelV y u) (h:∀ w' s',Inv X pins σ H s'->RelV v w'->Q w' s') :
  wpAny (model X.prog X.w) A (getItem (.ref a) u) Q E s:=by
 rcases g with ⟨kvs,k,e,ey,l⟩|⟨kvs,k,b,e,ey,eb,l⟩
 .subst ey
  obtain ⟨z,hd,vs,rel,dd⟩:=yxI I.hok e
  obtain ⟨w',hw,rw'⟩:=RelO.some_of (v:=v) (o:=valueAt vs k) (by rw [l];exact rel.val k)
  exact wpAny_getItem_of (yxH ry) dd.mapOf hw (h w' _ (I.tok _) rw')
 .subst ey
  cases (show u=Value.ref b from ry)
  obtain ⟨z,hd,xs,rel,dd⟩:=yxK I.hok e
  obtain ⟨w',hw,rw'⟩:=RelO.some_of (v:=v) (o:=(atKey xs k).map (·.2)) (by rw [l];exact rel.val k)
  obtain ⟨p,hp,hp2⟩:=Option.map_eq_some_iff.mp hw
  refine wpAny_getItem_heap (tupleKind_room_in1 hu) (yqL I.hok eb) dd hp ?_
  rw [hp2]
  exact h w' _ (I.tok _) rw'
theorem ymF {h':Heap}{t':Nat}{ob:HO}(I:Inv X pins σ H s) (mu:Mut (H a)) (hs:Heap.SameBut a s.heap h') (he:∃ q,h'.get? a=some q) (new:ObjOk X.prog X.w (upd H a ob) h' a ob) :
  Inv X pins σ (upd H a ob) { s with heap:=h',toks:=t' } :=
 I.write (x:=a) (e:=a) mu (.inl rfl) (fun b q hb z=>(hs.2 b hb).trans z) he new
theorem yvU {P:Program}{w:World}{H':Hp}{h':Heap}{kvs:List (Key×V)}{vs:List (Key×Value)}(z:kvs.length<=sizeLine) (hd:(a == sysModules)=false) (rel:KV kvs vs) (dd:h'.DictOf (ycp P w) a vs) :
  ObjOk P w H' h' a (.dK kvs):=⟨z,hd,vs,rel,dd⟩
theorem yqN {H':Hp}{Q:Unit->Shared->Prop}(hu:A.units+1<cLine) (I:Inv X pins σ H s) (g:DPut H a y v H') (ry:RelV y u) (rv:RelV v r) (h:∀ s',Inv X pins σ H' s'->Q () s') :
  wpAny (model X.prog X.w) A (setItem (.ref a) u r) Q E s:=by
 rcases g with ⟨kvs,k,e,ey,l,eH⟩|⟨kvs,k,b,e,ey,eb,l,eH⟩
 .subst ey eH
  obtain ⟨z,hd,vs,rel,dd⟩:=yxJ I.hok e
  have hz:vs.length<=sizeLine:=by rw [<- rel.length];exact z
  have hl:(putK kvs k v).length<=sizeLine:=by have:=yfl kvs k v;omega
  refine wpAny_setItem_pairs (hsz:=hz) (yxH ry) dd fun h' dd' hs=>h _ ?_
  have he:∃ q,h'.get? a=some q:=let ⟨q,_,_,hq,_⟩:=dd';⟨q,hq⟩
  exact ymF I (by rw [e];exact True.intro) hs he (yvU hl hd (rel.put k rv) dd')
 .subst ey eH
  cases (show u=Value.ref b from ry)
  obtain ⟨z,hd,xs,rel,dd⟩:=yDY I.hok e
  have hz:xs.length<=sizeLine:=by rw [<- Paired.length rel];exact z
  have hl:(putK kvs k v).length<=sizeLine:=by have:=yfl kvs k v;omega
  refine wpAny_setItem_heap (hsz:=hz) (tupleKind_room_in1 hu) (yqL I.hok eb) dd fun h' dd' hs=>h _ ?_
  obtain ⟨q,es,ep,hq,h2,h3,h4,_,h5⟩:=dd'
  refine ymF I (by rw [e];exact True.intro) hs ⟨q,hq⟩ ⟨hl,hd,_,(rel.put k eb rv).keeps fun c ys ec=>?_,q,es,ep,hq,h2,h3,h4,h5⟩
  rw [yw (yCG ec e (fun z=>nomatch z))]
  exact ec
end
section
variable {X:Cx}{pins:List (Addr×Obj)}{σ:St}{H:Hp}{s:Shared}{a:Addr}{kvs:List (Key×V)}{k:Key}{u:Value}{A:Around}{E:Value->Shared->Prop}
end
def yDZ (i:Expr):Prop:=∀ ov iv,subscripted i false ov iv=operate [ov,iv] (getItem ov iv)
theorem yxL {prog:Program}{w:World}{A:Around}{E:Value->Shared->Prop}{s:Shared}{env:Env}{value slice:Expr}{pos:Pos}{T id:String}{Q:Value->Shared->Prop}
  (hl:typeLookup (.type T) "__getitem__" = pure (some (.builtin id))) (hs:yDZ slice)
  (h:wpAny (model prog w) A (eval value env) (fun o s₁=>wpAny (model prog w) A (eval slice env) (fun i s₂=>s₂.TypeIs o T/\wpAny (model prog w) A (getItem o i) Q E s₂) E s₁) E s) :
  wpAny (model prog w) A (eval (.Subscript value slice pos) env) Q E s:=by
 refine Subscript_ (wpAny_mono h (fun o s₁ h₁=>wpAny_mono h₁ (fun i s₂ h₂=>?_) fun _ _ x=>x) fun _ _ x=>x)
 obtain ⟨hT,h₂⟩:=h₂
 unfold subscriptTail
 refine wpAny_bind ?_
 rw [getitemInPython_of_ne hT.not_modules]
 refine wpAny_bind (wpAny_specialOf hT hl ?_)
 have fin:wpAny (model prog w) A (subscripted slice false o i) (fun r s₃=>wpAny (model prog w) A (letTemporaryGo value o r >>= fun _=>pure r) Q E s₃) E s₂:=by
  rw [hs o i]
  exact wpAny_operating (wpAny_mono h₂ (fun r s₃ h₃=>wpAny_bind (wpAny_letTemporaryGo (wpAny_pure h₃))) fun _ _ x=>x)
 first
  | exact wpAny_pure (wpAny_bind fin)
  | exact wpAny_bind (wpAny_pure (wpAny_bind fin))
  | exact wpAny_bind fin
theorem ymG {X:Cx}{pins:List (Addr×Obj)}{σ:St}{H:Hp}{s:Shared}{a:Addr}{y:V}{o:Option V}(I:Inv X pins σ H s) (g:DGet H a y o):s.TypeIs (.ref a) "dict":=by
 rcases g with ⟨kvs,k,e,_,_⟩|⟨kvs,k,b,e,_,_,_⟩
 .obtain ⟨_,_,vs,_,dd⟩:=yxI I.hok e
  exact dd.typeIs
 .obtain ⟨_,_,xs,_,dd⟩:=yxK I.hok e
  exact dd.typeIs
def yAS (td ty:TE):TE:=fun σ H Q=>td σ H fun x H1=>ty σ H1 fun y H2=>∃ a v,x=.ref a/\DGet H2 a y (some v)/\Q v H2
def yAT (td ty tv:TE):TS:=fun D σ H=>tv σ H fun v H1=>td σ H1 fun x H2=>ty σ H2 fun y H3=>∃ a H4,x=.ref a/\DPut H3 a y v H4/\D.nx σ H4
section
variable {X:Cx}{o i e value:Expr}{pos pos' tpos:Pos}{td ty tv:TE}
theorem yxM (hu:X.A.units+1<cLine) (ho:PE X o td) (hi:PE X i ty) (hs:yDZ i):PE X (.Subscript o i pos) (yAS td ty):=by
 intro pins s σ H Q I h
 refine yxL PySem.F.slot_dict_getitem.lookup hs (thn (ho pins s σ H _ I h) fun u s1 ⟨x,H1,I1,rx,q1⟩=>thn (hi pins s1 σ H1 _ I1 q1) fun iv s2 ⟨y,H2,I2,ry,a,v,ex,g,q2⟩=>?_)
 subst ex
 obtain rfl:u=Value.ref a:=rx
 exact ⟨ymG I2 g,yqM hu I2 g ry fun w' s3 I3 rw'=>⟨v,H2,I3,rw',q2⟩⟩
theorem yxN (hu:X.A.units+1<cLine) (ho:PE X o td) (hi:PE X i ty) (hv:PE X value tv) (hs:swapsWith value (some (.Subscript o i pos')) pos.line X.env=pure false) :
  PS X (.Assign [.Subscript o i pos'] value pos) (yAT td ty tv):=by
 intro pins s σ H D I h
 refine wpAny_Assign_Subscript (thn (hv pins s σ H _ I h) fun r s1 ⟨v,H1,I1,rv,q1⟩=>thn (ho pins s1 σ H1 _ I1 q1) fun u s2 ⟨x,H2,I2,rx,q2⟩=>thn (hi pins s2 σ H2 _ I2 q2) fun iv s3 ⟨y,H3,I3,ry,a,H4,ex,g,q3⟩=>?_) hs
 subst ex
 obtain rfl:u=Value.ref a:=rx
 exact yqN hu I3 g ry rv fun s4 I4=>⟨σ,H4,I4,q3⟩
end
theorem yuc {P:Program}{w:World}{H:Hp}(h:Heap) (hb:sysModules<h.objs.size):ObjOk P w H (h.push { cls:=.type "dict",data:=.dict #[] }) h.objs.size (.dK []) :=
 ⟨zero_le _,beq_eq_false_iff_ne.mpr (Ne.symm (ne_of_lt hb)),[],.nil,Heap.DictOf.new h⟩
def yvV:TE:=fun _ H Q=>∀ p,H p=none->Q (.ref p) (upd H p (.dK []))
section
variable {X:Cx}{pos:Pos}
theorem yud:PE X (.Dict [] [] pos) yvV:=fun pins s σ H Q I h =>
 wpAny_Dict_empty ⟨.ref s.heap.objs.size,_,I.laid (a:=s.heap.objs.size) (o:=.dK []) (t':=s.toks) (fun _ _ q=>Heap.get?_push_of_some _ q) (Nat.le_refl _) (yuc s.heap I.big),rfl,h _ (I.hok.fresh (Nat.le_refl _))⟩
end
def yqO (kvs more:List (Key×V)):List (Key×V):=more.foldl (fun acc kv=>putK acc kv.1 kv.2) kvs
theorem KV.merge:∀ {more:List (Key×V)}{rs:List (Key×Value)}{kvs:List (Key×V)}{vs:List (Key×Value)},KV more rs->KV kvs vs->KV (yqO kvs more) (merged vs rs):=by
 intro more rs kvs vs r
 unfold KV at r
 induction r generalizing kvs vs with
 | nil=>intro q;exact q
 | @cons p q ps qs h t ih =>
  intro r0
  have e:KV (putK kvs p.1 p.2) (stored vs q.1 q.2):=by
   have:=r0.put p.1 h.2
   rw [<- h.1];exact this
  exact ih e
theorem yfC:∀ (more kvs:List (Key×V)),(yqO kvs more).length<=kvs.length+more.length
 | [],kvs=>by show kvs.length<=kvs.length+0;omega
 | p::r,kvs=>by
  have h1:=yfC r (putK kvs p.1 p.2)
  have h2:=yfl kvs p.1 p.2
  show (yqO (putK kvs p.1 p.2) r).length<=_
  rw [length_cons];omega
structure M2 (X:Cx) (o:Expr) (m:Str) (apos:Pos) (e f:Expr) (cpos:Pos):Prop where
 base:attributeBase o m X.env (eval o X.env)=eval o X.env
 few:((backTo cpos (starEach [e,f] X.env)).all (fun x=>!x.1) && (backToKw cpos (keywordEach [] X.env)).all (fun x=>x.1.isSome)
  && decide (([e,f]:List Expr).length+([]:List Keyword).length+(if ([]:List Keyword).isEmpty then 0 else 1)<30))=true
 line:(apos.endLine == cpos.line)=true
 trees:backTo cpos (starEach [e,f] X.env)=[(false,eval e X.env),(false,eval f X.env)]
section
variable {X:Cx}{pins:List (Addr×Obj)}{σ:St}{H:Hp}{s:Shared}{a:Addr}{y d:V}{u r:Value}{o:Option V}{A:Around}{E:Value->Shared->Prop}
end
section
variable {X:Cx}{o e f:Expr}{apos cpos:Pos}{td ty tx:TE}
end
section
variable {X:Cx}{pins:List (Addr×Obj)}{σ:St}{H:Hp}{s:Shared}{a:Addr}{kvs:List (Key×V)}{A:Around}{E:Value->Shared->Prop}
end
section
variable {X:Cx}{pins:List (Addr×Obj)}{σ:St}{H:Hp}{s:Shared}{a:Addr}{y:V}{u:Value}{A:Around}{E:Value->Shared->Prop}
end
end L2
namespace Att
open PySem PySem.W PySem.Calls PyProof.Rows
section
variable {prog:Program}{w:World}{A:Around}{E:Value->Shared->Prop}{s:Shared}{K:Frag}
end
end Att
namespace L2
open PySem PySem.Spec PyProof.Rows
end L2
namespace L2
open PySem PySem.Spec PyProof.Rows
end L2
namespace L2
open PySem PySem.Spec PyProof.Rows
section
variable {P:Program}{w:World}{K:PySem.W.Frag}{mg:Str->Option Value}{base:Heap}
end
section
variable {X:Cx}
end
section
variable {κ:Type} [DecidableEq κ]
end
end L2
namespace PX
open PySem L2
variable {K:Ck}
theorem yjb {α:Type}{l:List α}(h:l.Nodup) {i j:Nat}(hi:i<l.length) (hj:j<l.length) (e:l[i]=l[j]):i=j:=by
 have p:=List.pairwise_iff_getElem.mp h
 rcases Nat.lt_trichotomy i j with z|z|z
 .exact absurd e (p i j hi hj z)
 .exact z
 .exact absurd e.symm (p j i hj hi z)
def yjP (W:Wd) (n:Nat) (a:Addr) (o:HO) (d:Nd):Wd:=⟨W.F,upd W.H a o,W.m,W.h.set n d⟩
theorem yet {W:Wd}(w:WOk K W) {n:Nat}{d d':Nd}{a:Addr}{o:HO}(e:W.h[n]?=some d) (hm:W.m[n]?=some a) (hF:W.F a=none) (at':NdAt K W.F (upd W.H a o) W.m d' a) (nf:∀ ks xs,d≠.fz ks xs:=by intro _ _ z;cases z):Le K W (yjP W n a o d'):=by
 have hn:n<W.h.length:=(List.getElem?_eq_some_iff.mp e).1
 have ham:a∈W.m:=mem_of_getElem? hm
 refine ⟨⟨fun b u q=>?_,by show W.m.length=(W.h.set n d').length;rw [length_set];exact w.len,w.nd,fun j dj b e1 e2=>?_⟩,Same.refl _,prefix_refl _,fun b u q hb=>?_,fun b u _ _ f=>f,fun b z z'=>absurd z z',fun j ks xs e1=>?_⟩
 .have:b≠a:=yZ q hF
  exact (yw this).trans (w.le _ _ q)
 .have e1:(W.h.set n d')[j]?=some dj:=e1
  by_cases hj:n=j
  .subst hj
   rw [getElem?_set_self hn] at e1
   cases e1
   have e2:W.m[n]?=some b:=e2
   rw [hm] at e2
   cases e2
   exact at'
  .rw [getElem?_set_ne hj] at e1
   have e2:W.m[j]?=some b:=e2
   have hb:b≠a:=fun z=>by
    subst z
    have h1:=(List.getElem?_eq_some_iff.mp hm)
    have h2:=(List.getElem?_eq_some_iff.mp e2)
    obtain ⟨l1,q1⟩:=h1
    obtain ⟨l2,q2⟩:=h2
    exact hj (yjb w.nd l1 l2 (q1.trans q2.symm))
   exact (w.at_ j dj b e1 e2).mono (Same.refl _) (prefix_refl _) (fun u q=>(yw hb).trans q) id
 .have:b≠a:=fun z=>hb (z ▸ ham)
  exact (yw this).trans q
 .have hj:n≠j:=fun z=>by
   subst z
   rw [e] at e1
   cases e1
   exact nf _ _ rfl
  refine ⟨(getElem?_set_ne hj).trans e1,fun b e2=>yw fun z=>?_⟩
  subst z
  obtain ⟨l1,q1⟩:=List.getElem?_eq_some_iff.mp hm
  obtain ⟨l2,q2⟩:=List.getElem?_eq_some_iff.mp e2
  exact hj (yjb w.nd l1 l2 (q1.trans q2.symm))
def ygi:PV->AH->Bool:=fun x h=>match ybw x h with|some _=>true|none=>false
theorem ynL {W:Wd}{x:PV}{v:V}(w:WOk K W) (r:yco K W x v) (c:ygi x W.h=true):tyV K.K "list" v W.H:=by
 unfold ygi at c
 split at c
 .rename_i xs hx
  obtain ⟨a,vs,rfl,hs,_⟩:=yK w hx r
  exact .inl ⟨rfl,vs,SqL.of hs⟩
 .cases c
noncomputable def yiG:PM:=fun x ys h=>match x,ys with|.loc n,[y]=>(match h[n]? with|some (.lst xs)=>if xs.length<100000 then some (.non,h.set n (.lst (xs++[y]))) else none|_=>none)|_,_=>none
theorem yqP:yiD K "list" ygi ymf yiG:=by
 refine ⟨fun W x v w r c=>ynL w r c,fun W x v xs vs Q z h' w rx r e q=>?_⟩
 unfold yiG at e
 split at e
 .rename_i n y
  split at e
  .rename_i ys hn
   split at e
   .rename_i hl
    cases e
    obtain ⟨u,rfl,ru⟩:=ymC r
    obtain ⟨a,ev,hm,hf,us,hp,rs⟩:=w.loc hn rx
    refine ⟨a,us,u,ev,rfl,hp,by rw [rs.len];exact big hl,?_⟩
    exact q .non (yjP W n a (.lst (us++[u])) (.lst (ys++[y]))) rfl (yet w hn hm hf ⟨hf,_,yn,rs.snoc ru⟩) rfl
   .cases e
  .cases e
 .cases e
noncomputable def ygW:PM:=fun x ys h=>match x,ys with|.loc n,[]=>(match h[n]? with|some (.lst xs)=>(match xs[xs.length-1]? with|some y=>some (y,h.set n (.lst xs.dropLast))|none=>none)|_=>none)|_,_=>none
theorem RepL.dropLast {F:Hp}{m:List Addr}{xs:List PV}{vs:List V}(r:RepL K F m xs vs):RepL K F m xs.dropLast vs.dropLast:=by
 rw [List.dropLast_eq_take,List.dropLast_eq_take,r.len]
 exact r.take _
theorem ynM:yiD K "list" ygi yFy ygW:=by
 refine ⟨fun W x v w r c=>ynL w r c,fun W x v xs vs Q z h' w rx r e q=>?_⟩
 unfold ygW at e
 split at e
 .rename_i n
  split at e
  .rename_i ys hn
   split at e
   .rename_i y hy
    cases e
    obtain rfl:vs=[]:=r
    obtain ⟨a,ev,hm,hf,us,hp,rs⟩:=w.loc hn rx
    obtain ⟨u,hu,ru⟩:=rs.get hy
    refine ⟨a,us,u,ev,rfl,hp,by rw [rs.len];exact hu,?_⟩
    exact q u (yjP W n a (.lst us.dropLast) (.lst ys.dropLast)) rfl (yet w hn hm hf ⟨hf,_,yn,rs.dropLast⟩) ru
   .cases e
  .cases e
 .cases e
def ygj (eo ei ev:XE):XS:=fun ρ h=>ob (ev ρ h) fun v h1=>ob (eo ρ h1) fun o h2=>ob (ei ρ h2) fun i h3=>match o,i with
 | .loc n,.int k=>(match h3[n]? with|some (.lst xs)=>(match ixN xs.length k with|some j=>some (.nx ρ,h3.set n (.lst (xs.set j v)))|none=>none)|_=>none)
 | _,_=>none
theorem yue {to ti tv:TE}{eo ei ev:XE}(a:ybE K to eo) (b:ybE K ti ei) (c:ybE K tv ev):yeX K (yvz tv (yFn to ti yzX)) (ygj eo ei ev):=by
 intro W0 W ρ σ D o h' g e q
 obtain ⟨v,h1,e1,f1⟩:=yg e
 obtain ⟨x,h2,e2,f2⟩:=yg f1
 obtain ⟨i,h3,e3,f3⟩:=yg f2
 refine c W0 W ρ σ _ v h1 g e1 fun vv W1 w1 l1 r1=>?_
 subst w1
 refine a W0 W1 ρ σ _ x h2 (g.step l1) e2 fun vx W2 w2 l2 r2=>?_
 subst w2
 refine b W0 W2 ρ σ _ i h3 (g.step (l1.trans l2)) e3 fun vi W3 w3 l3 r3=>?_
 subst w3
 have w:=l3.ok
 split at f3
 .rename_i n k
  split at f3
  .rename_i xs hn
   split at f3
   .rename_i j hj
    cases f3
    obtain ⟨p,ep,hm,hf,us,hp,rs⟩:=w.loc hn (l3.rep r2)
    refine ⟨p,us,k,j,ep,r3,hp,by rw [rs.len];exact hj,?_⟩
    have l4:Le K W3 (yjP W3 n p (.lst (us.set j vv)) (.lst (xs.set j v))):=yet w hn hm hf ⟨hf,_,yn,rs.set j ((l2.trans l3).rep r1)⟩
    have l:=l1.trans (l2.trans (l3.trans l4))
    exact q _ σ rfl l.lf (g.step l)
   .cases f3
  .cases f3
 .cases f3
def keyOf:PV->Option Key
 | .int i=>some (.inl i)
 | .str s=>some (.inr s)
 | _=>none
theorem yli {W:Wd}{x:PV}{v:V}{k:Key}(e:keyOf x=some k) (r:yco K W x v):v=kV k:=by
 cases x<;>cases e<;>exact r
noncomputable def yjQ (x:PV) (h:AH):Option (List Key×List PV):=match x with|.loc n=>(match h[n]? with|some (.dct ks xs)=>some (ks,xs)|_=>none)|_=>none
def yvW:List Key->List PV->Key->Option PV
 | k::ks,x::xs,j=>if k=j then some x else yvW ks xs j
 | _,_,_=>none
def yqQ:List Key->Key->Bool
 | [],_=>false
 | k::ks,j=>if k=j then true else yqQ ks j
noncomputable def setK {α:Type}:List Key->List α->Key->α->List α
 | k::ks,x::xs,j,y=>if k=j then y::setK ks xs j y else x::setK ks xs j y
 | _,xs,_,_=>xs
def ych (ks:List Key) (xs:List PV) (k:Key) (x:PV):List Key×List PV:=if yqQ ks k=true then (ks,setK ks xs k x) else (ks++[k],xs++[x])
theorem yjR {α:Type}:∀ (ks:List Key) (xs:List α) (j:Key) (y:α),(setK ks xs j y).length=xs.length
 | [],_,_,_=>by simp [setK]
 | _::_,[],_,_=>by simp [setK]
 | k::ks,x::xs,j,y=>by
  show (if k=j then y::setK ks xs j y else x::setK ks xs j y).length=_
  split<;>simp [yjR ks xs j y]
theorem RepL.setK {F:Hp}{m:List Addr}:∀ {xs:List PV}{vs:List V}(ks:List Key) (j:Key) {y:PV}{u:V},RepL K F m xs vs->Rep K F m y u->RepL K F m (PX.setK ks xs j y) (PX.setK ks vs j u)
 | [],_,ks,j,y,u,h,_=>by rw [show _=[] from h];cases ks<;>exact rfl
 | x::xs,_,[],j,y,u,h,_=>by
  obtain ⟨v,r,e,h1,l⟩:=h
  subst e
  exact ⟨v,r,rfl,h1,l⟩
 | x::xs,_,k::ks,j,y,u,⟨v,r,e,h1,l⟩,ru=>by
  subst e
  show RepL K F m (if k=j then y::PX.setK ks xs j y else x::PX.setK ks xs j y) (if k=j then u::PX.setK ks r j u else v::PX.setK ks r j u)
  have ih:=RepL.setK ks j l ru
  split
  .exact ⟨u,_,rfl,ru,ih⟩
  .exact ⟨v,_,rfl,h1,ih⟩
theorem ynN {F:Hp}{m:List Addr}:∀ {ks:List Key}{xs:List PV}{vs:List V}(j:Key),RepL K F m xs vs->vs.length=ks.length->(∀ x,yvW ks xs j=some x->∃ v,ylR (ks.zip vs) j=some v/\Rep K F m x v)/\(yvW ks xs j=none->ylR (ks.zip vs) j=none)
 | [],xs,vs,j,r,hl=>by
  refine ⟨fun x e=>?_,fun _=>rfl⟩
  cases xs<;>cases e
 | k::ks,[],vs,j,r,hl=>by rw [show vs=[] from r] at hl;cases hl
 | k::ks,x::xs,_,j,⟨v,r',e,h,l⟩,hl=>by
  subst e
  have ih:=ynN j l (by simpa using hl)
  have hz:ylR ((k::ks).zip (v::r')) j=if k=j then some v else ylR (ks.zip r') j:=by
   unfold ylR
   rw [zip_cons_cons,find?_cons]
   by_cases hk:k=j
   .simp [hk]
   .simp [hk]
  rw [hz]
  show (∀ y,(if k=j then some x else yvW ks xs j)=some y->_)/\((if k=j then some x else yvW ks xs j)=none->_)
  by_cases hk:k=j
  .rw [if_pos hk,if_pos hk]
   exact ⟨fun y e=>by cases e;exact ⟨v,rfl,h⟩,fun e=>by cases e⟩
  .rw [if_neg hk,if_neg hk]
   exact ih
theorem yqR (j:Key):∀ (ks:List Key) (vs:List V),vs.length=ks.length->((ks.zip vs).any fun kv=>decide (kv.1=j))=yqQ ks j
 | [],_,_=>by simp [yqQ]
 | k::ks,[],h=>by cases h
 | k::ks,v::vs,h=>by
  rw [zip_cons_cons,any_cons,yqR j ks vs (by simpa using h)]
  show (decide (k=j) || yqQ ks j)=if k=j then true else yqQ ks j
  by_cases hk:k=j<;>simp [hk]
theorem yqS (j:Key) (y:V):∀ (ks:List Key) (vs:List V),vs.length=ks.length->(ks.zip vs).map (fun kv=>if kv.1=j then (kv.1,y) else kv)=ks.zip (setK ks vs j y)
 | [],_,_=>by simp
 | k::ks,[],h=>by cases h
 | k::ks,v::vs,h=>by
  rw [zip_cons_cons,map_cons,yqS j y ks vs (by simpa using h)]
  show (if k=j then (k,y) else (k,v))::_=(k::ks).zip (if k=j then y::setK ks vs j y else v::setK ks vs j y)
  by_cases hk:k=j
  .rw [if_pos hk,if_pos hk];rfl
  .rw [if_neg hk,if_neg hk];rfl
theorem ynO (j:Key) (y:V) (ks:List Key) (vs:List V) (hl:vs.length=ks.length):putK (ks.zip vs) j y=if yqQ ks j=true then ks.zip (setK ks vs j y) else (ks++[j]).zip (vs++[y]):=by
 unfold putK
 rw [yqR j ks vs hl,yqS j y ks vs hl,List.zip_append hl.symm]
 rfl
theorem ylj {W:Wd}(w:WOk K W) {x:PV}{v:V}{ks:List Key}{xs:List PV}(e:yjQ x W.h=some (ks,xs)) (r:yco K W x v):∃ a vs,v=.ref a/\W.H a=some (.dK (ks.zip vs))/\vs.length=ks.length/\ycq K W xs vs:=by
 unfold yjQ at e
 split at e
 .split at e
  .rename_i hn
   cases e
   obtain ⟨a,ev,hm,hf,vs,hp,hl,rs⟩:=w.loc hn r
   exact ⟨a,vs,ev,hp,hl,rs⟩
  .cases e
 .cases e
noncomputable def yCx (x:PV) (h:AH):Option (List Key×List PV):=match x with|.loc n=>(match h[n]? with|some (.dct ks xs)=>some (ks,xs)|some (.fz ks xs)=>some (ks,xs)|_=>none)|_=>none
theorem yuf {W:Wd}(w:WOk K W) {x:PV}{v:V}{ks:List Key}{xs:List PV}(e:yCx x W.h=some (ks,xs)) (r:yco K W x v):∃ a vs,v=.ref a/\Rd W.H a (.dK (ks.zip vs))/\vs.length=ks.length/\ycq K W xs vs:=by
 unfold yCx at e
 split at e
 .split at e
  .rename_i hn
   cases e
   obtain ⟨a,ev,hm,hf,vs,hp,hl,rs⟩:=w.loc hn r
   exact ⟨a,vs,ev,.inl hp,hl,rs⟩
  .rename_i hn
   cases e
   obtain ⟨a,ev,hm,hf,o,vs,hp,hl,rs⟩:=w.loc hn r
   exact ⟨a,vs,ev,.inr ⟨o,hp⟩,hl,rs⟩
  .cases e
 .cases e
theorem DGet.r {H:Hp}{a:Addr}{kvs:List (Key×V)}{k:Key}(e:Rd H a (.dK kvs)):DGet H a (kV k) (ylR kvs k):=.inl ⟨kvs,k,e,rfl,rfl⟩
def ymH (ed ek:XE):XE:=fun ρ h=>ob (ed ρ h) fun d h1=>ob (ek ρ h1) fun k h2=>match yCx d h2,keyOf k with|some (ks,xs),some j=>(match yvW ks xs j with|some x=>some (x,h2)|none=>none)|_,_=>none
theorem yug {td ty:TE}{ed ek:XE}(a:ybE K td ed) (b:ybE K ty ek):ybE K (yAS td ty) (ymH ed ek):=by
 intro W0 W ρ σ Q z h' g e q
 obtain ⟨d,h1,e1,f1⟩:=yg e
 obtain ⟨k,h2,e2,f2⟩:=yg f1
 refine a W0 W ρ σ _ d h1 g e1 fun vd W1 w1 l1 r1=>?_
 subst w1
 refine b W0 W1 ρ σ _ k h2 (g.step l1) e2 fun vk W2 w2 l2 r2=>?_
 subst w2
 split at f2
 .rename_i ks xs j hd hk
  split at f2
  .rename_i x hx
   cases f2
   obtain ⟨p,vs,ev,hp,hl,rs⟩:=yuf l2.ok hd (l2.rep r1)
   obtain ⟨v,h3,h4⟩:=(ynN j rs hl).1 _ hx
   have:=yli hk r2
   subst this
   exact ⟨p,v,ev,by rw [<- h3];exact DGet.r hp,q _ W2 rfl (l1.trans l2) h4⟩
  .cases f2
 .cases f2
def ymI (ed ek ev:XE):XS:=fun ρ h=>ob (ev ρ h) fun v h1=>ob (ed ρ h1) fun d h2=>ob (ek ρ h2) fun k h3=>match d,keyOf k with
 | .loc n,some j=>(match h3[n]? with|some (.dct ks xs)=>if ks.length<1000 then some (.nx ρ,h3.set n (.dct (ych ks xs j v).1 (ych ks xs j v).2)) else none|_=>none)
 | _,_=>none
theorem yuh {td ty tv:TE}{ed ek ev:XE}(a:ybE K td ed) (b:ybE K ty ek) (c:ybE K tv ev):yeX K (yAT td ty tv) (ymI ed ek ev):=by
 intro W0 W ρ σ D o h' g e q
 obtain ⟨v,h1,e1,f1⟩:=yg e
 obtain ⟨x,h2,e2,f2⟩:=yg f1
 obtain ⟨i,h3,e3,f3⟩:=yg f2
 refine c W0 W ρ σ _ v h1 g e1 fun vv W1 w1 l1 r1=>?_
 subst w1
 refine a W0 W1 ρ σ _ x h2 (g.step l1) e2 fun vx W2 w2 l2 r2=>?_
 subst w2
 refine b W0 W2 ρ σ _ i h3 (g.step (l1.trans l2)) e3 fun vi W3 w3 l3 r3=>?_
 subst w3
 have w:=l3.ok
 split at f3
 .rename_i n j hk
  split at f3
  .rename_i ks xs hn
   split at f3
   .rename_i hc
    cases f3
    obtain ⟨p,ep,hm,hf,us,hp,hl,rs⟩:=w.loc hn (l3.rep r2)
    have:=yli hk r3
    subst this
    have hput:=ynO j vv ks us hl
    have rv:=(l2.trans l3).rep r1
    have key:∃ us',putK (ks.zip us) j vv=(ych ks xs j v).1.zip us'/\us'.length=(ych ks xs j v).1.length/\ycq K W3 (ych ks xs j v).2 us':=by
     unfold ych
     by_cases hj:yqQ ks j=true
     .rw [if_pos hj] at hput ⊢
      exact ⟨_,hput,by rw [yjR];exact hl,rs.setK ks j rv⟩
     .rw [if_neg hj] at hput ⊢
      exact ⟨_,hput,by rw [length_append,length_append,hl];rfl,rs.snoc rv⟩
    obtain ⟨us',p1,p2,p3⟩:=key
    refine ⟨p,_,ep,DPut.k hp (by rw [length_zip,hl];exact yhx (by omega)),?_⟩
    rw [p1]
    have l4:Le K W3 (yjP W3 n p (.dK ((ych ks xs j v).1.zip us')) (.dct (ych ks xs j v).1 (ych ks xs j v).2)):=yet w hn hm hf ⟨hf,us',yn,p2,p3⟩
    have l:=l1.trans (l2.trans (l3.trans l4))
    exact q _ σ rfl l.lf (g.step l)
   .cases f3
  .cases f3
 .cases f3
def ylk:XO:=fun _ h=>some (.dct [] [],h)
theorem yui:ylQ K yvV ylk:=by
 intro W0 W ρ σ Q d h' g e q
 cases e
 intro p hp
 exact q p (yeQ W p (.dK [])) rfl (ycr g.ok hp) (g.ok.out hp) hp (fun z=>by cases z) ⟨g.ok.ff hp,[],yn,rfl,rfl⟩
end PX
namespace PX
open PySem L2
variable {K:Ck}
def itemsOf (x:PV) (h:AH):Option (List PV):=match x with|.tup xs=>some xs|_=>listOf x h
theorem ymJ {W:Wd}(w:WOk K W) {x:PV}{v:V}{xs:List PV}(e:itemsOf x W.h=some xs) (r:yco K W x v):∃ a vs,v=.ref a/\(SqL K.K W.H a vs\/SqT K.K W.H a vs)/\ycq K W xs vs:=by
 unfold itemsOf at e
 split at e
 .cases e
  obtain ⟨a,vs,ev,hs,rs⟩:=r
  exact ⟨a,vs,ev,.inr (ycx w hs),rs⟩
 .obtain ⟨a,vs,ev,hs,rs⟩:=ygg w e r
  exact ⟨a,vs,ev,.inl hs,rs⟩
def svs:List PV->Option (List V)
 | []=>some []
 | x::xs=>match sv x,svs xs with|some v,some vs=>some (v::vs)|_,_=>none
theorem yqT {F:Hp}{m:List Addr}:∀ {xs:List PV}{us vs:List V},svs xs=some us->RepL K F m xs vs->vs=us/\us.all yfz=true
 | [],_,_,e,r=>by cases e;exact ⟨r,rfl⟩
 | x::xs,us,_,e,⟨v,r,ev,h,l⟩=>by
  unfold svs at e
  split at e
  .rename_i u us' e1 e2
   cases e
   obtain ⟨h1,h2⟩:=yqT e2 l
   have hv:v=u:=by cases x<;>cases e1<;>exact h
   have hf:yfz u=true:=by cases x<;>cases e1<;>rfl
   exact ⟨by rw [ev,hv,h1],by rw [List.all_cons,hf,h2];rfl⟩
  .cases e
theorem yjS {x:PV}{u:V}(e:sv x=some u):yfz u=true:=by cases x<;>cases e<;>rfl
def yCy (neg:Bool):P2:=fun x y h=>match sv x,itemsOf y h with|some v,some ys=>(match svs ys with|some us=>some (.bl (if neg then !inV v us else inV v us),h)|none=>none)|_,_=>none
theorem yEa {neg:Bool}:ycf K (rIn K.K neg) (yCy neg):=by
 intro W x y v u Q z h' w rx ry e q
 unfold yCy at e
 split at e
 .rename_i v' ys ev ey
  split at e
  .rename_i us hu
   cases e
   obtain rfl:=yfc ev rx
   obtain ⟨a,vs,rfl,hs,rs⟩:=ymJ w ey ry
   obtain ⟨rfl,hf⟩:=yqT hu rs
   exact ⟨a,vs,rfl,hs,yjS ev,hf,q _ W rfl (.refl w) rfl⟩
  .cases e
 .cases e
end PX
namespace PX
open PySem L2
theorem yEb [i:Decidable True]:decide True=true:=by simp
theorem yEc [i:Decidable False]:decide False=false:=by simp
theorem yEd:(false=true)=False:=by simp
theorem yEe:(true=false)=False:=by simp
theorem yuj {g:XG}{s:XS}{xs:List PV}(I:Nat->PSt->AH->Prop) (R:PV->AH->Prop) {ρ:PSt}{h:AH}(h0:I 0 ρ h)
  (step:∀ (i:Nat) (x:PV) (ρ:PSt) (h:AH),xs[i]?=some x->I i ρ h->∃ ρ1 o h',g x ρ=some ρ1/\s ρ1 h=some (o,h')/\(match o with|.nx ρ'=>I (i+1) ρ' h'|.ct ρ'=>I (i+1) ρ' h'|.bk _=>False|.rt y=>R y h')) :
  (∃ ρ' h',ygb g s xs ρ h=some (.nx ρ',h')/\I xs.length ρ' h')\/∃ y h',ygb g s xs ρ h=some (.rt y,h')/\R y h':=by
 have key:∀ (n i:Nat) (ρ:PSt) (h:AH),i+n=xs.length->I i ρ h->(∃ ρ' h',ygb g s (xs.drop i) ρ h=some (.nx ρ',h')/\I xs.length ρ' h')\/∃ y h',ygb g s (xs.drop i) ρ h=some (.rt y,h')/\R y h':=by
  intro n
  induction n with
  | zero =>
   intro i ρ h hi hI
   have:i=xs.length:=by omega
   subst this
   rw [List.drop_length]
   exact .inl ⟨ρ,h,rfl,hI⟩
  | succ n ih =>
   intro i ρ h hi hI
   have hlt:i<xs.length:=by omega
   obtain ⟨ρ1,o,h',e1,e2,e3⟩:=step i xs[i] ρ h (List.getElem?_eq_getElem hlt) hI
   rw [List.drop_eq_getElem_cons hlt,yAJ,e1,bind_some,e2,ybK]
   cases o with
   | nx ρ'=>exact ih (i+1) ρ' h' (by omega) e3
   | ct ρ'=>exact ih (i+1) ρ' h' (by omega) e3
   | bk ρ'=>exact e3.elim
   | rt y=>exact .inr ⟨y,h',rfl,e3⟩
 simpa using key xs.length 0 ρ h (by omega) h0
theorem yhF {g:XG}{s:XS}{xs:List PV}(I:Nat->PSt->AH->Prop) {ρ:PSt}{h:AH}(h0:I 0 ρ h)
  (step:∀ (i:Nat) (x:PV) (ρ:PSt) (h:AH),xs[i]?=some x->I i ρ h->∃ ρ1 ρ' h',g x ρ=some ρ1/\(s ρ1 h=some (.nx ρ',h')\/s ρ1 h=some (.ct ρ',h'))/\I (i+1) ρ' h') :
  ∃ ρ' h',ygb g s xs ρ h=some (.nx ρ',h')/\I xs.length ρ' h':=by
 rcases yuj I (fun _ _=>False) h0 (fun i x ρ h hx hI=>by
  obtain ⟨ρ1,ρ',h',e1,e2,e3⟩:=step i x ρ h hx hI
  rcases e2 with e2|e2
  .exact ⟨ρ1,.nx ρ',h',e1,e2,e3⟩
  .exact ⟨ρ1,.ct ρ',h',e1,e2,e3⟩) with q|⟨_,_,_,q⟩
 .exact q
 .exact q.elim
theorem yqU {β:Type}{g:XG}{s:XS}{xs:List PV}(I:Nat->PSt->AH->Prop) {ρ:PSt}{h:AH}{f:Out->AH->Option β}{r:Option β}(h0:I 0 ρ h)
  (step:∀ (i:Nat) (x:PV) (ρ:PSt) (h:AH),xs[i]?=some x->I i ρ h->∃ ρ1 ρ' h',g x ρ=some ρ1/\(s ρ1 h=some (.nx ρ',h')\/s ρ1 h=some (.ct ρ',h'))/\I (i+1) ρ' h')
  (fin:∀ ρ' h',I xs.length ρ' h'->f (.nx ρ') h'=r):ob (ygb g s xs ρ h) f=r:=by
 obtain ⟨ρ',h',e,hI⟩:=yhF I h0 step
 rw [e]
 exact fin ρ' h' hI
theorem ynP {c:XT}{s:XS}{n:Nat}{ρ:PSt}{h:AH}:whl c s (n+1) ρ h=ob (c ρ h) fun k h1=>if k=true then ob (s ρ h1) fun o h2=>(match o with|.nx ρ'=>whl c s n ρ' h2|.ct ρ'=>whl c s n ρ' h2|.bk ρ'=>some (.nx ρ',h2)|.rt y=>some (.rt y,h2)) else some (.nx ρ,h1):=rfl
theorem ymK (lo:Int) (n:Nat):(yhC lo n).length=n:=by simp [yhC]
theorem yqV {lo:Int}{n i:Nat}{x:PV}(h:(yhC lo n)[i]?=some x):i<n/\x=.int (lo+i):=by
 have hl:=(List.getElem?_eq_some_iff.mp h).1
 rw [ymK] at hl
 refine ⟨hl,?_⟩
 simp [yhC,hl] at h
 exact h.symm
theorem ygk {α:Type}{e:XE}{inn:PV->PSt}(f g:α->PV):∀ {ts:List α}{h:AH},(∀ t∈ts,e (inn (f t)) h=some (g t,h))->yhA e inn (ts.map f) h=some (ts.map g,h)
 | [],_,_=>rfl
 | t::ts,h,k=>by
  show ob (e (inn (f t)) h) (fun y h1=>ob (yhA e inn (ts.map f) h1) fun ys h2=>some (y::ys,h2))=_
  rw [k t mem_cons_self,ybK,ygk f g fun y hy=>k y (mem_cons_of_mem _ hy),ybK]
  rfl
theorem ynQ {i:Nat}{e:XE}{ρ:PSt}{h:AH}{xs:List PV}(hx:ρ[i]?=some (.own (.lst xs))):yfA i e ρ h=ob (e ρ h) fun x h1=>if xs.length<100000 then some (.nx (ρ.set i (.own (.lst (xs++[x])))),h1) else none:=by
 unfold yfA
 rw [hx]
theorem yEf {α:Type}{a0:α}{xs:List α}:atI (a0::xs) 0=some a0:=ycw (j:=0) rfl
theorem yFG {α:Type}{a0 a1:α}{xs:List α}:atI (a0::a1::xs) 1=some a1:=ycw (j:=1) rfl
theorem yFH {α:Type}{a0 a1 a2 a3 a4:α}{xs:List α}:atI (a0::a1::a2::a3::a4::xs) 4=some a4:=ycw (j:=4) rfl
theorem yfD {h:AH}{n:Nat}{xs:List PV}(e:h[n]?=some (.lst xs)):yR [.loc n] h=some (.lst xs,h):=by
 unfold yR listOf
 simp only [e]
theorem ygl {h:AH}{n:Nat}{xs:List PV}(e:h[n]?=some (.lst xs)):ybP [.loc n] h=some (.int xs.length,h):=by
 unfold ybP yqI
 simp only [e]
theorem ymL {h:AH}{n:Nat}{xs:List PV}{y:PV}(e:h[n]?=some (.lst xs)) (hl:xs.length<100000):yiG (.loc n) [y] h=some (.non,h.set n (.lst (xs++[y]))):=by
 unfold yiG
 simp only [e]
 rw [if_pos hl]
theorem ydg {h:AH}{n:Nat}{xs:List PV}(e:h[n]?=some (.lst xs)):ygi (.loc n) h=true:=by
 unfold ygi ybw
 simp only [e]
end PX
namespace PX
open PySem L2
variable {K:Ck}
section
variable {ta:TE}{ea:XE}
def ype (i:Nat) (e:XE):XS:=fun ρ h=>match ρ[i]? with
 | some (.own (.lst xs))=>ob (e ρ h) fun x h1=>(match x with|.lst ys=>if xs.length+ys.length<=100000 then some (.nx (ρ.set i (.own (.lst (xs++ys)))),h1) else none|_=>none)
 | _=>none
theorem yuk (i:Nat) (a:ybE K ta ea):yeX K (ypJ (tBM K.K "list" yqh (ypA i) (ymc ta ytk))) (ype i ea):=by
 intro W0 W ρ σ D o h' g e q
 unfold ype at e
 split at e
 .rename_i xs0 hx
  obtain ⟨x,h1,e1,f1⟩:=yg e
  split at f1
  .rename_i ys
   split at f1
   .rename_i hlen
    cases f1
    obtain ⟨p,a1,a2,a3,a4,hf,vs,hp,r⟩:=g.own i _ hx
    refine ⟨.ref p,a1,.inl ⟨rfl,_,SqL.of hp⟩,?_⟩
    refine a W0 W ρ σ _ _ _ g e1 fun v W1 w1 l1 r1=>?_
    obtain ⟨b,us,rfl,hb,rb⟩:=r1
    refine ⟨p,b,vs,us,rfl,rfl,l1.keep _ _ hp a2,l1.ok.le _ _ hb,by rw [r.len,rb.len];exact yxp hlen,?_⟩
    have g1:=g.step l1
    obtain ⟨p',b1,b2,b3,b4,b5,vs',b6,b7⟩:=g1.own i _ hx
    rw [a1] at b1
    cases b1
    rw [l1.keep _ _ hp a2] at b6
    cases b6
    exact q (ysR W1 p (.lst (vs++us))) σ w1 (yqB l1 b2) (g1.mut hx a1 b2 b3 b5 (fun z=>by cases z) ⟨b5,_,yn,b7.app rb⟩)
   .cases f1
  .cases f1
 .cases e
def yhG (i:Nat):XE:=fun ρ h=>match ρ[i]? with|some (.own (.lst xs))=>some (.int xs.length,h)|_=>none
theorem yul (i:Nat):ybE K (tCB (yzZ K.K) (ymc (ypA i) ytk)) (yhG i):=by
 intro W0 W ρ σ Q x h' g e q
 unfold yhG at e
 split at e
 .rename_i xs hx
  cases e
  obtain ⟨p,a1,a2,a3,a4,hf,vs,hp,r⟩:=g.own i _ hx
  refine ⟨.ref p,a1,p,vs,rfl,.inl (SqL.of hp),?_⟩
  rw [r.len]
  exact q _ W rfl (.refl g.ok) rfl
 .cases e
end
end PX
namespace PX
open PySem L2
variable {K:Ck}
def yCz (lo st:Int) (n:Nat):It:=⟨fun i _=>i<n,fun i H x H'=>H'=H/\x=.int (lo+i*st),fun i _=>n<=i⟩
def szR (a b c:Int):Nat:=if a<b then ((b-a-1)/c+1).toNat else 0
noncomputable def yAU (ta:TA):TI:=fun σ H R=>ta σ H fun vs H1=>∃ i j c:Int,vs=[.int i,.int j,.int c]/\(0<=i/\i<1000000000/\0<=j/\j<1000000000/\0<c/\c<1000000)/\R (yCz i c (szR i j c)) H1
def yqW (lo st:Int) (n:Nat):List PV:=(List.range n).map fun (k:Nat)=>.int (lo+(k:Int)*st)
def yAV (a:XA):XA:=fun ρ h=>ob (a ρ h) fun xs h1=>match xs with|[.int i,.int j,.int c]=>if 0<=i/\i<1000000000/\0<=j/\j<1000000000/\0<c/\c<1000000 then some (yqW i c (szR i j c),h1) else none|_=>none
theorem yxO (W:Wd) (lo st:Int) (n:Nat):yCt K W (yCz lo st n) (yqW lo st n):=by
 refine ⟨fun i W' l w hi=>?_,fun i W' v' H2 l w hi hy=>?_,fun W' l w=>?_⟩
 .show i<n
  simpa [yqW] using hi
 .obtain ⟨h1,h2⟩:=hy
  have hi:i<n:=by simpa [yqW] using hi
  exact ⟨h1,.int (lo+(i:Int)*st),by simp [yqW,hi],h2⟩
 .show n<=_
  simp [yqW]
theorem yqX {t:TA}{e:XA}(a:ylc K t e):yvN K (yAU t) (yAV e):=by
 intro W0 W ρ σ R xs h' g e q
 obtain ⟨ys,h1,e1,f1⟩:=yg e
 split at f1
 .rename_i i j c
  split at f1
  .rename_i hj
   cases f1
   refine a W0 W ρ σ _ _ _ g e1 fun vs W1 w1 l1 r1=>?_
   obtain ⟨v,r,rfl,rv,v2,r2,rfl,rv2,v3,r3,rfl,rv3,rr⟩:=r1
   obtain rfl:r3=[]:=rr
   exact ⟨i,j,c,by rw [show v=.int i from rv,show v2=.int j from rv2,show v3=.int c from rv3],hj,q _ W1 w1 l1 (yxO W1 i c _)⟩
  .cases f1
 .cases f1
end PX
namespace PX
open PySem L2
variable {K:Ck}
def Odd (K:PySem.W.Frag) (H:Hp):Prop:=∃ a o ob,H a=some o/\K.lookup a=some ob
inductive EqR (K:PySem.W.Frag) (H:Hp):Nat->V->V->Bool->Prop where
 | flat {n:Nat}{x y:V}(fx:yfz x=true) (fy:yfz y=true):EqR K H n x y (eqV x y)
 | same {n:Nat}{a:Addr}:EqR K H n (.ref a) (.ref a) true
 | odd {n:Nat}{x y:V}{b:Bool}(h:Odd K H):EqR K H n x y b
 | nt {n:Nat}{b:Addr}{ys:List V}(hb:SqT K H b ys):EqR K H (n+1) .non (.ref b) false
 | tn {n:Nat}{b:Addr}{ys:List V}(hb:SqT K H b ys):EqR K H (n+1) (.ref b) .non false
 | lst {n:Nat}{a b:Addr}{xs ys:List V}{e:Nat->Bool}(ha:H a=some (.lst xs)) (hb:H b=some (.lst ys)) (hl:xs.length=ys.length) (hne:a≠b) (he:∀ j x y,xs[j]?=some x->ys[j]?=some y->EqR K H n x y (e j)):EqR K H (n+1) (.ref a) (.ref b) ((List.range xs.length).all e)
 | lstN {n:Nat}{a b:Addr}{xs ys:List V}(ha:H a=some (.lst xs)) (hb:H b=some (.lst ys)) (hl:xs.length≠ys.length):EqR K H (n+1) (.ref a) (.ref b) false
 | tup {n:Nat}{a b:Addr}{xs ys:List V}{e:Nat->Bool}(ha:SqT K H a xs) (hb:SqT K H b ys) (hne:a≠b) (he:∀ j x y,xs[j]?=some x->ys[j]?=some y->EqR K H n x y (e j)):EqR K H (n+1) (.ref a) (.ref b) ((List.range (min xs.length ys.length)).all e && xs.length == ys.length)
inductive RcR (K:PySem.W.Frag) (H:Hp):V->V->Bool->Prop where
 | nt {b:Addr}{ys:List V}(hb:SqT K H b ys):RcR K H .non (.ref b) false
 | tn {b:Addr}{ys:List V}(hb:SqT K H b ys):RcR K H (.ref b) .non false
 | lst {a b:Addr}{xs ys:List V}{e:Nat->Bool}(ha:H a=some (.lst xs)) (hb:H b=some (.lst ys)) (hl:xs.length=ys.length) (he:∀ j x y,xs[j]?=some x->ys[j]?=some y->EqR K H 40 x y (e j)):RcR K H (.ref a) (.ref b) ((List.range xs.length).all e)
 | lstN {a b:Addr}{xs ys:List V}(ha:H a=some (.lst xs)) (hb:H b=some (.lst ys)) (hl:xs.length≠ys.length):RcR K H (.ref a) (.ref b) false
 | tup {a b:Addr}{xs ys:List V}{e:Nat->Bool}(ha:SqT K H a xs) (hb:SqT K H b ys) (he:∀ j x y,xs[j]?=some x->ys[j]?=some y->EqR K H 40 x y (e j)):RcR K H (.ref a) (.ref b) ((List.range (min xs.length ys.length)).all e && xs.length == ys.length)
def yFI (K:PySem.W.Frag):R2:=fun x y H Q=>∃ b,RcR K H x y b/\Q (.bl (!b)) H
noncomputable def ygX (f:PV->PV->Option Bool):List PV->List PV->Option Bool
 | x::xs,y::ys=>(match f x y,ygX f xs ys with|some b,some c=>some (b && c)|_,_=>none)
 | _,_=>some true
def pairE (f:PV->PV->Option Bool) (h:AH) (x y:PV):Option Bool:=match x,y with
 | .tup xs,.tup ys=>(match ygX f xs ys with|some b=>some (b && xs.length == ys.length)|none=>none)
 | .non,.tup _=>some false
 | .tup _,.non=>some false
 | x,y=>(match ybw x h,ybw y h with|some xs,some ys=>if xs.length=ys.length then ygX f xs ys else some false|_,_=>none)
def eqP:Nat->AH->PV->PV->Option Bool
 | 0,_,_,_=>none
 | n+1,h,x,y=>match sv x,sv y with
  | some u,some v=>some (eqV u v)
  | _,_=>pairE (eqP n h) h x y
theorem yjT:∀ {v:V},yfz v=true->eqV v v=true
 | .non,_=>rfl
 | .bl b,_=>by cases b<;>rfl
 | .int i,_=>by simp [eqV]
 | .str s,_=>by simp [eqV]
noncomputable def unV:Value->Option V
 | .none=>some .non
 | .bool b=>some (.bl b)
 | .int i _=>some (.int i)
 | .str x _=>some (.str x)
 | .bytes b _=>some (.byt b)
 | .float b _=>some (.flt b)
 | .ref a=>some (.ref a)
 | .type n=>some (.ty n)
 | _=>none
theorem yvX:∀ {v:V}{u:Value},RelV v u->unV u=some v
 | .non,_,h=>by rw [show _=Value.none from h];rfl
 | .bl _,_,h=>by rw [show _=Value.bool _ from h];rfl
 | .int _,_,⟨_,h⟩=>by rw [h];rfl
 | .str _,_,⟨_,h⟩=>by rw [h];rfl
 | .byt _,_,⟨_,h⟩=>by rw [h];rfl
 | .flt _,_,⟨_,h⟩=>by rw [h];rfl
 | .ref _,_,h=>by rw [show _=Value.ref _ from h];rfl
 | .ty _,_,h=>by rw [show _=Value.type _ from h];rfl
theorem yxP {v w:V}{u:Value}(h1:RelV v u) (h2:RelV w u):v=w:=Option.some.inj ((yvX h1).symm.trans (yvX h2))
theorem yum {vs ws:List V}{us:List Value}(h1:Vals vs us):Vals ws us->vs=ws:=by
 induction h1 generalizing ws with
 | nil=>intro h2;cases h2;rfl
 | cons r _ ih=>intro h2;cases h2 with|cons r2 t2=>rw [yxP r r2,ih t2]
theorem yAW {F H:Hp}{a:Addr}{vs ws:List V}(s:Same F H) (h1:TpAt K.K F a vs) (h2:TpAt K.K F a ws):vs=ws\/Odd K.K H:=by
 rcases h1 with h1|⟨o,its,n,e1,e2,e3,e4,e5⟩
 .rcases h2 with h2|⟨o,its,n,e1,e2,e3,e4,e5⟩
  .rw [h1] at h2;cases h2;exact .inl rfl
  .exact .inr ⟨a,_,o,s _ _ h1,e1⟩
 .rcases h2 with h2|⟨o',its',n',e1',e2',e3',e4',e5'⟩
  .exact .inr ⟨a,_,o,s _ _ h2,e1⟩
  .rw [e1] at e1';cases e1'
   rw [e3] at e3';cases e3'
   exact .inl (yum e5 e5')
theorem yhH {f:PV->PV->Option Bool}{W:Wd}(hf:∀ x y v b,f x y=some b->yco K W x v->yco K W y v->b=true\/Odd K.K W.H):∀ {xs ys:List PV}{vs:List V}{c:Bool},ycq K W xs vs->ycq K W ys vs->ygX f xs ys=some c->c=true\/Odd K.K W.H
 | [],_,_,_,_,_,e=>by simp [ygX] at e;exact .inl e
 | _::_,[],_,_,_,_,e=>by simp [ygX] at e;exact .inl e
 | x::xs,y::ys,_,c,⟨v,r,e1,h1,l1⟩,⟨u,q,e2,h2,l2⟩,e=>by
  rw [e1] at e2
  cases e2
  unfold ygX at e
  cases eb:f x y with
  | none=>rw [eb] at e;cases e
  | some b =>
   cases ec:ygX f xs ys with
   | none=>rw [eb,ec] at e;cases e
   | some c' =>
    rw [eb,ec] at e
    cases e
    rcases hf x y _ b eb h1 h2 with z|z
    .rcases yhH hf l1 l2 ec with z'|z'
     .exact .inl (by rw [z,z'];rfl)
     .exact .inr z'
    .exact .inr z
theorem ypf {f:PV->PV->Option Bool}{W:Wd}(w:WOk K W) (hf:∀ x y v b,f x y=some b->yco K W x v->yco K W y v->b=true\/Odd K.K W.H) {x y:PV}{v:V}{b:Bool}(e:pairE f W.h x y=some b) (rx:yco K W x v) (ry:yco K W y v):b=true\/Odd K.K W.H:=by
 unfold pairE at e
 split at e
 .rename_i xs ys
  obtain ⟨a,vs,ev,ha,ra⟩:=rx
  obtain ⟨a',vs',ev',ha',ra'⟩:=ry
  rw [ev] at ev'
  cases ev'
  rcases yAW w.le ha ha' with z|z
  .subst z
   cases ec:ygX f xs ys with
   | none=>rw [ec] at e;cases e
   | some c =>
    rw [ec] at e
    cases e
    rcases yhH hf ra ra' ec with z|z
    .left
     rw [z,<- ra.len,<- ra'.len]
     simp
    .exact .inr z
  .exact .inr z
 .obtain ⟨a',vs',ev',ha',ra'⟩:=ry
  have rx:v=.non:=rx
  rw [rx] at ev';cases ev'
 .obtain ⟨a',vs',ev',ha',ra'⟩:=rx
  have ry:v=.non:=ry
  rw [ry] at ev';cases ev'
 .split at e
  .rename_i xs ys hx hy
   obtain ⟨a,vs,ev,ha,ra⟩:=yK w hx rx
   obtain ⟨a',vs',ev',ha',ra'⟩:=yK w hy ry
   rw [ev] at ev'
   cases ev'
   rw [ha] at ha'
   cases ha'
   rw [if_pos (by rw [<- ra.len,<- ra'.len])] at e
   exact yhH hf ra ra' e
  .cases e
theorem yjU {W:Wd}(w:WOk K W):∀ (n:Nat) (x y:PV) (v:V) (b:Bool),eqP n W.h x y=some b->yco K W x v->yco K W y v->b=true\/Odd K.K W.H
 | 0,_,_,_,_,e,_,_=>by cases e
 | n+1,x,y,v,b,e,rx,ry=>by
  unfold eqP at e
  split at e
  .rename_i u u' hu hu'
   cases e
   rw [<- yfc hu rx,<- yfc hu' ry]
   exact .inl (yjT (by rw [yfc hu rx];exact yjS hu))
  .exact ypf w (yjU w n) e rx ry
theorem yhI {f:PV->PV->Option Bool}{W:Wd}{n:Nat}(hf:∀ x y v u b,f x y=some b->yco K W x v->yco K W y u->EqR K.K W.H n v u b):∀ {xs ys:List PV}{vs us:List V}{c:Bool},ycq K W xs vs->ycq K W ys us->ygX f xs ys=some c ->
  ∃ e:Nat->Bool,(∀ j v u,vs[j]?=some v->us[j]?=some u->EqR K.K W.H n v u (e j))/\c=(List.range (min vs.length us.length)).all e
 | [],_,_,_,c,h1,_,e=>by
  rw [show _=[] from h1]
  simp [ygX] at e
  exact ⟨fun _=>true,fun j v u hv=>by simp at hv,by simp [e]⟩
 | _::_,[],_,_,c,_,h2,e=>by
  rw [show _=[] from h2]
  simp [ygX] at e
  exact ⟨fun _=>true,fun j v u _ hu=>by simp at hu,by simp [e]⟩
 | x::xs,y::ys,_,_,c,⟨v,r,e1,h1,l1⟩,⟨u,q,e2,h2,l2⟩,e=>by
  subst e1 e2
  unfold ygX at e
  cases eb:f x y with
  | none=>rw [eb] at e;cases e
  | some b =>
   cases ec:ygX f xs ys with
   | none=>rw [eb,ec] at e;cases e
   | some c' =>
    rw [eb,ec] at e
    cases e
    obtain ⟨e',k1,k2⟩:=yhI hf l1 l2 ec
    refine ⟨fun j=>match j with|0=>b|j+1=>e' j,fun j v' u' hv hu=>?_,?_⟩
    .cases j with
     | zero =>
      simp at hv hu
      subst hv hu
      exact hf x y _ _ b eb h1 h2
     | succ j=>exact k1 j v' u' (by simpa using hv) (by simpa using hu)
    .rw [k2,length_cons,length_cons,show min (r.length+1) (q.length+1)=min r.length q.length+1 by omega,List.range_succ_eq_map,List.all_cons,List.all_map]
     rfl
theorem ynR {W:Wd}(w:WOk K W):∀ (n:Nat) (x y:PV) (v u:V) (b:Bool),eqP n W.h x y=some b->yco K W x v->yco K W y u->EqR K.K W.H n v u b
 | 0,_,_,_,_,_,e,_,_=>by cases e
 | n+1,x,y,v,u,b,e,rx,ry=>by
  have e0:=e
  unfold eqP at e
  split at e
  .rename_i v' u' hv hu
   cases e
   rw [yfc hv rx,yfc hu ry]
   exact .flat (yjS hv) (yjS hu)
  .unfold pairE at e
   split at e
   .rename_i xs ys _
    obtain ⟨a,vs,ev,ha,ra⟩:=rx
    obtain ⟨a',us,eu,ha',ra'⟩:=ry
    by_cases hab:a=a'
    .subst hab
     rcases yjU w (n+1) _ _ v b e0 ⟨a,vs,ev,ha,ra⟩ (by rw [ev,<- eu];exact ⟨a,us,eu,ha',ra'⟩) with this|z
     .rw [this,ev,eu]
      exact .same
     .exact .odd z
    .cases ec:ygX (eqP n W.h) xs ys with
     | none=>rw [ec] at e;cases e
     | some c =>
      rw [ec] at e
      cases e
      obtain ⟨e',k1,k2⟩:=yhI (ynR w n) ra ra' ec
      rw [ev,eu,k2,<- ra.len,<- ra'.len]
      exact .tup (ycx w ha) (ycx w ha') hab k1
   .obtain ⟨a',us,eu,ha',ra'⟩:=ry
    cases e
    rw [show v=.non from rx,eu]
    exact .nt (ycx w ha')
   .obtain ⟨a',us,eu,ha',ra'⟩:=rx
    cases e
    rw [show u=.non from ry,eu]
    exact .tn (ycx w ha')
   .split at e
    .rename_i xs ys hx hy
     obtain ⟨a,vs,ev,ha,ra⟩:=yK w hx rx
     obtain ⟨a',us,eu,ha',ra'⟩:=yK w hy ry
     by_cases hab:a=a'
     .subst hab
      rcases yjU w (n+1) _ _ v b e0 rx (by rw [ev,<- eu];exact ry) with this|z
      .rw [this,ev,eu]
       exact .same
      .exact .odd z
     .split at e
      .rename_i hl
       obtain ⟨e',k1,k2⟩:=yhI (ynR w n) ra ra' e
       have hl':vs.length=us.length:=by rw [ra.len,ra'.len,hl]
       rw [ev,eu,k2,<- hl',Nat.min_self]
       exact .lst ha ha' hl' hab k1
      .rename_i hl
       cases e
       rw [ev,eu]
       exact .lstN ha ha' (by rw [ra.len,ra'.len];exact hl)
    .cases e
def ypB:P2:=fun x y h=>match pairE (eqP 40 h) h x y with|some b=>some (.bl (!b),h)|none=>none
theorem yun {W:Wd}(w:WOk K W) {x y:PV}{v u:V}{b:Bool}(e:pairE (eqP 40 W.h) W.h x y=some b) (rx:yco K W x v) (ry:yco K W y u):RcR K.K W.H v u b:=by
 unfold pairE at e
 split at e
 .rename_i xs ys
  obtain ⟨a,vs,ev,ha,ra⟩:=rx
  obtain ⟨a',us,eu,ha',ra'⟩:=ry
  cases ec:ygX (eqP 40 W.h) xs ys with
  | none=>rw [ec] at e;cases e
  | some c =>
   rw [ec] at e
   cases e
   obtain ⟨e',k1,k2⟩:=yhI (ynR w 40) ra ra' ec
   rw [ev,eu,k2,<- ra.len,<- ra'.len]
   exact .tup (ycx w ha) (ycx w ha') k1
 .obtain ⟨a',us,eu,ha',ra'⟩:=ry
  cases e
  rw [show v=.non from rx,eu]
  exact .nt (ycx w ha')
 .obtain ⟨a',us,eu,ha',ra'⟩:=rx
  cases e
  rw [show u=.non from ry,eu]
  exact .tn (ycx w ha')
 .split at e
  .rename_i xs ys hx hy
   obtain ⟨a,vs,ev,ha,ra⟩:=yK w hx rx
   obtain ⟨a',us,eu,ha',ra'⟩:=yK w hy ry
   split at e
   .rename_i hl
    obtain ⟨e',k1,k2⟩:=yhI (ynR w 40) ra ra' e
    have hl':vs.length=us.length:=by rw [ra.len,ra'.len,hl]
    rw [ev,eu,k2,<- hl',Nat.min_self]
    exact .lst ha ha' hl' k1
   .rename_i hl
    cases e
    rw [ev,eu]
    exact .lstN ha ha' (by rw [ra.len,ra'.len];exact hl)
  .cases e
theorem yuo:ycf K (yFI K.K) ypB:=by
 intro W x y v u Q z h' w rx ry e q
 unfold ypB at e
 split at e
 .rename_i b hb
  cases e
  exact ⟨b,yun w hb rx ry,q _ W rfl (.refl w) rfl⟩
 .cases e
end PX
namespace PX
open PySem L2
variable {K:Ck}
def ybT:XS:=fun _ _=>none
theorem yup:yeX K yvy ybT:=fun _ _ _ _ _ _ _ _ e _=>by cases e
def yj (k:Nat) (m:Str) (f:Fn) (e:XE) (as:XA):XE:=fun ρ h=>ob (e ρ h) fun x h1=>match yeo x h1 with
 | some (k',ns,_)=>if k'=k/\m∉ns then ob (as ρ h1) fun ys h2=>f (x::ys) h2 else none
 | none=>none
theorem yll {k n:Nat}{m:Str}{f:Fn}{ex:XK}{ta:TE}{t:TA}{ea:XE}{as:XA}(a:ybE K ta ea) (b:ylc K t as) (hn:∀ ρ h xs h',as ρ h=some (xs,h')->xs.length=n) :
  ybE K (ywJ (K.A k) m (spE K (n+1) f) [] ex ta t) (yj k m f ea as):=by
 intro W0 W ρ σ Q z h' g e q
 obtain ⟨x,h1,e1,f1⟩:=yg e
 refine a W0 W ρ σ _ x h1 g e1 fun v W1 w1 l1 r1=>?_
 subst w1
 split at f1
 .rename_i k' ns xs hi
  split at f1
  .rename_i hc
   obtain ⟨ys,h2,e2,f2⟩:=yg f1
   obtain ⟨p,dx,vs,ev,hp,hl,rs⟩:=yfB l1.ok hi r1
   rw [hc.1] at hp
   refine ⟨p,dx,_,ev,hp,ydf hc.2,?_⟩
   refine b W0 W1 ρ σ _ ys h2 (g.step l1) e2 fun us W2 w2 l2 r2=>?_
   subst w2
   rw [append_nil]
   exact ⟨W2,x::ys,z,h',rfl,l2.ok,⟨v,us,rfl,l2.rep r1,r2⟩,by rw [length_cons,hn _ _ _ _ e2],f2,fun u W3 w3 l3 r3=>q u W3 w3 ((l1.trans l2).trans l3) r3⟩
  .cases f1
 .cases f1
def ydh (cs:List Nat) (f:Str) (eo ev:XE):XS:=fun ρ h=>ob (ev ρ h) fun y h1=>ob (eo ρ h1) fun x h2=>match x with
 | .loc n=>(match h2[n]? with|some (.ins k ns xs)=>if k∈cs/\ns.length<1000 then some (.nx ρ,h2.set n (.ins k (putN f y ns xs).1 (putN f y ns xs).2)) else none|_=>none)
 | _=>none
theorem yuq {cs:List Nat}{f:Str}{ta tv:TE}{ea ev:XE}(hc:∀ k∈cs,Cls K.K (K.A k)/\NoAttr K.K (K.A k) f) (a:ybE K ta ea) (c:ybE K tv ev):yeX K (yCR K.K ta tv f) (ydh cs f ea ev):=by
 intro W0 W ρ σ D o h' g e q
 obtain ⟨y,h1,e1,f1⟩:=yg e
 obtain ⟨x,h2,e2,f2⟩:=yg f1
 refine c W0 W ρ σ _ y h1 g e1 fun vy W1 w1 l1 r1=>?_
 subst w1
 refine a W0 W1 ρ σ _ x h2 (g.step l1) e2 fun vx W2 w2 l2 r2=>?_
 subst w2
 have w:=l2.ok
 split at f2
 .rename_i n
  split at f2
  .rename_i k ns xs hn
   split at f2
   .rename_i hk
    cases f2
    obtain ⟨p,ep,hm,hf,dx,us,hp,hl,rs⟩:=w.loc hn r2
    obtain ⟨us',p1,p2,p3⟩:=rs.putN (f:=f) hl (l2.rep r1)
    refine ⟨p,_,dx,_,ep,hp,(hc k hk.1).1,(hc k hk.1).2,by rw [length_zip,hl];simpa using hk.2,?_⟩
    rw [p1]
    have l4:Le K W2 (yjP W2 n p (.ins (K.A k) dx ((putN f y ns xs).1.zip us')) (.ins k (putN f y ns xs).1 (putN f y ns xs).2)):=yet w hn hm hf ⟨hf,dx,us',yn,p2,p3⟩
    have l:=l1.trans (l2.trans l4)
    exact q _ σ rfl l.lf (g.step l)
   .cases f2
  .cases f2
 .cases f2
end PX
namespace PX
open PySem L2
variable {K:Ck}
def yeY (r d:Addr):HO:=.ext fun h=>h.get? r=some { cls:=.type "dict_items",data:=.fields #[.ref d] }
noncomputable def yqY:V->List V->Hp->VK->Prop:=fun x vs H Q=>∃ d kvs,x=.ref d/\vs=[]/\H d=some (.dK kvs)/\∀ r,H r=none->Q (.ref r) (upd H r (yeY r d))
noncomputable def ynS (H:Hp) (as:List Addr) (ts:List (List V)):Hp:=fun b=>match (as.zip ts).lookup b with|some t=>some (.tup t)|none=>H b
def yCA (H:Hp) (p:Addr) (as:List Addr) (ts:List (List V)):Hp:=upd (ynS H as ts) p (.lst (as.map V.ref))
def rSI:List V->Hp->VK->Prop:=fun xs H Q=>∃ (r d:Addr) (kvs:List (Key×V)) (ns:List Int),xs=[.ref r]/\H r=some (yeY r d)/\H d=some (.dK kvs)/\kvs.map (·.1)=ns.map .inl/\kvs.length<64 /\
 ∀ (p:Addr) (as:List Addr) (q:List Nat),q.Perm (List.range ns.length)->q.Pairwise (fun i j=>ns.getD i 0<=ns.getD j 0)->ns.Nodup->as.length=q.length->(∀ a∈p::as,H a=none)->(p::as).Nodup ->
  Q (.ref p) (yCA H p as (q.map fun i=>[V.int (ns.getD i 0),(kvs.map (·.2)).getD i .non]))
def yzm (p:Int×PV):List (Int×PV)->List (Int×PV)
 | []=>[p]
 | q::r=>if p.1<=q.1 then p::q::r else q::yzm p r
def ypg:List (Int×PV)->List (Int×PV)
 | []=>[]
 | p::r=>yzm p (ypg r)
def yqZ:List Key->Option (List Int)
 | []=>some []
 | .inl i::r=>(yqZ r).map (i::·)
 | .inr _::_=>none
theorem ynT:∀ {ks:List Key}{ns:List Int},yqZ ks=some ns->ks=ns.map .inl
 | [],ns,h=>by cases h;rfl
 | .inl i::r,ns,h=>by
  obtain ⟨m,e,rfl⟩:=Option.map_eq_some_iff.mp h
  rw [map_cons,<- ynT e]
 | .inr _::_,_,h=>by cases h
theorem yhJ (p:Int×PV):∀ l,(yzm p l).Perm (p::l)
 | []=>.refl _
 | q::r=>by
  unfold yzm
  split
  .exact .refl _
  .exact ((yhJ p r).cons q).trans (.swap _ _ _)
theorem yeR:∀ l,(ypg l).Perm l
 | []=>.refl _
 | p::r=>(yhJ p _).trans ((yeR r).cons p)
theorem yra {p:Int×PV}:∀ {l:List (Int×PV)},l.Pairwise (fun a b=>a.1<=b.1)->(yzm p l).Pairwise (fun a b=>a.1<=b.1)
 | [],_=>List.pairwise_singleton _ _
 | q::r,h=>by
  obtain ⟨h1,h2⟩:=List.pairwise_cons.mp h
  unfold yzm
  split
  .rename_i hc
   exact List.pairwise_cons.mpr ⟨fun b hb=>by
    rcases mem_cons.mp hb with rfl|hb
    .exact hc
    .exact Int.le_trans hc (h1 b hb),h⟩
  .rename_i hc
   refine List.pairwise_cons.mpr ⟨fun b hb=>?_,yra h2⟩
   rcases mem_cons.mp ((yhJ p r).mem_iff.mp hb) with rfl|hb
   .omega
   .exact h1 b hb
theorem ynU:∀ l,(ypg l).Pairwise (fun a b=>a.1<=b.1)
 | []=>.nil
 | _::r=>yra (ynU r)
theorem yur {ns:List Int}{xs:List PV}{q:List Nat}(hl:xs.length=ns.length) (hp:q.Perm (List.range ns.length)) (hs:q.Pairwise fun i j=>ns.getD i 0<=ns.getD j 0) (nd:ns.Nodup) :
  (q.map fun i=>(ns.getD i 0,xs.getD i .non))=ypg (ns.zip xs):=by
 have hz:((List.range ns.length).map fun i=>(ns.getD i 0,xs.getD i .non))=ns.zip xs:=by
  apply List.ext_getElem
  .simp [hl]
  .intro i h1 h2
   have h3:i<ns.length:=by simpa using h1
   simp [getD,List.getElem?_eq_getElem h3,List.getElem?_eq_getElem (show i<xs.length by omega)]
 have hm:(q.map fun i=>(ns.getD i 0,xs.getD i .non)).Perm (ns.zip xs):=by rw [<- hz];exact hp.map _
 have hk:(ns.zip xs).map (·.1)=ns:=List.map_fst_zip (by omega)
 refine List.Perm.eq_of_pairwise (le:=fun a b=>a.1<=b.1) (fun a b ha hb h1 h2=>?_) (List.pairwise_map.mpr hs) (ynU _) (hm.trans (yeR _).symm)
 have ha:=hm.mem_iff.mp ha
 have hb:=(yeR _).mem_iff.mp hb
 obtain ⟨i,hi,rfl⟩:=getElem_of_mem ha
 obtain ⟨j,hj,rfl⟩:=getElem_of_mem hb
 have hi':i<ns.length:=by rw [length_zip] at hi;omega
 have hj':j<ns.length:=by rw [length_zip] at hj;omega
 have e:ns[i]=ns[j]:=by
  have:((ns.zip xs)[i]).1=((ns.zip xs)[j]).1:=Int.le_antisymm h1 h2
  simpa using this
 have:=yjb nd hi' hj' e
 subst this
 rfl
def yFJ (W:Wd) (as:List Addr) (ts:List (List V)):Wd:=⟨ynS W.F as ts,ynS W.H as ts,W.m,W.h⟩
theorem lookup_mem {α:Type}:∀ {as:List Addr}{ts:List α}{b:Addr}{t:α},(as.zip ts).lookup b=some t->b∈as
 | [],_,_,_,h=>by simp at h
 | _::_,[],_,_,h=>by simp at h
 | a::as,u::ts,b,t,h=>by
  rw [zip_cons_cons,lookup_cons] at h
  split at h
  .rename_i hb;rw [eq_of_beq hb];exact mem_cons_self
  .exact mem_cons_of_mem _ (lookup_mem h)
theorem ygm {H:Hp}{as:List Addr}{ts:List (List V)}{b:Addr}(h:b∉as):ynS H as ts b=H b:=by
 unfold ynS
 split
 .rename_i e;exact absurd (lookup_mem e) h
 .rfl
theorem yxQ {W:Wd}{as:List Addr}{ts:List (List V)}(w:WOk K W) (h:∀ a∈as,W.H a=none):Le K W (yFJ W as ts):=by
 have nm:∀ a∈as,a∉W.m:=fun a ha=>w.out (h a ha)
 have sF:Same W.F (ynS W.F as ts):=fun b o e=>by
  rw [ygm fun z=>by rw [w.ff (h b z)] at e;cases e];exact e
 have sH:Same W.H (ynS W.H as ts):=fun b o e=>by
  rw [ygm fun z=>by rw [h b z] at e;cases e];exact e
 refine ⟨⟨?_,w.len,w.nd,fun n d a e1 e2=>?_⟩,sF,prefix_refl _,fun b u e _=>sH b u e,fun b u e _ f=>?_,fun b z n=>absurd z n,fun n ks xs e1=>⟨e1,fun a e2=>ygm fun z=>nm a z (mem_of_getElem? e2)⟩⟩
 .intro b u e
  have e:ynS W.F as ts b=some u:=e
  show ynS W.H as ts b=some u
  unfold ynS at e ⊢
  split at e
  .exact e
  .exact w.le _ _ e
 .have ha:a∉as:=fun z=>nm a z (mem_of_getElem? e2)
  exact (w.at_ n d a e1 e2).mono sF (prefix_refl _) (fun u e=>sH _ _ e) fun f=>(ygm ha).trans f
 .exact (ygm fun z=>by rw [h b z] at e;cases e).trans f
theorem ylm {F:Hp}{m:List Addr}{Y:Nat->PV}{T:Nat->List V}{Z:Nat->List PV}(hY:∀ i,Y i=.tup (Z i)):∀ (as:List Addr) (q:List Nat),as.length=q.length->as.Nodup->(∀ a∈as,∀ i,i∈q->(as.zip (q.map T)).lookup a=some (T i)->F a=some (.tup (T i))) ->
  (∀ i∈q,RepL K F m (Z i) (T i))->RepL K F m (q.map Y) (as.map V.ref)
 | [],[],_,_,_,_=>rfl
 | [],_::_,h,_,_,_=>by cases h
 | _::_,[],h,_,_,_=>by cases h
 | a::as,i::q,hl,hn,hF,hR=>by
  obtain ⟨n1,n2⟩:=List.nodup_cons.mp hn
  refine ⟨.ref a,_,rfl,?_,ylm hY as q (by simpa using hl) n2 (fun b hb j hj e=>?_) fun j hj=>hR j (mem_cons_of_mem _ hj)⟩
  .rw [hY]
   exact ⟨a,T i,rfl,.inl (hF a mem_cons_self i mem_cons_self (by simp)),hR i mem_cons_self⟩
  .refine hF b (mem_cons_of_mem _ hb) j (mem_cons_of_mem _ hj) ?_
   rw [map_cons,zip_cons_cons,lookup_cons]
   have:(b == a)=false:=beq_eq_false_iff_ne.mpr fun z=>n1 (z ▸ hb)
   rw [this]
   exact e
noncomputable def sortI (ks:List Key) (xs:List PV):Option (List PV):=match yqZ ks with|some ns=>if ns.length<64 then some ((ypg (ns.zip xs)).map fun p=>.tup [.int p.1,p.2]) else none|none=>none
def yfE (e:XE):XO:=fun ρ h=>ob (e ρ h) fun x h1=>match yjQ x h1 with|some (ks,xs)=>(match sortI ks xs with|some l=>some (.lst l,h1)|none=>none)|none=>none
theorem yrb {W:Wd}{x:PV}{v:V}{ks:List Key}{xs:List PV}(w:WOk K W) (e:yjQ x W.h=some (ks,xs)) (r:yco K W x v):tyV K.K "dict" v W.H:=by
 obtain ⟨a,vs,rfl,hp,_⟩:=ylj w e r
 exact .inr (.inr (.inl ⟨rfl,.inl ⟨_,hp⟩⟩))
theorem yrc {ta:TE}{ea:XE}(a:ybE K ta ea):ylQ K (tCB rSI (ymc (yCs K.K "dict" yqY ta) ytk)) (yfE ea):=by
 intro W0 W ρ σ Q z h' g e q
 obtain ⟨x,h1,e1,f1⟩:=yg e
 refine a W0 W ρ σ _ x h1 g e1 fun v W1 w1 l1 r1=>?_
 subst w1
 split at f1
 .rename_i ks xs hd
  split at f1
  .rename_i l hl
   cases f1
   refine ⟨yrb l1.ok hd r1,?_⟩
   obtain ⟨d,vs,ev,hp,hvl,rs⟩:=ylj l1.ok hd r1
   subst ev
   refine ⟨d,_,rfl,rfl,hp,fun r hr=>?_⟩
   unfold sortI at hl
   split at hl
   .rename_i ns hk
    split at hl
    .rename_i h64
     cases hl
     have hk:=ynT hk
     have l2:=ycr (o:=yeY r d) l1.ok hr
     have hnl:ks.length=ns.length:=by rw [hk,length_map]
     have hxl:xs.length=ns.length:=by rw [<- rs.len];omega
     show rSI [.ref r] (upd W1.H r (yeY r d)) Q
     refine ⟨r,d,ks.zip vs,ns,rfl,yn,(yw (yZ hp hr)).trans hp,by rw [List.map_fst_zip (by omega),hk],by rw [length_zip];omega,fun p as o hperm hs nd hal hfree hnd=>?_⟩
     rw [List.map_snd_zip (by omega)]
     generalize hW2:yeQ W1 r (yeY r d)=W2 at l2
     have hH2:W2.H=upd W1.H r (yeY r d):=by rw [<- hW2];rfl
     rw [<- hH2] at hfree ⊢
     have l3:=yxQ (ts:=o.map fun i=>[V.int (ns.getD i 0),vs.getD i .non]) l2.ok fun a ha=>hfree a (mem_cons_of_mem _ ha)
     obtain ⟨n1,n2⟩:=List.nodup_cons.mp hnd
     have hp3:(yFJ W2 as (o.map fun i=>[V.int (ns.getD i 0),vs.getD i .non])).H p=none:=(ygm n1).trans (hfree p mem_cons_self)
     have l4:=ycr (o:=.lst (as.map V.ref)) l3.ok hp3
     have l:=l2.trans (l3.trans l4)
     have inq:∀ i∈o,i<ns.length:=fun i hi=>by have:=hperm.mem_iff.mp hi;simpa using this
     refine q p _ (by rw [<- hW2];rfl) (l1.trans l) (l3.ok.out hp3) ((l1.trans l2).fresh (hfree p mem_cons_self)) (fun z=>by cases z) ⟨l3.ok.ff hp3,_,yn,?_⟩
     rw [<- yur hxl hperm hs nd,map_map]
     refine ylm (T:=fun i=>[V.int (ns.getD i 0),vs.getD i .non]) (Z:=fun i=>[.int (ns.getD i 0),xs.getD i .non]) (fun i=>rfl) as o hal n2 (fun a ha i hi e=>?_) fun i hi=>⟨_,_,rfl,rfl,_,_,rfl,?_,rfl⟩
     .show ynS W2.F as _ a=_
      unfold ynS
      rw [e]
     .have hi':=inq i hi
      obtain ⟨u,h3,h4⟩:=(l2.trans (l3.trans l4)).repL rs |>.get (List.getElem?_eq_getElem (show i<xs.length by omega))
      have e5:xs.getD i .non=xs[i]'(by omega):=by simp [getD,List.getElem?_eq_getElem (show i<xs.length by omega)]
      have e6:vs.getD i .non=u:=by simp [getD,h3]
      rw [e5,e6]
      exact h4
    .cases hl
   .cases hl
  .cases f1
 .cases f1
end PX
namespace PX
open PySem L2
variable {K:Ck}
def yph (n:Nat) (rev:Bool) (g:XG) (s:XS):Nat->Nat->PSt->AH->Option (Out×AH)
 | 0,i,ρ,h=>match h[n]? with|some (.lst xs)=>if xs.length=i then some (.nx ρ,h) else none|_=>none
 | k+1,i,ρ,h=>match h[n]? with
  | some (.lst xs)=>(match xs[if rev then k else i]? with
   | some x=>(g x ρ).bind fun ρ1=>ob (s ρ1 h) fun o h1=>match o with|.nx ρ'=>yph n rev g s k (i+1) ρ' h1|.ct ρ'=>yph n rev g s k (i+1) ρ' h1|.bk ρ'=>some (.nx ρ',h1)|.rt y=>some (.rt y,h1)
   | none=>none)
  | _=>none
def yrd (rev:Bool) (e:XE) (g:XG) (s:XS):XS:=fun ρ h=>ob (e ρ h) fun x h1=>match x with
 | .loc n=>(match h1[n]? with|some (.lst xs)=>yph n rev g s xs.length 0 ρ h1|_=>none)
 | _=>none
structure ItX (K:Ck) (n:Nat) (rev:Bool) (m:Nat) (a:Addr) (J:It):Prop where
 go:∀ (i:Nat) (H:Hp) (vs:List V) (v:V),H a=some (.lst vs)->i<m->vs[if rev then m-1-i else i]?=some v->J.go i H
 yld:∀ (i:Nat) (H:Hp) (vs:List V) (v:V) (H2:Hp),H a=some (.lst vs)->i<m->J.yld i H v H2->H2=H/\vs[if rev then m-1-i else i]?=some v
 stop:∀ (H:Hp) (vs:List V),H a=some (.lst vs)->vs.length=m->J.stop m H
section
variable {ta:TE}{ea:XE}{t:TS}{s:XS}
theorem yre {n:Nat}{xs:List PV}{p:Addr}{us:List V}{J:It}{rev:Bool}{g:TG}{y:XG}(b:yqy K g y) (c:yeX K t s) {W0 W W1:Wd}{ρ:PSt}{σ:St}{D:Ends}{o:Out}{h':AH}(gd:Good K W0 W ρ σ) (l1:Le K W W1) (q:Ends.Ok K W0 W D h' o)
  (f1:yph n rev y s xs.length 0 ρ W1.h=some (o,h')) (hn:W1.h[n]?=some (.lst xs)) (hm:W1.m[n]?=some p) (rs:ycq K W1 xs us) (J1:ItX K n rev us.length p J) :
  ∃ Z:Nat->Nat->St->Hp->Prop,(∃ m,Z 0 m σ W1.H)/\∀ i m σ H,Z i m σ H ->
   (J.stop i H/\D.nx σ H)\/(J.go i H/\∃ N:St->Hp->Prop,(∀ σ' H',N σ' H'->∃ m',m'<m/\Z (i+1) m' σ' H')/\∀ x H',J.yld i H x H'->g x σ H' fun σ2 H2=>t { D with nx:=N,ct:=N,bk:=D.nx } σ2 H2):=by
   have q1:=q.from_ l1.lf
   have hul:us.length=xs.length:=rs.len
   rw [hul] at J1
   refine ⟨fun i m σ H=>m=xs.length-i/\i<=xs.length/\∃ W' ρ',W'.H=H/\Lf K W1 W'/\Good K W0 W' ρ' σ/\yph n rev y s (xs.length-i) i ρ' W'.h=some (o,h'),⟨_,rfl,zero_le _,W1,ρ,rfl,.refl,gd.step l1,f1⟩,?_⟩
   rintro i m σ _ ⟨rfl,hi,W',ρ',rfl,l,g',f⟩
   have hm':W'.m[n]?=some p:=ydz l.pre hm
   by_cases hlt:i<xs.length
   .obtain ⟨k,hk⟩:∃ k,xs.length-i=k+1:=⟨xs.length-i-1,by omega⟩
    rw [hk] at f
    unfold yph at f
    split at f
    .rename_i ys hy
     split at f
     .rename_i z hz
      obtain ⟨p',ev',hm2,hf',vs,hp',rs'⟩:=g'.ok.loc hy (v:=.ref p) ⟨p,rfl,hm'⟩
      cases ev'
      have hix:(if rev=true then xs.length-1-i else i)=(if rev=true then k else i):=by rw [show xs.length-1-i=k by omega]
      obtain ⟨vz,hv1,hv2⟩:=rs'.get hz
      obtain ⟨ρ1,k1,f⟩:=Option.bind_eq_some_iff.mp f
      obtain ⟨o1,h2,k2,f3⟩:=yg f
      refine .inr ⟨J1.go i W'.H vs vz hp' hlt (by rw [hix];exact hv1),fun σ2 H2=>i+1<=xs.length/\∃ W2 ρ2,W2.H=H2/\Lf K W1 W2/\Good K W0 W2 ρ2 σ2/\yph n rev y s (xs.length-(i+1)) (i+1) ρ2 W2.h=some (o,h'),fun σ2 H2 ⟨n1,n2⟩=>⟨xs.length-(i+1),by omega,rfl,n1,n2⟩,fun v H2 hy=>?_⟩
      obtain ⟨rfl,hx⟩:=J1.yld i W'.H vs v H2 hp' hlt hy
      rw [hix,hv1] at hx
      cases hx
      have ek:xs.length-(i+1)=k:=by omega
      refine b W0 W' ρ' ρ1 σ _ vz _ g' hv2 k1 fun σ2 g2=>?_
      refine c W0 W' ρ1 σ2 _ o1 h2 g2 k2 ?_
      cases o1 with
      | nx ρ2=>exact fun W2 σ3 w2 l2 g3=>⟨hlt,W2,ρ2,rfl,l.trans l2,g3,by rw [w2,ek];exact f3⟩
      | ct ρ2=>exact fun W2 σ3 w2 l2 g3=>⟨hlt,W2,ρ2,rfl,l.trans l2,g3,by rw [w2,ek];exact f3⟩
      | bk ρ2=>cases f3;exact fun W2 σ3 w2 l2 g3=>q1 W2 σ3 w2 (l.trans l2) g3
      | rt x=>cases f3;exact q1
     .cases f
    .cases f
   .have ei:i=xs.length:=by omega
    subst ei
    rw [sub_self] at f
    unfold yph at f
    split at f
    .rename_i ys hy
     obtain ⟨p',ev',hm2,hf',vs,hp',rs'⟩:=g'.ok.loc hy (v:=.ref p) ⟨p,rfl,hm'⟩
     cases ev'
     split at f
     .rename_i hyl
      cases f
      exact .inl ⟨J1.stop W'.H vs hp' (by rw [rs'.len,hyl]),q1 W' σ rfl l g'⟩
     .cases f
    .cases f
theorem yEg {n m:Nat}{a:Addr}:ItX K n false m a (Itl K.K a) where
 go:=fun i H vs v h _ e=>⟨vs,v,SqL.of h,e⟩
 yld:=fun i H vs v H2 h _ e=>⟨e.1,e.2 vs (SqL.of h)⟩
 stop:=fun H vs h e=>⟨vs,SqL.of h,le_of_eq e⟩
theorem yus {g:TG}{y:XG}(a:ybE K ta ea) (b:yqy K g y) (c:yeX K t s):yeX K (yCq (ytd K.K ta) g t) (yrd false ea y s):=by
 intro W0 W ρ σ D o h' gd e q
 obtain ⟨x,h1,e1,f1⟩:=yg e
 refine a W0 W ρ σ _ x h1 gd e1 fun v W1 w1 l1 r1=>?_
 subst w1
 split at f1
 .rename_i n
  split at f1
  .rename_i xs hn
   obtain ⟨p,ev,hm,hf,us,hp,rs⟩:=l1.ok.loc hn r1
   exact ⟨p,ev,⟨us,SqL.of hp⟩,yre b c gd l1 q f1 hn hm rs yEg⟩
  .cases f1
 .cases f1
end
end PX
namespace PX
open PySem L2
variable {K:Ck}
def yEh (kvs more:List (Key×V)):List (Key×V):=more.foldl (fun acc kv=>putK acc kv.1 kv.2) kvs
def yFK:V->List V->Hp->VK->Prop:=fun x vs H Q=>∃ d o kvs more,x=.ref d/\vs=[.ref o]/\d≠o/\H d=some (.dK kvs)/\H o=some (.dK more)/\kvs.length+more.length<=sizeLine/\Q .non (upd H d (.dK (yEh kvs more)))
def yjV:List Key->List PV->List Key->List PV->List Key×List PV
 | j::js,y::ys,ks,xs=>yjV js ys (ych ks xs j y).1 (ych ks xs j y).2
 | _,_,ks,xs=>(ks,xs)
def ypi:PV->AH->Bool:=fun x h=>(yjQ x h).isSome
theorem yut {W:Wd}{x:PV}{v:V}(w:WOk K W) (r:yco K W x v) (c:ypi x W.h=true):tyV K.K "dict" v W.H:=by
 obtain ⟨⟨ks,xs⟩,hd⟩:=Option.isSome_iff_exists.mp c
 exact yrb w hd r
theorem yrf {F:Hp}{m:List Addr}:∀ {js:List Key}{ys:List PV}{us:List V}{ks:List Key}{xs:List PV}{vs:List V},RepL K F m ys us->us.length=js.length->RepL K F m xs vs->vs.length=ks.length ->
  ∃ ws,yEh (ks.zip vs) (js.zip us)=(yjV js ys ks xs).1.zip ws/\ws.length=(yjV js ys ks xs).1.length/\RepL K F m (yjV js ys ks xs).2 ws
 | [],ys,us,ks,xs,vs,r,hl,r2,hl2=>by
  obtain rfl:us=[]:=List.length_eq_zero_iff.mp (by simpa using hl)
  cases ys with
  | cons y ys=>obtain ⟨v,r',e,_⟩:=r;cases e
  | nil=>exact ⟨vs,rfl,hl2,r2⟩
 | j::js,[],us,ks,xs,vs,r,hl,r2,hl2=>by
  obtain rfl:us=[]:=r
  cases hl
 | j::js,y::ys,_,ks,xs,vs,⟨u,us,e,ru,rr⟩,hl,r2,hl2=>by
  subst e
  have key:∃ ws,putK (ks.zip vs) j u=(ych ks xs j y).1.zip ws/\ws.length=(ych ks xs j y).1.length/\RepL K F m (ych ks xs j y).2 ws:=by
   have hput:=ynO j u ks vs hl2
   unfold ych
   by_cases hj:yqQ ks j=true
   .rw [if_pos hj] at hput ⊢
    exact ⟨_,hput,by rw [yjR];exact hl2,r2.setK ks j ru⟩
   .rw [if_neg hj] at hput ⊢
    exact ⟨_,hput,by rw [length_append,length_append,hl2];rfl,r2.snoc ru⟩
  obtain ⟨ws,p1,p2,p3⟩:=key
  have ih:=yrf (js:=js) rr (by simpa using hl) p3 p2
  show ∃ ws,yEh (putK (ks.zip vs) j u) (js.zip us)=_/\_
  rw [p1]
  exact ih
def yzn:PM:=fun x ys h=>match x,ys with|.loc n,[.loc k]=>(match h[n]?,h[k]? with|some (.dct ks xs),some (.dct js zs)=>if n≠k/\ks.length+js.length<1000 then some (.non,h.set n (.dct (yjV js zs ks xs).1 (yjV js zs ks xs).2)) else none|_,_=>none)|_,_=>none
theorem yEi:yiD K "dict" ypi yFK yzn:=by
 refine ⟨fun W x v w r c=>yut w r c,fun W x v xs vs Q z h' w rx r e q=>?_⟩
 unfold yzn at e
 split at e
 .rename_i n k
  split at e
  .rename_i ks xs js zs hn hk
   split at e
   .rename_i hc
    cases e
    obtain ⟨u,rfl,ru⟩:=ymC r
    obtain ⟨a,ev,hm,hf,us,hp,hl,rs⟩:=w.loc hn rx
    obtain ⟨b,ev2,hm2,hf2,us2,hp2,hl2,rs2⟩:=w.loc hk ru
    have hne:a≠b:=fun z=>by
     subst z
     obtain ⟨l1,q1⟩:=List.getElem?_eq_some_iff.mp hm
     obtain ⟨l2,q2⟩:=List.getElem?_eq_some_iff.mp hm2
     exact hc.1 (yjb w.nd l1 l2 (q1.trans q2.symm))
    obtain ⟨ws,p1,p2,p3⟩:=yrf rs2 hl2 rs hl
    refine ⟨a,b,_,_,ev,by rw [ev2],hne,hp,hp2,by rw [length_zip,length_zip];exact small (by omega),?_⟩
    rw [p1]
    exact q .non (yjP W n a (.dK ((yjV js zs ks xs).1.zip ws)) (.dct (yjV js zs ks xs).1 (yjV js zs ks xs).2)) rfl (yet w hn hm hf ⟨hf,_,yn,p2,p3⟩) rfl
   .cases e
  .cases e
 .cases e
end PX
namespace PX
open PySem L2
variable {K:Ck}
noncomputable def yAX (J:It) (tc:TT) (te:TE) (inn:V->St) (D:Addr) (Q:VK) (H:Hp):Prop:=∃ W:Nat->Nat->Hp->Prop,(∃ m,W 0 m H)/\∀ i m H,W i m H ->
 (J.stop i H/\Q (.ref D) H)\/(J.go i H/\∀ x H',J.yld i H x H'->tc (inn x) H' fun b H1=>if b=true then te (inn x) H1 fun y H2=>∃ acc,H2 D=some (.lst acc)/\acc.length<sizeLine/\∃ m',m'<m/\W (i+1) m' (upd H2 D (.lst (acc++[y]))) else ∃ m',m'<m/\W (i+1) m' H1)
def yln (wi:TI) (ix:List Nat) (tc:TT) (te:TE):TE:=fun σ H Q=>wi σ H fun J H1=>∀ D,H1 D=none->yAX J tc te (inner ix σ) D Q (upd H1 D (.lst []))
end PX
namespace PX
open PySem L2
variable {K:Ck}
end PX
namespace PX
open PySem L2
variable {K:Ck}
def ygY:Key->PV|.inl i=>.int i|.inr s=>.str s
theorem ylo {W:Wd}(k:Key):yco K W (ygY k) (kV k):=by cases k<;>exact rfl
def ItD (a:Addr) (ob:Obj) (kvs:List (Key×V)):It :=
 ⟨fun i H=>i<kvs.length/\H a=some (.frz ob (.dK kvs)),fun i H x H'=>H'=H/\∃ kv,kvs[i]?=some kv/\x=kV kv.1,fun i H=>i=kvs.length/\H a=some (.frz ob (.dK kvs))⟩
def yAY (NF:Addr->Prop) (te:TE):TI:=fun σ H R=>te σ H fun x H1=>∃ a kvs,x=.ref a/\H1 a=some (.dK kvs)/\∀ ob,NF a->R (ItD a ob kvs) (upd H1 a (.frz ob (.dK kvs)))
def yAZ (NF:Addr->Prop) (D:Ends):Ends:=⟨fun σ H=>∃ a ob kvs,NF a/\H a=some (.frz ob (.dK kvs))/\D.nx σ (upd H a (.dK kvs)),D.rt,D.bk,D.ct⟩
theorem yxR {W:Wd}(w:WOk K W) {n:Nat}{d d':Nd}{a:Addr}{o:HO}(e:W.h[n]?=some d) (hm:W.m[n]?=some a) (hF:W.F a=none) (at':NdAt K W.F (upd W.H a o) W.m d' a):WOk K (yjP W n a o d'):=by
 have hn:n<W.h.length:=(List.getElem?_eq_some_iff.mp e).1
 refine ⟨fun b u q=>?_,by show W.m.length=(W.h.set n d').length;rw [length_set];exact w.len,w.nd,fun j dj b e1 e2=>?_⟩
 .have:b≠a:=yZ q hF
  exact (yw this).trans (w.le _ _ q)
 .have e1:(W.h.set n d')[j]?=some dj:=e1
  by_cases hj:n=j
  .subst hj
   rw [getElem?_set_self hn] at e1
   cases e1
   have e2:W.m[n]?=some b:=e2
   rw [hm] at e2
   cases e2
   exact at'
  .rw [getElem?_set_ne hj] at e1
   have e2:W.m[j]?=some b:=e2
   have hb:b≠a:=fun z=>by
    subst z
    obtain ⟨l1,q1⟩:=List.getElem?_eq_some_iff.mp hm
    obtain ⟨l2,q2⟩:=List.getElem?_eq_some_iff.mp e2
    exact hj (yjb w.nd l1 l2 (q1.trans q2.symm))
   exact (w.at_ j dj b e1 e2).mono (Same.refl _) (prefix_refl _) (fun u q=>(yw hb).trans q) id
theorem yrg {W0 W':Wd}(w:WOk K W') (pre:W0.m <+: W'.m) (fz:∀ (n:Nat) (ks:List Key) (xs:List PV),W0.h[n]?=some (.fz ks xs)->W'.h[n]?=some (.fz ks xs)/\∀ a,W0.m[n]?=some a->W'.H a=W0.H a)
  {n:Nat}{a:Addr}{o:HO}{d:Nd}(hm:W'.m[n]?=some a) (n0:∀ ks xs,W0.h[n]?≠some (.fz ks xs)) (j:Nat) (ks:List Key) (xs:List PV) (e1:W0.h[j]?=some (.fz ks xs)) :
  (yjP W' n a o d).h[j]?=some (.fz ks xs)/\∀ b,W0.m[j]?=some b->(yjP W' n a o d).H b=W0.H b:=by
 obtain ⟨h1,h2⟩:=fz j ks xs e1
 have hj:n≠j:=fun z=>by subst z;exact n0 _ _ e1
 refine ⟨(getElem?_set_ne hj).trans h1,fun b e2=>(yw fun z=>?_).trans (h2 b e2)⟩
 subst z
 obtain ⟨l1,q1⟩:=List.getElem?_eq_some_iff.mp hm
 obtain ⟨l2,q2⟩:=List.getElem?_eq_some_iff.mp (ydz pre e2)
 exact hj (yjb w.nd l1 l2 (q1.trans q2.symm))
theorem yrh {W0 W':Wd}(l:Le K W0 W') {n:Nat}{a:Addr}{o:HO}{d d':Nd}(e:W'.h[n]?=some d) (hm:W'.m[n]?=some a) (hF:W'.F a=none) (at':NdAt K W'.F (upd W'.H a o) W'.m d' a) (n0:∀ ks xs,W0.h[n]?≠some (.fz ks xs)):Le K W0 (yjP W' n a o d') where
 ok:=yxR l.ok e hm hF at'
 fs:=l.fs
 pre:=l.pre
 keep:=fun b u q hb=>by
  have:b≠a:=fun z=>by
   subst z
   rw [l.mn b (mem_of_getElem? hm) hb] at q
   cases q
  exact (yw this).trans (l.keep b u q hb)
 new:=l.new
 mn:=l.mn
 fz:=yrg l.ok l.pre l.fz hm n0
theorem Good.thaw {W0 W':Wd}{ρ:PSt}{σ:St}(g:Good K W0 W' ρ σ) {n:Nat}{a:Addr}{o:HO}{d d':Nd}(e:W'.h[n]?=some d) (hm:W'.m[n]?=some a) (hF:W'.F a=none) (at':NdAt K W'.F (upd W'.H a o) W'.m d' a) (n0:∀ ks xs,W0.h[n]?≠some (.fz ks xs)):Good K W0 (yjP W' n a o d') ρ σ where
 le:=yrh g.le e hm hF at' n0
 len:=g.len
 val:=g.val
 own:=fun i d1 e1=>by
  obtain ⟨p,h1,h2,h3,h4,h5⟩:=g.own i d1 e1
  have hp:p≠a:=fun z=>h2 (z ▸ mem_of_getElem? hm)
  exact ⟨p,h1,h2,h3,h4,h5.mono (Same.refl _) (prefix_refl _) (fun u q=>(yw hp).trans q) id⟩
 ne:=g.ne
theorem yvY {W W1:Wd}(l:Le K W W1) {n:Nat}{d:Nd}(e:W1.h[n]?=some d) (nf:∀ ks xs,d≠.fz ks xs) (ks:List Key) (xs:List PV):W.h[n]?≠some (.fz ks xs):=fun z=>by
 have:=(l.fz n ks xs z).1
 rw [e] at this
 cases this
 exact nf _ _ rfl
section
variable {ta:TE}{ea:XE}{t:TS}{s:XS}
end
end PX
namespace PX
open PySem L2
variable {K:Ck}
def spJ (K:Ck) (n k:Nat) (f:List PV->AH->Option (Nd×AH)):Sp:=fun vs H Q _=>∃ (W0 W:Wd) (x:Addr) (args:List V) (xs:List PV) (d:Nd) (h':AH),vs=.ref x::args/\W.H=H/\Le K W0 W/\W0.H x=none/\x∉W.m/\NdAt K W.F W.H W.m (.ins k [] []) x /\
 ycq K W xs args/\xs.length=n/\f xs W.h=some (d,h')/\∀ W',W'.h=h'->Lf K W W'->Le K W0 W'->x∉W'.m->d≠.dead->NdAt K W'.F W'.H W'.m d x->Q .non W'.H
theorem yxS {n k:Nat}{f} {vs:List V}{H:Hp}{Q:VK}{E:XK}(h:spJ K n k f vs H Q E):vs.length=n+1:=by
 obtain ⟨W0,W,x,args,xs,d,h',rfl,_,_,_,_,_,r,hn,_⟩:=h
 rw [length_cons,r.len,hn]
theorem yri {N:List Str}{n k:Nat}{t:TS}{s:XS}{vs:List V}{H:Hp}{Q:VK}{E:XK}{bk ct:St->Hp->Prop}(hN:n+1<=N.length) (a:ysT K t s) (h:spJ K n k (ypc N.length k s) vs H Q E):t ⟨fun _ H'=>Q .non H',Q,bk,ct⟩ (L2.start N vs) H:=by
 obtain ⟨W0,W,x,args,xs,d,h',rfl,rfl,le,hx,hm,at_,r,hn,e,q⟩:=h
 obtain ⟨o,h1,e1,f1⟩:=yg e
 have gs:=ygf (K:=K) (N:=N.drop 1) le.ok r
 have g:Good K W0 W (.own (.ins k [] [])::(xs.map .val++replicate (N.length-(xs.length+1)) .no)) (L2.start N (.ref x::args)):=by
  have es:L2.start N (.ref x::args)=some (.ref x)::L2.start (N.drop 1) args:=by
   have e3:N.length-(args.length+1)=(N.drop 1).length-args.length:=by rw [length_drop];omega
   unfold L2.start
   rw [map_cons,List.cons_append,length_cons,e3]
  have eN:N.length-(xs.length+1)=(N.drop 1).length-xs.length:=by rw [length_drop];omega
  rw [es,eN]
  have noown:∀ (j:Nat) (d:Nd),(xs.map PVar.val++replicate ((N.drop 1).length-xs.length) .no)[j]?≠some (.own d):=fun j d z=>by
   by_cases hj:j<xs.length
   .rw [getElem?_append_left (by simpa using hj),getElem?_map,List.getElem?_eq_getElem hj] at z
    cases z
   .rw [getElem?_append_right (by simp;omega),getElem?_replicate] at z
    split at z<;>cases z
  refine ⟨le,by rw [length_cons,length_cons,gs.len],fun j y z=>?_,fun j d z=>?_,fun i j d d' hij z z'=>?_⟩
  .cases j with
   | zero=>cases z
   | succ j=>exact gs.val j y z
  .cases j with
   | zero=>cases z;exact ⟨x,rfl,hm,hx,(fun z=>by cases z),at_⟩
   | succ j=>exact absurd z (noown j d)
  .cases i with
   | zero =>
    cases j with
    | zero=>exact absurd rfl hij
    | succ j=>exact absurd z' (noown j d')
   | succ i=>exact absurd z (noown i d)
 cases o with
 | rt y=>cases f1
 | bk ρ=>cases f1
 | ct ρ=>cases f1
 | nx ρ =>
  refine a W0 W _ ρ _ _ h1 g e1 fun W' ew lf g'=>?_
  dsimp only at f1
  split at f1
  .rename_i d' hd'
   cases f1
   obtain ⟨p,b1,b2,b3,b4,b5⟩:=g'.own 0 _ hd'
   have b1:some (some (V.ref x))=some (some (V.ref p)):=b1
   cases b1
   exact q W' ew lf g'.le b2 b4 b5
  .cases f1
def yBa:PVar->Bool|.own _=>false|_=>true
def xBI (k:Nat) (f:List PV->AH->Option (Nd×AH)) (a:XA):XS:=fun ρ h=>match ρ with
 | .own (.ins k' [] [])::r=>if k'=k/\r.all yBa=true then ob (a ρ h) fun xs h1=>ob (f xs h1) fun d h2=>(match d with|.dead=>none|d=>some (.nx (.own d::r),h2)) else none
 | _=>none
theorem yxT {n k:Nat}{f} {E:XK}{t:TA}{aa:XA}(a:ylc K t aa) (hn:∀ ρ h xs h',aa ρ h=some (xs,h')->xs.length=n):ysT K (ypJ (ytl (spJ K n k f) [] E (ymc (ypA 0) t))) (xBI k f aa):=by
 intro W0 W ρ ρ' σ D h' g e q
 unfold xBI at e
 split at e
 .rename_i k' r
  split at e
  .rename_i c
   obtain ⟨rfl,hr⟩:=c
   obtain ⟨xs,h1,e1,f1⟩:=yg e
   obtain ⟨d,h2,e2,f2⟩:=yg f1
   have nodead:d≠.dead:=fun z=>by subst z;cases f2
   have f2:some (Out.nx (.own d::r),h2)=some (.nx ρ',h'):=by
    cases d<;>first|exact f2|cases f2
   cases f2
   obtain ⟨p,b1,b2,b3,b4,b5⟩:=g.own 0 _ rfl
   refine ⟨.ref p,b1,?_⟩
   refine a W0 W _ σ _ xs h1 g e1 fun vs W1 w1 l1 r1=>?_
   subst w1
   have g1:=g.step l1
   obtain ⟨p',c1,c2,c3,c4,c5⟩:=g1.own 0 _ rfl
   rw [b1] at c1
   cases c1
   rw [append_nil]
   refine ⟨W0,W1,p,vs,xs,d,h',rfl,rfl,g1.le,c3,c2,c5,r1,hn _ _ _ _ e1,e2,fun W2 w2 lf le hm hd at_=>?_⟩
   refine q W2 w2 (l1.lf.trans lf) ⟨le,g1.len,fun j y z=>?_,fun j d' z=>?_,fun i j d1 d2 hij z1 z2=>?_⟩
   .cases j with
    | zero=>cases z
    | succ j =>
     obtain ⟨v,z1,z2⟩:=g1.val (j+1) y z
     exact ⟨v,z1,lf.rep z2⟩
   .cases j with
    | zero=>cases z;exact ⟨p,b1,hm,c3,hd,at_⟩
    | succ j =>
     have z:r[j]?=some (.own d'):=z
     have:=List.all_eq_true.mp hr _ (mem_of_getElem? z)
     cases this
   .cases i with
    | zero =>
     cases j with
     | zero=>exact absurd rfl hij
     | succ j =>
      have z:r[j]?=some (.own d2):=z2
      have:=List.all_eq_true.mp hr _ (mem_of_getElem? z)
      cases this
    | succ i =>
     have z:r[i]?=some (.own d1):=z1
     have:=List.all_eq_true.mp hr _ (mem_of_getElem? z)
     cases this
  .cases e
 .cases e
end PX
namespace PX
open PySem L2
variable {K:Ck}
end PX
namespace PX
open PySem L2
variable {K:Ck}
def yFL (K:PySem.W.Frag):V->Option Int->Option Int->Hp->VK->Prop:=fun x lo hi H Q=>∃ a xs,x=.ref a/\SqT K H a xs/\(HT.sIx xs.length 0 lo=0/\HT.sIx xs.length xs.length hi=xs.length)/\Q (.ref a) H
def yBb (K:PySem.W.Frag):V->Option Int->Option Int->Hp->VK->Prop:=fun x lo hi H Q=>yFt K x lo hi H Q\/yFL K x lo hi H Q
def yCB:PV->Option Int->Option Int->AH->Option (PV×AH):=fun x lo hi h=>match x with|.tup xs=>some (.tup (yky xs lo hi),h)|_=>none
theorem yEj:yxi K (yBb K.K) yCB:=by
 intro W x v lo hi Q z h' w rx e q
 unfold yCB at e
 split at e
 .rename_i xs
  cases e
  obtain ⟨a,vs,ev,hs,rs⟩:=rx
  have hl:vs.length=xs.length:=rs.len
  by_cases c:HT.sIx vs.length 0 lo=0/\HT.sIx vs.length vs.length hi=vs.length
  .refine .inr ⟨a,vs,ev,ycx w hs,c,q _ W rfl (.refl w) ⟨a,vs,rfl,hs,?_⟩⟩
   unfold yky
   rw [<- hl,c.1,c.2,List.drop_zero,Nat.sub_zero,hl,take_length]
   exact rs
  .refine .inl ⟨a,vs,ev,ycx w hs,c,fun p hp=>?_⟩
   have l2:=yjK (o:=.tup (ysO vs lo hi)) w hp
   refine q (.ref p) (ytB W p (.tup (ysO vs lo hi))) rfl l2 ⟨p,_,rfl,.inl yn,l2.repL ?_⟩
   have:=(rs.drop (HT.sIx xs.length 0 lo)).take (HT.sIx xs.length xs.length hi-HT.sIx xs.length 0 lo)
   unfold yky ysO
   rw [hl]
   exact this
 .cases e
theorem yEk {xs:List PV}{lo hi:Option Int}{h:AH}:yCB (.tup xs) lo hi h=some (.tup (yky xs lo hi),h):=id rfl
end PX
namespace PX
open PySem L2
variable {K:Ck}
noncomputable def yrj (c:Nat):List Nat->List (List Nat)
 | []=>[[]]
 | k::r=>if k=c then []::yrj c r else match yrj c r with|[]=>[[k]]|w::ws=>(k::w)::ws
theorem ylp {c:Nat}:∀ {w:List Nat},c∉w->yrj c w=[w]
 | [],_=>rfl
 | k::r,h=>by
  have h1:k≠c:=fun z=>h (z ▸ mem_cons_self ..)
  unfold yrj
  rw [if_neg h1,ylp fun z=>h (mem_cons_of_mem _ z)]
theorem ynV {c:Nat}:∀ {w r:List Nat},c∉w->yrj c (w++c::r)=w::yrj c r
 | [],r,_=>by
  rw [List.nil_append]
  show (if c=c then []::yrj c r else _)=_
  rw [if_pos rfl]
 | k::w,r,h=>by
  have h1:k≠c:=fun z=>h (z ▸ mem_cons_self ..)
  rw [List.cons_append]
  show (if k=c then []::yrj c (w++c::r) else match yrj c (w++c::r) with|[]=>[[k]]|w::ws=>(k::w)::ws)=_
  rw [if_neg h1,ynV fun z=>h (mem_cons_of_mem _ z)]
def yrk (z:Str):List Str:=(yrj 32 z.cps.toList).map fun w=>⟨w.toArray⟩
theorem yhK:∀ (ws:List Str),ws≠[]->(∀ w∈ws,32∉w.cps.toList)->yrk (Str.join " " ws)=ws
 | [],h,_=>absurd rfl h
 | [w],_,h=>by
  have h1:=ylp (h w (List.mem_singleton.mpr rfl))
  show (yrj 32 w.cps.toList).map _=_
  rw [h1];rfl
 | w::v::r,_,h=>by
  have ih:=yhK (v::r) (fun z=>by cases z) fun u hu=>h u (mem_cons_of_mem _ hu)
  show yrk (w++" "++Str.join " " (v::r))=_
  have e:(w++(" ":Str)++Str.join " " (v::r)).cps.toList=w.cps.toList++32::(Str.join " " (v::r)).cps.toList:=by
   show (w.cps++(" ":Str).cps++(Str.join " " (v::r)).cps).toList=_
   rw [show (" ":Str).cps = #[32] by rfl']
   simp
  unfold yrk at ih ⊢
  rw [e,ynV (h w (mem_cons_self ..)),map_cons,ih]
def yvZ:V->List V->Hp->VK->Prop:=fun x vs H Q=>∃ z:Str,x=.str z/\vs=[.str " "]/\z.length<=100000/\∀ p,H p=none->Q (.ref p) (upd H p (.lst ((yrk z).map V.str)))
def ylq:PM:=fun x xs h=>match x,xs with|.str z,[.str y]=>if y = " "/\z.length<=100000 then some (.lst ((yrk z).map .str),h) else none|_,_=>none
theorem RepL.of_strs {F:Hp}{m:List Addr}:∀ (ts:List Str),RepL K F m (ts.map PV.str) (ts.map V.str)
 | []=>rfl
 | _::ts=>⟨_,_,rfl,rfl,RepL.of_strs ts⟩
theorem m_split:yiD K "str" isStr yvZ ylq:=by
 refine ⟨fun W x v w r c=>?_,fun W x v xs vs Q z h' w rx r e q=>?_⟩
 .unfold isStr at c
  split at c
  .rw [show v=_ from r];rfl
  .cases c
 .unfold ylq at e
  split at e
  .rename_i z y
   split at e
   .rename_i c
    cases e
    obtain ⟨u,rfl,ru⟩:=ymC r
    have ru:u=.str y:=ru
    refine ⟨z,rx,by rw [ru,c.1],c.2,fun p hp=>?_⟩
    have l2:=yjK (o:=.lst ((yrk z).map V.str)) w hp
    exact q (.ref p) (ytB W p (.lst ((yrk z).map V.str))) rfl l2 ⟨p,_,rfl,yn,RepL.of_strs _⟩
   .cases e
  .cases e
theorem yxU {z:Str}{h:AH}(e:z.length<=100000):ylq (.str z) [.str " "] h=some (.lst ((yrk z).map .str),h):=by
 unfold ylq;exact if_pos ⟨rfl,e⟩
def yzo:List PV->List PV->List PV
 | x::xs,y::ys=>.tup [x,y]::yzo xs ys
 | _,_=>[]
theorem ynW:∀ {xs ys:List PV}{i:Nat}{x y:PV},xs[i]?=some x->ys[i]?=some y->(yzo xs ys)[i]?=some (.tup [x,y])
 | x::xs,y::ys,0,_,_,e,f=>by simp at e f;subst e;subst f;rfl
 | x::xs,y::ys,i+1,_,_,e,f=>by
  show (yzo xs ys)[i]?=_
  exact ynW (by simpa using e) (by simpa using f)
theorem ynX:∀ {xs ys:List PV},xs.length=ys.length->(yzo xs ys).length=xs.length
 | [],[],_=>rfl
 | x::xs,y::ys,e=>by
  show (yzo xs ys).length+1=_
  rw [ynX (by simpa using e)];rfl
structure yEl (K:Ck) (W:Wd) (J:It) (xs:List PV):Prop where
 go:∀ (i:Nat) (W':Wd),Lf K W W'->WOk K W'->i<xs.length->J.go i W'.H
 yld:∀ (i:Nat) (W':Wd) (v:V) (H2:Hp),Lf K W W'->WOk K W'->i<xs.length->J.yld i W'.H v H2->∃ W2,W2.H=H2/\W2.h=W'.h/\Le K W' W2/\∃ x,xs[i]?=some x/\yco K W2 x v
 stop:∀ (W':Wd),Lf K W W'->WOk K W'->J.stop xs.length W'.H
variable {t:TS}{s:XS}
end PX
namespace PX
open PySem L2
variable {K:Ck}
section
variable {F H:Hp}{m:List Addr}
end
variable {t:TA}{e:XA}
end PX
namespace PX
open PySem L2
variable {K:Ck}
end PX
namespace PX
open PySem L2
variable {K:Ck}
theorem yEm {W W1:Wd}(l1:Le K W W1) {p:Addr}{d:Nd}(hm:p∉W1.m) (hn:W.H p=none) (at_:NdAt K W1.F W1.H W1.m d p):Le K W ⟨W1.F,W1.H,W1.m++[p],W1.h++[d]⟩/\yco K ⟨W1.F,W1.H,W1.m++[p],W1.h++[d]⟩ (.loc W1.h.length) (.ref p):=by
 have pre:W1.m <+: W1.m++[p]:=List.prefix_append _ _
 refine ⟨⟨⟨l1.ok.le,?_,?_,fun n d' a e1 e2=>?_⟩,l1.fs,l1.pre.trans pre,l1.keep,l1.new,fun b z n=>?_,fun n ks xs e1=>⟨by
  have:=(l1.fz n ks xs e1).1
  show (W1.h++[d])[n]?=_
  rw [getElem?_append_left (List.getElem?_eq_some_iff.mp this).1];exact this,(l1.fz n ks xs e1).2⟩⟩,⟨p,rfl,?_⟩⟩
 .show (W1.m++[p]).length=(W1.h++[d]).length
  rw [length_append,length_append,l1.ok.len];rfl
 .show (W1.m++[p]).Nodup
  rw [List.nodup_append]
  refine ⟨l1.ok.nd,by simp,?_⟩
  intro a ha b hb
  simp at hb
  subst hb
  exact fun z=>hm (z ▸ ha)
 .have e1:(W1.h++[d])[n]?=some d':=e1
  have e2:(W1.m++[p])[n]?=some a:=e2
  by_cases hlt:n<W1.h.length
  .rw [getElem?_append_left hlt] at e1
   rw [getElem?_append_left (by rw [l1.ok.len];exact hlt)] at e2
   exact (l1.ok.at_ n d' a e1 e2).mono (Same.refl _) pre (fun _ f1=>f1) id
  .rw [getElem?_append_right (by omega)] at e1
   rw [getElem?_append_right (by rw [l1.ok.len];omega)] at e2
   rw [l1.ok.len] at e2
   cases hk:n-W1.h.length with
   | zero =>
    rw [hk] at e1 e2
    simp at e1 e2
    subst e1 e2
    exact at_.mono (Same.refl _) pre (fun _ f1=>f1) id
   | succ k=>rw [hk] at e1;simp at e1
 .have z:b∈W1.m++[p]:=z
  rcases List.mem_append.mp z with z|z
  .exact l1.mn b z n
  .simp at z;subst z;exact hn
 .show (W1.m++[p])[W1.h.length]?=some p
  rw [<- l1.ok.len];simp
def yhL (k:Nat) (f:Fn) (a:XA):XE:=fun ρ h=>ob (a ρ h) fun xs h1=>ob (f (.loc h1.length::xs) (h1++[.ins k [] []])) fun x h2=>match x with|.non=>some (.loc h1.length,h2)|_=>none
theorem yrl {k:Nat}{f:Fn}{aa:XA}{ρ:PSt}{h:AH}:yhL k f aa ρ h=ob (aa ρ h) fun xs h1=>ob (f (.loc h1.length::xs) (h1++[.ins k [] []])) fun x h2=>match x with|.non=>some (.loc h1.length,h2)|_=>none:=id rfl
theorem yrm {n k:Nat}{f:Fn}{ex:XK}{t:TA}{e:XA}(a:ylc K t e) (hn:∀ ρ h xs h',e ρ h=some (xs,h')->xs.length=n):ybE K (ytm (K.A k) (spE K (n+1) f) [] ex t) (yhL k f e):=by
 intro W0 W ρ σ Q z h' g e' q
 obtain ⟨xs,h1,e1,e2⟩:=yg e'
 obtain ⟨y,h2,e3,e4⟩:=yg e2
 refine a W0 W ρ σ _ xs h1 g e1 fun vs W1 w1 l1 r1=>?_
 subst w1
 intro x dx hx hd hne
 rw [append_nil]
 have a1:Le K W1 (yeQ W1 dx (.own x)):=ycr l1.ok hd
 have hx1:(yeQ W1 dx (.own x)).H x=none:=(yw hne.symm).trans hx
 have a2:Le K (yeQ W1 dx (.own x)) (yeQ (yeQ W1 dx (.own x)) x (.ins (K.A k) dx [])):=ycr a1.ok hx1
 obtain ⟨a3,r3⟩:=yEm (d:=.ins k [] []) (a1.trans a2) (l1.ok.out hx) hx ⟨l1.ok.ff hx,dx,[],yn,rfl,rfl⟩
 refine ⟨⟨W1.F,upd (upd W1.H dx (.own x)) x (.ins (K.A k) dx []),W1.m++[x],W1.h++[Nd.ins k [] []]⟩,.loc W1.h.length::xs,y,h2,rfl,a3.ok,⟨_,_,rfl,r3,a3.repL r1⟩,by rw [length_cons,hn _ _ _ _ e1],e3,fun v W' w' l' r'=>?_⟩
 split at e4
 .cases e4
  exact ⟨r',q (.ref x) W' w' (l1.trans (a3.trans l')) (l'.rep r3)⟩
 .cases e4
noncomputable def yFM:List V->Hp->VK->Prop:=fun xs H Q=>∃ (p:Addr) (bs:List Bool),xs=[.ref p]/\H p=some (.lst (bs.map V.bl))/\Q (.bl (bs.any id)) H
def yuu:List PV->AH->Option (PV×AH):=fun xs h=>match xs with|[x]=>(match ybw x h with|some ys=>(match yhD ys with|some ns=>some (.bl (ns.any id),h)|none=>none)|none=>none)|_=>none
theorem yBc:yhz K yFM yuu:=by
 intro W xs vs Q z h' w r e q
 unfold yuu at e
 split at e
 .split at e
  .rename_i ys hy
   split at e
   .rename_i ns hn
    cases e
    obtain ⟨v,rfl,rx⟩:=ymC r
    obtain ⟨a,us,rfl,hs,rs⟩:=yK w hy rx
    have:=yhE hn rs
    subst this
    exact ⟨a,ns,rfl,hs,q _ W rfl (.refl w) rfl⟩
   .cases e
  .cases e
 .cases e
def yuv (n:Nat) (e:XE) (inn:PV->PSt):Nat->Nat->AH->Option (List PV×AH)
 | 0,i,h=>match h[n]? with|some (.lst xs)=>if xs.length=i then some ([],h) else none|_=>none
 | k+1,i,h=>match h[n]? with
  | some (.lst xs)=>(match xs[i]? with|some x=>ob (e (inn x) h) fun y h1=>ob (yuv n e inn k (i+1) h1) fun ys h2=>some (y::ys,h2)|none=>none)
  | _=>none
def ylr (e:XE) (ix:List Nat) (el:XE):XO:=fun ρ h=>ob (e ρ h) fun x h1=>match x with
 | .loc n=>(match h1[n]? with|some (.lst xs)=>if xs.length<=10000 then ob (yuv n el (yfb ix ρ) xs.length 0 h1) fun ys h2=>some (.lst ys,h2) else none|_=>none)
 | _=>none
theorem yrn {ta tb:TE}{ea eb:XE}(ix:List Nat) (a:ybE K ta ea) (b:ybE K tb eb):ylQ K (yoR (ytd K.K ta) ix tb) (ylr ea ix eb):=by
 intro W0 W ρ σ Q d h' gd e q
 obtain ⟨x,h1,e1,f1⟩:=yg e
 refine a W0 W ρ σ _ x h1 gd e1 fun v W1 w1 l1 r1=>?_
 subst w1
 split at f1
 .rename_i n
  split at f1
  .rename_i xs hn
   split at f1
   .rename_i hlen
    obtain ⟨zs,h2,e2,f2⟩:=yg f1
    cases f2
    obtain ⟨p,ev,hm,hf,us,hp,rs⟩:=l1.ok.loc hn r1
    refine ⟨p,ev,⟨us,SqL.of hp⟩,fun D hD=>?_⟩
    have nm:=l1.ok.out hD
    have nf:=l1.ok.ff hD
    refine ⟨fun i m H=>m=xs.length-i/\i<=xs.length/\∃ W' acc done rest,W'.H=H/\Le K W1 W'/\D∉W'.m/\W'.F D=none/\H D=some (.lst acc)/\ycq K W' done acc/\done.length=i/\zs=done++rest/\yuv n eb (yfb ix ρ) (xs.length-i) i W'.h=some (rest,h'),⟨_,rfl,zero_le _,yeQ W1 D (.lst []),[],[],zs,rfl,ycr l1.ok hD,nm,nf,yn,rfl,rfl,rfl,e2⟩,?_⟩
    rintro i m _ ⟨rfl,hi,W',acc,done,rest,rfl,l,n1,n2,hd,rd,ld,ez,f⟩
    have hm':W'.m[n]?=some p:=ydz l.pre hm
    by_cases hlt:i<xs.length
    .obtain ⟨k,hk⟩:∃ k,xs.length-i=k+1:=⟨xs.length-i-1,by omega⟩
     rw [hk] at f
     unfold yuv at f
     split at f
     .rename_i ys hy
      split at f
      .rename_i z hz
       obtain ⟨p',ev',hm2,hf',vs,hp',rs'⟩:=l.ok.loc hy (v:=.ref p) ⟨p,rfl,hm'⟩
       cases ev'
       obtain ⟨y,h3,k1,f3⟩:=yg f
       obtain ⟨ys',h4,k2,f4⟩:=yg f3
       cases f4
       obtain ⟨vz,hv1,hv2⟩:=rs'.get hz
       refine .inr ⟨⟨vs,vz,SqL.of hp',hv1⟩,fun v H2 hy=>?_⟩
       obtain ⟨rfl,hx⟩:=hy
       have hx:=hx vs (SqL.of hp')
       rw [hv1] at hx
       cases hx
       refine b W' W' _ _ _ y h3 (yjM gd (l1.trans l) ix hv2) k1 fun w W2 w2 l2 r2=>?_
       have nm2:D∉W2.m:=fun z=>by rw [l2.mn D z n1] at hd;cases hd
       have nf2:W2.F D=none:=l2.new D _ hd n1 n2
       refine ⟨acc,l2.keep _ _ hd n1,?_,xs.length-(i+1),by omega,rfl,hlt,ysR W2 D (.lst (acc++[w])),acc++[w],done++[y],ys',rfl,yjL (l.trans l2) nm2 nf2 hD,nm2,nf2,yn,(l2.repL rd).snoc r2,by simp [ld],by simp [ez],?_⟩
       .rw [rd.len,ld];exact big (by omega)
       .show yuv n eb (yfb ix ρ) (xs.length-(i+1)) (i+1) W2.h=some (ys',h')
        rw [w2,show xs.length-(i+1)=k by omega];exact k2
      .cases f
     .cases f
    .have ei:i=xs.length:=by omega
     subst ei
     rw [sub_self] at f
     unfold yuv at f
     split at f
     .rename_i ys hy
      obtain ⟨p',ev',hm2,hf',vs,hp',rs'⟩:=l.ok.loc hy (v:=.ref p) ⟨p,rfl,hm'⟩
      cases ev'
      split at f
      .rename_i hyl
       cases f
       refine .inl ⟨⟨vs,SqL.of hp',by rw [rs'.len,hyl];exact Nat.le_refl _⟩,?_⟩
       rw [append_nil] at ez
       subst ez
       exact q D W' rfl (l1.trans l) n1 (l1.fresh hD) (fun z=>by cases z) ⟨n2,acc,hd,rd⟩
      .cases f
     .cases f
   .cases f1
  .cases f1
 .cases f1
end PX
namespace PX
open PySem L2
variable {K:Ck}
def yjc (e:XE) (ix:List Nat) (el:XE):XO:=fun ρ h=>ob (e ρ h) fun x h1=>match x with
 | .loc n=>(match h1[n]? with|some (.dct ks xs)=>if ks.length<=10000 then ob (yhA el (yfb ix ρ) (ks.map ygY) (h1.set n (.fz ks xs))) fun ys h2=>some (.lst ys,h2.set n (.dct ks xs)) else none|_=>none)
 | _=>none
def ywa (NF:Addr->Prop) (te:TE) (ix:List Nat) (tb:TE):TE:=fun σ H Q=>yoR (yAY NF te) ix tb σ H fun v H'=>∃ a ob kvs,NF a/\H' a=some (.frz ob (.dK kvs))/\Q v (upd H' a (.dK kvs))
theorem yro {NF:Addr->Prop}{ta tb:TE}{ea eb:XE}(ix:List Nat) (a:ybE K ta ea) (b:ybE K tb eb):ylQ K (ywa NF ta ix tb) (yjc ea ix eb):=by
 intro W0 W ρ σ Q d h' gd e q
 obtain ⟨x,h1,e1,f1⟩:=yg e
 refine a W0 W ρ σ _ x h1 gd e1 fun v W1 w1 l1 r1=>?_
 subst w1
 split at f1
 .rename_i n
  split at f1
  .rename_i ks xs hn
   split at f1
   .rename_i hlen
    obtain ⟨zs,h2,e2,f2⟩:=yg f1
    cases f2
    have hz:=ymA e2
    rw [length_map] at hz
    obtain ⟨p,ev,hm,hf,us,hp,hl,rs⟩:=l1.ok.loc hn r1
    have hzl:(ks.zip us).length=ks.length:=by rw [length_zip,hl,Nat.min_self]
    refine ⟨p,ks.zip us,ev,hp,fun ob nf=>?_⟩
    have lf:Le K W1 (yjP W1 n p (.frz ob (.dK (ks.zip us))) (.fz ks xs)):=yet l1.ok hn hm hf ⟨hf,ob,us,yn,hl,rs⟩
    have hnl:n<W1.h.length:=(List.getElem?_eq_some_iff.mp hn).1
    have still:∀ W',Lf K (yjP W1 n p (.frz ob (.dK (ks.zip us))) (.fz ks xs)) W'->W'.h[n]?=some (.fz ks xs)/\W'.H p=some (.frz ob (.dK (ks.zip us))):=fun W' l=>by
     obtain ⟨z1,z2⟩:=l.fz n ks xs (getElem?_set_self hnl)
     exact ⟨z1,(z2 p hm).trans yn⟩
    have l2:=l1.trans lf
    generalize hW2:yjP W1 n p (.frz ob (.dK (ks.zip us))) (.fz ks xs)=W2 at *
    have hW2h:W2.h=W1.h.set n (.fz ks xs):=by rw [<- hW2];rfl
    have hW2H:W2.H=upd W1.H p (.frz ob (.dK (ks.zip us))):=by rw [<- hW2];rfl
    have hW2m:W2.m=W1.m:=by rw [<- hW2];rfl
    rw [<- hW2h] at e2
    rw [<- hW2H]
    intro D hD
    have nm:=lf.ok.out hD
    have nf2:=lf.ok.ff hD
    refine ⟨fun i m H=>m=ks.length-i/\i<=ks.length/\∃ W' acc done rest,W'.H=H/\Le K W2 W'/\D∉W'.m/\W'.F D=none/\H D=some (.lst acc)/\ycq K W' done acc/\done.length=i/\zs=done++rest/\yhA eb (yfb ix ρ) ((ks.map ygY).drop i) W'.h=some (rest,h2),⟨_,rfl,zero_le _,yeQ W2 D (.lst []),[],[],zs,rfl,ycr lf.ok hD,nm,nf2,yn,rfl,rfl,rfl,by rw [List.drop_zero];exact e2⟩,?_⟩
    rintro i m _ ⟨rfl,hi,W',acc,done,rest,rfl,l,n1,n2,hd,rd,ld,ez,f⟩
    obtain ⟨z1,z2⟩:=still W' l.lf
    by_cases hlt:i<ks.length
    .have hlt':i<(ks.map ygY).length:=by rw [length_map];exact hlt
     rw [List.drop_eq_getElem_cons hlt'] at f
     obtain ⟨y,h3,k1,f3⟩:=yg f
     obtain ⟨ys,h4,k2,f4⟩:=yg f3
     cases f4
     refine .inr ⟨⟨by rw [hzl];exact hlt,z2⟩,fun v H2 hy=>?_⟩
     obtain ⟨rfl,kv,y1,rfl⟩:=hy
     obtain ⟨y4,y5⟩:=List.getElem?_eq_some_iff.mp y1
     have ek:(ks.map ygY)[i]=ygY kv.1:=by rw [List.getElem_map,<- y5,List.getElem_zip]
     rw [ek] at k1
     refine b W' W' _ _ _ y h3 (yjM gd (l2.trans l) ix (ylo kv.1)) k1 fun w W3 w3 l3 r3=>?_
     have nm3:D∉W3.m:=fun z=>by rw [l3.mn D z n1] at hd;cases hd
     have nf3:W3.F D=none:=l3.new D _ hd n1 n2
     refine ⟨acc,l3.keep _ _ hd n1,?_,ks.length-(i+1),by omega,rfl,hlt,ysR W3 D (.lst (acc++[w])),acc++[w],done++[y],ys,rfl,yjL (l.trans l3) nm3 nf3 hD,nm3,nf3,yn,(l3.repL rd).snoc r3,by simp [ld],by simp [ez],?_⟩
     .rw [rd.len,ld];exact big (by omega)
     .show yhA eb (yfb ix ρ) ((ks.map ygY).drop (i+1)) W3.h=some (ys,h2)
      rw [w3];exact k2
    .have ei:i=ks.length:=by omega
     subst ei
     rw [List.drop_of_length_le (by rw [length_map];exact Nat.le_refl _)] at f
     cases f
     refine .inl ⟨⟨hzl.symm,z2⟩,p,ob,ks.zip us,nf,z2,?_⟩
     rw [append_nil] at ez
     subst ez
     have hm':W'.m[n]?=some p:=ydz l.pre (by rw [hW2m];exact hm)
     obtain ⟨z3,_⟩:=l.ok.at_ n _ p z1 hm'
     have at':NdAt K W'.F (upd W'.H p (.dK (ks.zip us))) W'.m (.dct ks xs) p:=⟨z3,us,yn,hl,RepL.mono (lf.fs.trans l.fs) (lf.pre.trans l.pre) _ _ rs⟩
     have nW:=yvY l1 hn (fun _ _ z=>by cases z)
     have hDp:D≠p:=fun z=>by subst z;exact n1 (mem_of_getElem? hm')
     refine q D (yjP W' n p (.dK (ks.zip us)) (.dct ks xs)) rfl (yrh (l2.trans l) z1 hm' z3 at' nW) n1 (l2.fresh hD) (fun z=>by cases z) ⟨n2,acc,(yw hDp).trans hd,rd⟩
   .cases f1
  .cases f1
 .cases f1
end PX
namespace PX
open PySem L2
variable {K:Ck}
def ymM (ks:List Key) (xs:List PV):List PV:=yzo (ks.map ygY) xs
def yFN (a:Addr) (ob:Obj) (kvs:List (Key×V)):It :=
 ⟨fun i H=>i<kvs.length/\H a=some (.frz ob (.dK kvs)),fun i H x H'=>∃ p kv,H p=none/\x=.ref p/\H'=upd H p (.tup [kV kv.1,kv.2])/\kvs[i]?=some kv,fun i H=>i=kvs.length/\H a=some (.frz ob (.dK kvs))⟩
def yrp (Kf:PySem.W.Frag) (NF:Addr->Prop) (te:TE):TI:=fun σ H R=>yCs Kf "dict" yqY te σ H fun x H1=>∃ r a kvs,x=.ref r/\H1 r=some (yeY r a)/\H1 a=some (.dK kvs)/\∀ ob,NF a->R (yFN a ob kvs) (upd H1 a (.frz ob (.dK kvs)))
def yBd (Kf:PySem.W.Frag) (NF:Addr->Prop) (te:TE) (g:TG) (t:TS):TS:=fun D=>yCq (yrp Kf NF te) g t (yAZ NF D)
section
variable {ta:TE}{ea:XE}{t:TS}{s:XS}
theorem yrq {J:It}{xs:List PV}{g:TG}{y:XG}(b:yqy K g y) (c:yeX K t s) {W0 W1:Wd}{ρ:PSt}{σ:St}{D:Ends}{o:Out}{h':AH}(gd:Good K W0 W1 ρ σ) (q1:Ends.Ok K W0 W1 D h' o) (J1:yEl K W1 J xs) (f1:ygb y s xs ρ W1.h=some (o,h')) :
  ∃ Z:Nat->Nat->St->Hp->Prop,(∃ m,Z 0 m σ W1.H)/\∀ i m σ H,Z i m σ H ->
   (J.stop i H/\D.nx σ H)\/(J.go i H/\∃ N:St->Hp->Prop,(∀ σ' H',N σ' H'->∃ m',m'<m/\Z (i+1) m' σ' H')/\∀ x H',J.yld i H x H'->g x σ H' fun σ2 H2=>t { D with nx:=N,ct:=N,bk:=D.nx } σ2 H2):=by
 refine ⟨fun i m σ H=>m=xs.length-i/\i<=xs.length/\∃ W' ρ',W'.H=H/\Lf K W1 W'/\Good K W0 W' ρ' σ/\ygb y s (xs.drop i) ρ' W'.h=some (o,h'),⟨_,rfl,zero_le _,W1,ρ,rfl,.refl,gd,by simpa using f1⟩,?_⟩
 rintro i m σ _ ⟨rfl,hi,W',ρ',rfl,l,g',f⟩
 by_cases hlt:i<xs.length
 .rw [List.drop_eq_getElem_cons hlt] at f
  obtain ⟨ρ1,k1,f⟩:=Option.bind_eq_some_iff.mp f
  obtain ⟨o1,h2,k2,f3⟩:=yg f
  refine .inr ⟨J1.go i W' l g'.ok hlt,fun σ2 H2=>i+1<=xs.length/\∃ W2 ρ2,W2.H=H2/\Lf K W1 W2/\Good K W0 W2 ρ2 σ2/\ygb y s (xs.drop (i+1)) ρ2 W2.h=some (o,h'),fun σ2 H2 ⟨n1,n2⟩=>⟨xs.length-(i+1),by omega,rfl,n1,n2⟩,fun v H2 hy=>?_⟩
  obtain ⟨Wz,rfl,eh,lz,x,hx,rx⟩:=J1.yld i W' v H2 l g'.ok hlt hy
  rw [List.getElem?_eq_getElem hlt] at hx
  cases hx
  rw [<- eh] at k2
  refine b W0 Wz ρ' ρ1 σ _ v _ (g'.step lz) rx k1 fun σ2 g2=>?_
  refine c W0 Wz ρ1 σ2 _ o1 h2 g2 k2 ?_
  have l:=l.trans lz.lf
  cases o1 with
  | nx ρ2=>exact fun W2 σ3 w2 l2 g3=>⟨hlt,W2,ρ2,rfl,l.trans l2,g3,by rw [w2];exact f3⟩
  | ct ρ2=>exact fun W2 σ3 w2 l2 g3=>⟨hlt,W2,ρ2,rfl,l.trans l2,g3,by rw [w2];exact f3⟩
  | bk ρ2=>cases f3;exact fun W2 σ3 w2 l2 g3=>q1 W2 σ3 w2 (l.trans l2) g3
  | rt x=>cases f3;exact q1
 .have ei:i=xs.length:=by omega
  subst ei
  refine .inl ⟨J1.stop W' l g'.ok,?_⟩
  rw [List.drop_length] at f
  cases f
  exact q1 W' σ rfl l g'
def yrr (e:XE) (g:XG) (s:XS):XS:=fun ρ h=>ob (e ρ h) fun x h1=>match x with
 | .loc n=>(match h1[n]? with
  | some (.dct ks xs)=>ob (ygb g s (ymM ks xs) ρ (h1.set n (.fz ks xs))) fun o h2=>(match o with|.nx ρ'=>some (.nx ρ',h2.set n (.dct ks xs))|_=>none)
  | _=>none)
 | _=>none
theorem yuw {NF:Addr->Prop}{g:TG}{y:XG}(a:ybE K ta ea) (b:yqy K g y) (c:yeX K t s):yeX K (yBd K.K NF ta g t) (yrr ea y s):=by
 intro W0 W ρ σ D o h' gd e q
 obtain ⟨x,h1,e1,f1⟩:=yg e
 refine a W0 W ρ σ _ x h1 gd e1 fun v W2 w1 l2 r2=>?_
 subst w1
 split at f1
 .rename_i n
  split at f1
  .rename_i ks xs hn
   obtain ⟨o1,h2,e2,f2⟩:=yg f1
   split at f2
   .rename_i ρ'
    cases f2
    refine ⟨yrb (x:=.loc n) (ks:=ks) (xs:=xs) l2.ok (show (match W2.h[n]? with|some (Nd.dct ks xs)=>some (ks,xs)|_=>none)=some (ks,xs) by rw [hn]) r2,?_⟩
    obtain ⟨p,ev,hm,hf,us,hp,hl,rs⟩:=l2.ok.loc hn r2
    subst ev
    refine ⟨p,_,rfl,rfl,hp,fun r hr=>?_⟩
    have lv:=ycr (o:=yeY r p) l2.ok hr
    have hpr:p≠r:=yZ hp hr
    refine ⟨r,p,ks.zip us,rfl,yn,(yw hpr).trans hp,fun ob nf=>?_⟩
    have l1:=l2.trans lv
    have hp:(yeQ W2 r (yeY r p)).H p=some (.dK (ks.zip us)):=(yw hpr).trans hp
    have rs:=RepL.mono lv.fs lv.pre _ _ rs
    have hf:(yeQ W2 r (yeY r p)).F p=none:=hf
    have hn:(yeQ W2 r (yeY r p)).h[n]?=some (.dct ks xs):=hn
    have hm:(yeQ W2 r (yeY r p)).m[n]?=some p:=hm
    have e2:ygb y s (ymM ks xs) ρ ((yeQ W2 r (yeY r p)).h.set n (.fz ks xs))=some (.nx ρ',h2):=e2
    show _
    change ∃ Z:Nat->Nat->St->Hp->Prop,(∃ m,Z 0 m σ (upd (yeQ W2 r (yeY r p)).H p (.frz ob (.dK (ks.zip us)))))/\_
    generalize yeQ W2 r (yeY r p)=W1 at l1 lv hp rs hf hn hm e2 ⊢
    have hz:(ks.zip us).length=ks.length:=by rw [length_zip,hl,Nat.min_self]
    have hxl:(ks.map ygY).length=xs.length:=by rw [length_map,<- rs.len];omega
    have lf:Le K W1 (yjP W1 n p (.frz ob (.dK (ks.zip us))) (.fz ks xs)):=yet l1.ok hn hm hf ⟨hf,ob,us,yn,hl,rs⟩
    have hnl:n<W1.h.length:=(List.getElem?_eq_some_iff.mp hn).1
    have still:∀ W',Lf K (yjP W1 n p (.frz ob (.dK (ks.zip us))) (.fz ks xs)) W'->W'.h[n]?=some (.fz ks xs)/\W'.H p=some (.frz ob (.dK (ks.zip us))):=fun W' l=>by
     obtain ⟨z1,z2⟩:=l.fz n ks xs (getElem?_set_self hnl)
     exact ⟨z1,(z2 p hm).trans yn⟩
    have il:(ymM ks xs).length=ks.length:=by unfold ymM;rw [ynX hxl,length_map]
    refine yrq b c (gd.step (l1.trans lf)) (o:=.nx ρ') (h':=h2) ?_ (xs:=ymM ks xs) ⟨fun i W' l w hi=>?_,fun i W' v' H2 l w hi hy=>?_,fun W' l w=>?_⟩ e2
    .intro W' σ' w' l' g'
     obtain ⟨z1,z2⟩:=still W' l'
     have hm':W'.m[n]?=some p:=ydz l'.pre hm
     obtain ⟨z3,_⟩:=g'.ok.at_ n _ p z1 hm'
     have at':NdAt K W'.F (upd W'.H p (.dK (ks.zip us))) W'.m (.dct ks xs) p:=⟨z3,us,yn,hl,RepL.mono l'.fs l'.pre _ _ rs⟩
     refine ⟨p,ob,ks.zip us,nf,z2,?_⟩
     have nW:=yvY l1 hn (fun _ _ z=>by cases z)
     refine q (yjP W' n p (.dK (ks.zip us)) (.dct ks xs)) σ' (by rw [<- w'];rfl) ⟨l1.fs.trans (lf.fs.trans l'.fs),l1.pre.trans (lf.pre.trans l'.pre),?_⟩ (g'.thaw z1 hm' z3 at' ?_)
     .exact yrg g'.ok (l1.pre.trans (lf.pre.trans l'.pre)) (l1.lf.trans (lf.lf.trans l')).fz hm' nW
     .exact fun ks' xs' z=>nW _ _ (gd.le.fz n ks' xs' z).1
    .rw [il] at hi
     exact ⟨by rw [hz];exact hi,(still W' l).2⟩
    .obtain ⟨b,kv,hb,rfl,rfl,hk⟩:=hy
     have l2:=yjK (o:=.tup [kV kv.1,kv.2]) w hb
     obtain ⟨z4,z5⟩:=List.getElem?_eq_some_iff.mp hk
     have hik:i<ks.length:=by rw [hz] at z4;exact z4
     have hiu:i<us.length:=by omega
     have ek:kv=(ks[i],us[i]):=by rw [<- z5,List.getElem_zip]
     subst ek
     obtain ⟨x',hx,rx⟩:=rs.get' (List.getElem?_eq_getElem hiu)
     exact ⟨ytB W' b (.tup [kV ks[i],us[i]]),rfl,rfl,l2,.tup [ygY ks[i],x'],ynW (by rw [getElem?_map,List.getElem?_eq_getElem hik];rfl) hx,b,[kV ks[i],us[i]],rfl,.inl yn,_,[us[i]],rfl,ylo _,_,[],rfl,l2.rep (l.rep (lf.rep rx)),rfl⟩
    .exact ⟨by rw [il,hz],(still W' l).2⟩
   .cases f2
  .cases f1
 .cases f1
end
end PX
namespace L2
open PySem PySem.Spec PyProof.Rows PX
def PTs (X:Cx) (cs:List Expr) (t:TT):Prop :=
 ∀ (pins:List (Addr×Obj)) (s:Shared) (σ:St) (H:Hp) (Q:Bool->Hp->Prop),Inv X pins σ H s->t σ H Q->wpAny (model X.prog X.w) X.A (forIn cs true fun c r=>if r=true then do let ok <- isTrue c X.env (eval c X.env);pure (ForInStep.yield ok) else pure (ForInStep.yield r)) (TP X pins σ Q) X.xe s
def yCC:TT:=fun _ H Q=>Q true H
theorem PTs.nil {X:Cx}:PTs X [] yCC:=fun p s σ H Q I q=>wpAny_tests_nil ⟨H,I,q⟩
theorem yrs {wi:TI}{ix:List Nat}{te:TE}:yln wi ix yCC te=yoR wi ix te:=rfl
theorem yxV {X:Cx}{e:Expr}{wi:TI}{ix:List Nat}{te:TE}(h:PE X e (yln wi ix yCC te)):PE X e (yoR wi ix te):=yrs ▸ h
theorem yEn {X:Cx}{e:Stmt}{wi:TI}{ix:List Nat}{te:TE}{g:TG}(h:PS X e (yvz (yln wi ix yCC te) g)):PS X e (yvz (yoR wi ix te) g):=yrs ▸ h
theorem yjW {X:Cx}{elt iter:Expr}{cs:List Expr}{tc:TT}{x:Str}{px:Pos}{scope:Scope}{cpos:Pos}{wi:TI}{te:TE}(ix:List Nat) (fr:List Str) (hc:X.calm=true) (hi:PI X (.Name x px) iter wi) (hfr:FrOk X scope ix fr)
  (he:∀ (cl:List (Str×Addr)) (C:Addr) (s₃:Shared) (H₃:Hp) (fp:List Addr) (pins:List (Addr×Obj)),PE (cxC X scope cl C (x::fr) s₃ H₃ fp pins) elt te)
  (hq:∀ (cl:List (Str×Addr)) (C:Addr) (s₃:Shared) (H₃:Hp) (fp:List Addr) (pins:List (Addr×Obj)),PTs (cxC X scope cl C (x::fr) s₃ H₃ fp pins) cs tc)
  (hnd:(x::fr).Nodup) (hkind:scope.kind=.function) (hcell:∀ y∈scope.names,y.2≠.cell)
  (hnames:∀ y∈scope.names,y.2=.local->scope.names.lookup y.1=some .local) (hfree0:∀ y∈scope.names,y.2=.free->y.1∈fr) (hx:scope.names.lookup x=some .local)
  (hs:∀ v,foldedSetIterable iter X.env v=pure v):PE X (.ListComp elt [⟨.Name x px,iter,cs,0⟩] scope cpos) (yln wi ix tc te):=by
 intro pins s σ H Q I h
 have hfn:X.env.scope.kind=.function:=I.ok.kind
 have hfree:∀ y∈scope.names,y.2=.free->X.env.kindOf y.1=some .cell/\scope.names.lookup y.1=some .free:=fun y hy e=>by
  obtain ⟨j,hj,ej⟩:=getElem_of_mem (hfree0 y hy e)
  obtain ⟨i,_,_,h3,h4⟩:=hfr.get (j:=j) (y:=y.1) (by rw [List.getElem?_eq_getElem hj,ej])
  exact ⟨h4,h3⟩
 obtain ⟨cl,ecl,hcl1,hcl2⟩:=ydr (env:=X.env) scope.names [] fun n hn=>I.ok.has n (.inl (hfree _ hn rfl).1)
 have hclos:closureFor scope X.env=pure cl:=by
  unfold closureFor
  have:(forIn scope.names ([]:List (Str×Addr)) (fun (x:Str×NameKind) (r:List (Str×Addr))=>if (x.2 == NameKind.free)=true then do let c <- cellOf X.env x.1;pure (ForInStep.yield ((x.1,c)::r)) else pure (ForInStep.yield r)):Sem (List (Str×Addr)))=pure cl:=ecl
  first
   | exact (by simpa using congrArg (· >>= fun r=>pure r) this)
   | (rw [show (pure cl:Sem (List (Str×Addr)))=(pure cl >>= fun r=>pure r) from rfl,<- this];rfl)
 have hcle:∀ y c,cl.lookup y=some c->X.env.cells.lookup y=some c/\(y,NameKind.free)∈scope.names:=fun y c e=>by
  by_cases hy:(y,NameKind.free)∈scope.names
  .exact ⟨by rw [<- hcl1 y hy];exact e,hy⟩
  .rw [hcl2 y hy] at e;simp at e
 rw [eval_ListComp]
 refine wpAny_comprehension_free (use:=none) rfl hs hclos hkind hnames ?_
 refine thn (hi pins s σ H _ I h) fun v s1 h1=>thn h1 fun itv s2 h2=>?_
 obtain ⟨it,fp,tn,J,H2,e,I2,T,st2,f2,q2⟩:=h2
 subst e
 refine wpAny_newObj_type ?_
 generalize hs3:({ s2 with heap:=s2.heap.push { cls:=.type "list",dict:=none,data:=.seq ([]:List Value).toArray } }:Shared)=s3
 generalize hD:s2.heap.objs.size=D
 have hDn:H2 D=none:=by rw [<- hD];exact I2.hok.fresh (Nat.le_refl _)
 have I3:Inv X pins σ (upd H2 D (.lst [])) s3:=by
  rw [<- hs3,<- hD]
  exact I2.lnew (t':=s2.toks) (ys:=[]) (its:=[]) .nil (zero_le _)
 have k3:∀ b o,s2.heap.get? b=some o->s3.heap.get? b=some o:=fun b o e=>by rw [<- hs3];exact Heap.get?_push_of_some _ e
 have st3:tn 0 s3.heap:=T.keep _ _ _ st2 fun b _ o e=>k3 b o e
 have fne:∀ b∈fp,b≠D:=fun b hb=>by
  obtain ⟨o,e,_⟩:=T.obj _ _ st2 b hb
  rw [<- hD]
  exact ne_of_lt (Heap.lt_size e)
 have f3:∀ b∈fp,yoH X pins (upd H2 D (.lst [])) b:=fun b hb=>⟨by rw [yw (fne b hb)];exact (f2 b hb).1,(f2 b hb).2⟩
 have q3:=q2 D hDn
 generalize upd H2 D (.lst [])=H3 at I3 f3 q3
 obtain ⟨W,⟨m0,w0⟩,turn⟩:=q3
 refine wpAny_newFunctionEnv hcell (by intro y hy;simp at hy) (fun h4 hns hsb=>?_) hkind
 try dsimp only at hns hsb ⊢
 generalize hC:s3.heap.objs.size=C at hns hsb ⊢
 have k4:∀ b o,s3.heap.get? b=some o->h4.get? b=some o:=fun b o e=>(hsb.2 b (by rw [<- hC];exact ne_of_lt (Heap.lt_size e))).trans (Heap.get?_push_of_some _ e)
 have Cne:∀ b o,s3.heap.get? b=some o->b≠C:=fun b o e=>by rw [<- hC];exact ne_of_lt (Heap.lt_size e)
 have stk:=I3.stkSub
 have pinF:∀ p∈X.pn++pins,p.1∉frs X.stack:=fun p hp z=>by
  obtain ⟨_,_,n1,n2,_⟩:=I3.pin p hp
  rcases mem_cons.mp (stk _ z) with z|z
  .exact n1 z
  .exact n2 z
 have okC:(cxC X scope cl C (x::fr) s3 H3 fp pins).Ok:=by
  refine ⟨I3.ok.mod,by show (relabel scope X.env).kind=_;exact hkind,I3.ok.glob,I3.ok.blt,le_of_eq hC,fun y z c h1 h2=>I3.ok.inj y z c (hcle y c h1).1 (hcle z c h2).1,fun y hy=>?_,fun y c hf _=>(by cases hf),I3.ok.hd,I3.ok.frames,.inl rfl,fun b hb=>⟨?_,fun y c e z=>?_⟩,I3.bs,?_,fun b o e hb=>?_,fun b hb z=>?_,I3.stack,I3.stkFree⟩
  .have hy:((relabel scope X.env).names.lookup y=some .cell)\/((relabel scope X.env).names.lookup y=some .free):=hy
   rw [show (relabel scope X.env).names.lookup y=_ from yci y scope.names] at hy
   cases e:scope.names.lookup y with
   | none=>rw [e] at hy;simp at hy
   | some k =>
    have hm:(y,k)∈scope.names:=PySem.mem_of_lookup e
    have hkf:k=.free:=by
     rw [e] at hy
     cases k<;>simp at hy ⊢
     exact absurd rfl (hcell _ hm)
    subst hkf
    obtain ⟨c,hc'⟩:=I3.ok.has y (.inl (hfree _ hm rfl).1)
    exact ⟨c,by show cl.lookup y=_;rw [hcl1 y hm];exact hc'⟩
  .obtain ⟨o,e,_⟩:=T.obj _ _ st3 b hb
   exact Cne b o e
  .exact (f3 b hb).2.2.2.2.1 y c (hcle y c e).1 z
  .exact Nat.le_trans I3.ok.bsz I3.sz
  .rcases (f3 b hb).2.2.2.1 with z|z
   .exact I3.ok.noex b o e z
   .exact absurd (lt_of_lt_of_le (Heap.lt_size e) (Nat.le_trans I3.ok.bsz z)) (lt_irrefl _)
  .rcases mem_cons.mp (stk _ z) with z|z
   .exact (f3 b hb).2.1 z
   .exact (f3 b hb).2.2.1 z
 have inn:∀ v,(inner ix σ v)=some v::ix.map fun i=>(σ[i]?).getD none:=fun _=>rfl
 have I4:Inv (cxC X scope cl C (x::fr) s3 H3 fp pins) [] (none::ix.map fun i=>(σ[i]?).getD none) H3 { s3 with heap:=h4,toks:=s3.toks+([]:List (Str×Value)).length }:=by
  refine ⟨okC,rfl,I3.bare,Un.kept k4,⟨_,hns,fun j y v e1 e2 e3=>?_⟩,fun y c e=>?_,I3.hok.fresh (le_of_eq hC),fun y c e=>I3.freeC y c (hcle y c e).1,fun p hp=>?_,I3.hok.kept k4,?_⟩
  .match j,e1,e2 with
   | 0,e1,e2=>simp at e2
   | j+1,e1,e2 =>
    obtain ⟨i,hi1,hi2,hi3,hi4⟩:=hfr.get (j:=j) (y:=y) (by have e1':(x::fr)[j+1]?=some y:=e1;simpa using e1')
    have e2':σ[i]?=some (some v):=by
     have e2:(ix.map fun i=>(σ[i]?).getD none)[j]?=some (some v):=by simpa using e2
     rw [getElem?_map,hi1] at e2
     simp at e2
     cases z:σ[i]? with
     | none=>rw [z] at e2;simp at e2
     | some o=>rw [z] at e2;simp at e2;rw [e2]
    obtain ⟨m,_,hl⟩:=I3.loc
    obtain ⟨u,r,l⟩:=hl i y v hi2 e2' (.inr (.inl hi4))
    refine ⟨u,r,?_⟩
    rcases l with ⟨k,_⟩|⟨k,c,ec,z⟩
    .rw [hi4] at k;cases k
    .have hm:(y,NameKind.free)∈scope.names:=PySem.mem_of_lookup hi3
     refine .inr ⟨.inl ?_,c,by show cl.lookup y=_;rw [hcl1 y hm];exact ec,?_⟩
     .show (relabel scope X.env).names.lookup y=_
      rw [show (relabel scope X.env).names.lookup y=_ from yci y scope.names,hi3]
      simp [hfn,hi4]
     .obtain ⟨o,ho,hd⟩:=z
      exact ⟨o,k4 _ _ ho,hd⟩
  .obtain ⟨v,o,ho,hd⟩:=I3.cell y c (hcle y c e).1
   exact ⟨v,o,k4 _ _ ho,hd⟩
  .have hp:p∈X.pn++pins:=by simpa [cxC] using hp
   obtain ⟨e,n,ne,nf,d⟩:=I3.pin p hp
   exact ⟨k4 _ _ e,n,Cne _ _ e,pinF p hp,d⟩
  .show (none::ix.map fun i=>(σ[i]?).getD none).length=(x::fr).length
   rw [length_cons,length_cons,length_map,hfr.len]
 have st4:tn 0 h4:=T.keep _ _ _ st3 fun b _ o e=>k4 b o e
 have f4:∀ b∈fp,b≠C/\b∉frs X.stack/\(∀ y c,cl.lookup y=some c->c≠b)/\∀ p∈(X.pn++pins)++([]:List (Addr×Obj)),p.1≠b:=fun b hb=>by
  obtain ⟨o,e,_⟩:=T.obj _ _ st3 b hb
  refine ⟨Cne b o e,fun z=>?_,fun y c e=>(f3 b hb).2.2.2.2.1 y c (hcle y c e).1,fun p hp=>(f3 b hb).2.2.2.2.2 p (by simpa using hp)⟩
  rcases mem_cons.mp (stk _ z) with z|z
  .exact (f3 b hb).2.1 z
  .exact (f3 b hb).2.2.1 z
 have stat:∀ {H':Hp},(∀ b∈fp,H' b=none)->∀ b∈fp,yoH (cxC X scope cl C (x::fr) s3 H3 fp pins) [] H' b:=fun hn b hb=>⟨hn b hb,(f4 b hb).1,(f4 b hb).2.1,.inl hb,(f4 b hb).2.2.1,(f4 b hb).2.2.2⟩
 have fin:∀ {σ':St}{H':Hp}{s':Shared},Inv (cxC X scope cl C (x::fr) s3 H3 fp pins) [] σ' H' s'->Q (.ref D) H'->compPost (model X.prog X.w) X.A X.xe none (EP X pins σ Q) (.ref D) C (.ok .next) s':=fun {σ' H' s'} I' q'=>by
  obtain ⟨m,hn,_⟩:=I'.loc
  refine ⟨m,hn,fun h' sb=>⟨.ref D,H',?_,rfl,q'⟩⟩
  have hCn:H' C=none:=I'.free
  have same:∀ b,b≠C->h'.get? b=s'.heap.get? b:=fun b hb=>sb.2 b hb
  have U:=I'.base
  have U':Un (frs X.stack) fp H3 H' s3.heap h':=by
   refine ⟨fun b o e n h1 h2=>?_,fun b o e n h1 h2=>?_,U.free,fun b o e h2=>?_,U.tups,U.frzs,U.tbls⟩
   .rw [same b (Cne b o e)];exact U.keep b o e n h1 h2
   .rw [same b (Cne b o e)];exact U.slot b o e n h1 h2
   .rw [same b (Cne b o e)];exact U.there b o e h2
  refine I3.call' (s':={ s' with heap:=h' }) (by show s'.os=s3.os;exact I'.os) U' ?_ I'.bare fun b hb=>⟨(f3 b hb).2.2.2.1,(f3 b hb).2.1,(f3 b hb).2.2.2.2.1,(f3 b hb).2.2.2.2.2⟩
  intro b ob e
  refine (I'.hok b ob e).stay (fun c w' hc q=>?_) (fun _ q=>q) fun _ _ q=>q
  show h'.get? c=_
  rw [same c ?_]
  .exact q
  rintro rfl
  rcases hc with rfl|hc
  .rw [hCn] at e;cases e
  .rw [hCn] at hc;cases hc
 have loop:∀ s5:Shared,s5={ s3 with heap:=h4,toks:=s3.toks+([]:List (Str×Value)).length } ->
   codeAny (model X.prog X.w) X.A (.compLoop (.ListComp elt [⟨.Name x px,iter,cs,0⟩] scope cpos) 0 (.ref it) (.ref D) (compEnvC scope cl C X.env)) (compPost (model X.prog X.w) X.A X.xe none (EP X pins σ Q) (.ref D) C) s5:=by
  rintro s5 rfl
  refine codeAny_loop rfl (fun n s'=>∃ i o H',Inv (cxC X scope cl C (x::fr) s3 H3 fp pins) [] (o::ix.map fun i=>(σ[i]?).getD none) H' s'/\tn i s'.heap/\(∀ b∈fp,H' b=none)/\W i n H') ?_ m0 ⟨0,none,H3,I4,st4,fun b hb=>(f3 b hb).1,w0⟩
  rintro n s6 ⟨i,o,H6,I6,st6,fr6,w6⟩
  show wpAny _ _ ((compTurn (.ListComp elt [⟨.Name x px,iter,cs,0⟩] scope cpos) 0 (.ref it) (.ref D) (compEnvC scope cl C X.env)).onRaise (fun x=>do noteFrame x (compEnvC scope cl C X.env);theTreesLotGoes x)) _ _ s6
  refine wpAny_noted ?_
  rw [compTurn_list]
  rcases turn i n H6 w6 with ⟨stop,qn⟩|⟨go,step⟩
  .refine wpAny_bind (wpAny_standAt (wpAny_bind (thn (T.done (cxC X scope cl C (x::fr) s3 H3 fp pins) rfl rfl rfl hc i [] s6 _ H6 _ I6 (stat fr6) st6 stop) fun r s7 ⟨hr,I7⟩=>?_)))
   subst hr
   exact wpAny_pure (fin I7 qn)
  .refine wpAny_bind (wpAny_standAt (wpAny_bind (thn (T.item (cxC X scope cl C (x::fr) s3 H3 fp pins) rfl rfl rfl hc i [] s6 _ H6 _ I6 (stat fr6) st6 go) fun r s7 ⟨u,hr,h7⟩=>?_)))
   subst hr
   refine wpAny_bind (thn h7 fun _ s8 ⟨y,H8,I8,r8,y8,st8,fr8⟩=>?_)
   have I8':=I8.pinned (stat fr8) (T.obj _ _ st8)
   have hx':Loc (cxC X scope cl C (x::fr) s3 H3 fp pins).env.scope x:=.inl (lookup_relabel_local hx)
   refine wpAny_bind (wpAny_mono (yjt (X:=cxC X scope cl C (x::fr) s3 H3 fp pins) (i:=0) (x:=x) (pos:=px) hnd rfl hx' (.inr (lookup_relabel_local hx)) _ s8 _ H8 y u (fun σ9 H9=>σ9=inner ix σ y/\H9=H8) I8' r8 ⟨rfl,rfl⟩) (fun _ s9 ⟨σ9,H9,I9,e9,e9'⟩=>?_) fun _ _ f=>f.elim)
   subst e9 e9'
   refine wpAny_bind (wpAny_mono (hq cl C s3 H3 fp pins _ s9 _ _ _ I9 (step y _ y8)) (fun kb s9b hkb=>?_) fun _ _ f=>f.elim)
   obtain ⟨H9b,I9b,q9b⟩:=hkb
   cases kb with
   | false =>
    rw [if_neg (by decide)] at q9b
    obtain ⟨m',hm',w10⟩:=q9b
    refine wpAny_pure ⟨rfl,m',hm',i+1,some y,_,I9b.unpinned,T.keep _ _ _ st8 fun b hb o e=>(I9b.pin (b,o) (mem_append_right _ (mem_append_right _ (ybC hb e)))).1,fun b hb=>?_,w10⟩
    obtain ⟨o,e,d⟩:=T.obj _ _ st8 b hb
    exact (I9b.pin (b,o) (mem_append_right _ (mem_append_right _ (ybC hb e)))).2.1
   | true =>
   rw [if_pos rfl] at q9b
   refine wpAny_bind (wpAny_bind (wpAny_mono (he cl C s3 H3 fp pins _ s9b _ _ _ I9b q9b) (fun v s10 ⟨z,H10,I10,r10,acc,a10,l10,m',hm',w10⟩=>?_) fun _ _ f=>f.elim))
   refine wpAny_bind (wpAny_mono (ydK (X:=cxC X scope cl C (x::fr) s3 H3 fp pins) _ s10 _ H10 (.ref D) [z] (.ref D) [v] (fun _ H11=>H11=upd H10 D (.lst (acc++[z]))) I10 rfl (.cons r10 .nil) ⟨D,acc,z,rfl,rfl,a10,l10,rfl⟩) (fun _ s11 ⟨_,H11,I11,_,e11⟩=>?_) fun _ _ f=>f.elim)
   subst e11
   refine wpAny_pure (wpAny_pure ⟨rfl,m',hm',i+1,some y,_,I11.unpinned,T.keep _ _ _ st8 fun b hb o e=>(I11.pin (b,o) (mem_append_right _ (mem_append_right _ (ybC hb e)))).1,fun b hb=>?_,w10⟩)
   obtain ⟨o,e,d⟩:=T.obj _ _ st8 b hb
   exact (I11.pin (b,o) (mem_append_right _ (mem_append_right _ (ybC hb e)))).2.1
 exact codeAny_compStart_list (loop _ rfl) (T.self X.A 0 _ _ _ st4 (loop _ rfl))
theorem yux {y:Str}{py spos:Pos}{iy:Nat}{X:Cx}{elt iter:Expr}{cs:List Expr}{tc:TT}{x:Str}{px:Pos}{scope:Scope}{cpos:Pos}{wi:TI}{te:TE}(ix:List Nat) (fr:List Str) (hc:X.calm=true) (hi:PI X (.Name x px) iter wi) (hfr:FrOk X scope ix fr)
  (he:∀ (cl:List (Str×Addr)) (C:Addr) (s₃:Shared) (H₃:Hp) (fp:List Addr) (pins:List (Addr×Obj)),PE (cxC X scope cl C (x::fr) s₃ H₃ fp pins) elt te)
  (hq:∀ (cl:List (Str×Addr)) (C:Addr) (s₃:Shared) (H₃:Hp) (fp:List Addr) (pins:List (Addr×Obj)),PTs (cxC X scope cl C (x::fr) s₃ H₃ fp pins) cs tc)
  (hnd:(x::fr).Nodup) (hkind:scope.kind=.function) (hcell:∀ y∈scope.names,y.2≠.cell)
  (hnames:∀ y∈scope.names,y.2=.local->scope.names.lookup y.1=some .local) (hfree0:∀ y∈scope.names,y.2=.free->y.1∈fr) (hx:scope.names.lookup x=some .local)
  (hs:∀ v,foldedSetIterable iter X.env v=pure v)
  (hN:X.N.Nodup) (hyi:X.N[iy]?=some y) (hyx:Loc X.env.scope y) (hyf:X.fn y=true\/X.env.scope.names.lookup y=some .local) (hsw:swapsWith (.ListComp elt [⟨.Name x px,iter,cs,0⟩] scope cpos) (some (.Name y py)) spos.line X.env=pure true) :
  PS X (.Assign [.Name y py] (.ListComp elt [⟨.Name x px,iter,cs,0⟩] scope cpos) spos) (yvz (yln wi ix tc te) (yoG iy)):=by
 intro pins s σ H D0 I h
 have hfn:X.env.scope.kind=.function:=I.ok.kind
 have hfree:∀ y∈scope.names,y.2=.free->X.env.kindOf y.1=some .cell/\scope.names.lookup y.1=some .free:=fun y hy e=>by
  obtain ⟨j,hj,ej⟩:=getElem_of_mem (hfree0 y hy e)
  obtain ⟨i,_,_,h3,h4⟩:=hfr.get (j:=j) (y:=y.1) (by rw [List.getElem?_eq_getElem hj,ej])
  exact ⟨h4,h3⟩
 obtain ⟨cl,ecl,hcl1,hcl2⟩:=ydr (env:=X.env) scope.names [] fun n hn=>I.ok.has n (.inl (hfree _ hn rfl).1)
 have hclos:closureFor scope X.env=pure cl:=by
  unfold closureFor
  have:(forIn scope.names ([]:List (Str×Addr)) (fun (x:Str×NameKind) (r:List (Str×Addr))=>if (x.2 == NameKind.free)=true then do let c <- cellOf X.env x.1;pure (ForInStep.yield ((x.1,c)::r)) else pure (ForInStep.yield r)):Sem (List (Str×Addr)))=pure cl:=ecl
  first
   | exact (by simpa using congrArg (· >>= fun r=>pure r) this)
   | (rw [show (pure cl:Sem (List (Str×Addr)))=(pure cl >>= fun r=>pure r) from rfl,<- this];rfl)
 have hcle:∀ y c,cl.lookup y=some c->X.env.cells.lookup y=some c/\(y,NameKind.free)∈scope.names:=fun y c e=>by
  by_cases hy:(y,NameKind.free)∈scope.names
  .exact ⟨by rw [<- hcl1 y hy];exact e,hy⟩
  .rw [hcl2 y hy] at e;simp at e
 rw [exec_Assign_Name_used _ _ _ _ hsw]
 refine wpAny_bind (wpAny_standAt (wpAny_bind ?_))
 show wpAny _ X.A (do let _ <- comprehension (.ListComp elt [⟨.Name x px,iter,cs,0⟩] scope cpos) scope X.env _ (newList []) false (eval iter X.env) (some (assign (.Name y py) X.env))) _ _ s
 refine wpAny_bind (wpAny_mono (wpAny_comprehension_free (use:=some (assign (.Name y py) X.env)) (Q:=fun _ s'=>SP X pins D0 .next s') rfl hs hclos hkind hnames ?_) (fun _ s' hq=>wpAny_pure (wpAny_pure hq)) fun _ _ e=>e)
 refine thn (hi pins s σ H _ I h) fun v s1 h1=>thn h1 fun itv s2 h2=>?_
 obtain ⟨it,fp,tn,J,H2,e,I2,T,st2,f2,q2⟩:=h2
 subst e
 refine wpAny_newObj_type ?_
 generalize hs3:({ s2 with heap:=s2.heap.push { cls:=.type "list",dict:=none,data:=.seq ([]:List Value).toArray } }:Shared)=s3
 generalize hD:s2.heap.objs.size=D
 have hDn:H2 D=none:=by rw [<- hD];exact I2.hok.fresh (Nat.le_refl _)
 have I3:Inv X pins σ (upd H2 D (.lst [])) s3:=by
  rw [<- hs3,<- hD]
  exact I2.lnew (t':=s2.toks) (ys:=[]) (its:=[]) .nil (zero_le _)
 have k3:∀ b o,s2.heap.get? b=some o->s3.heap.get? b=some o:=fun b o e=>by rw [<- hs3];exact Heap.get?_push_of_some _ e
 have st3:tn 0 s3.heap:=T.keep _ _ _ st2 fun b _ o e=>k3 b o e
 have fne:∀ b∈fp,b≠D:=fun b hb=>by
  obtain ⟨o,e,_⟩:=T.obj _ _ st2 b hb
  rw [<- hD]
  exact ne_of_lt (Heap.lt_size e)
 have f3:∀ b∈fp,yoH X pins (upd H2 D (.lst [])) b:=fun b hb=>⟨by rw [yw (fne b hb)];exact (f2 b hb).1,(f2 b hb).2⟩
 have q3:=q2 D hDn
 generalize upd H2 D (.lst [])=H3 at I3 f3 q3
 obtain ⟨W,⟨m0,w0⟩,turn⟩:=q3
 refine wpAny_newFunctionEnv hcell (by intro y hy;simp at hy) (fun h4 hns hsb=>?_) hkind
 try dsimp only at hns hsb ⊢
 generalize hC:s3.heap.objs.size=C at hns hsb ⊢
 have k4:∀ b o,s3.heap.get? b=some o->h4.get? b=some o:=fun b o e=>(hsb.2 b (by rw [<- hC];exact ne_of_lt (Heap.lt_size e))).trans (Heap.get?_push_of_some _ e)
 have Cne:∀ b o,s3.heap.get? b=some o->b≠C:=fun b o e=>by rw [<- hC];exact ne_of_lt (Heap.lt_size e)
 have stk:=I3.stkSub
 have pinF:∀ p∈X.pn++pins,p.1∉frs X.stack:=fun p hp z=>by
  obtain ⟨_,_,n1,n2,_⟩:=I3.pin p hp
  rcases mem_cons.mp (stk _ z) with z|z
  .exact n1 z
  .exact n2 z
 have okC:(cxC X scope cl C (x::fr) s3 H3 fp pins).Ok:=by
  refine ⟨I3.ok.mod,by show (relabel scope X.env).kind=_;exact hkind,I3.ok.glob,I3.ok.blt,le_of_eq hC,fun y z c h1 h2=>I3.ok.inj y z c (hcle y c h1).1 (hcle z c h2).1,fun y hy=>?_,fun y c hf _=>(by cases hf),I3.ok.hd,I3.ok.frames,.inl rfl,fun b hb=>⟨?_,fun y c e z=>?_⟩,I3.bs,?_,fun b o e hb=>?_,fun b hb z=>?_,I3.stack,I3.stkFree⟩
  .have hy:((relabel scope X.env).names.lookup y=some .cell)\/((relabel scope X.env).names.lookup y=some .free):=hy
   rw [show (relabel scope X.env).names.lookup y=_ from yci y scope.names] at hy
   cases e:scope.names.lookup y with
   | none=>rw [e] at hy;simp at hy
   | some k =>
    have hm:(y,k)∈scope.names:=PySem.mem_of_lookup e
    have hkf:k=.free:=by
     rw [e] at hy
     cases k<;>simp at hy ⊢
     exact absurd rfl (hcell _ hm)
    subst hkf
    obtain ⟨c,hc'⟩:=I3.ok.has y (.inl (hfree _ hm rfl).1)
    exact ⟨c,by show cl.lookup y=_;rw [hcl1 y hm];exact hc'⟩
  .obtain ⟨o,e,_⟩:=T.obj _ _ st3 b hb
   exact Cne b o e
  .exact (f3 b hb).2.2.2.2.1 y c (hcle y c e).1 z
  .exact Nat.le_trans I3.ok.bsz I3.sz
  .rcases (f3 b hb).2.2.2.1 with z|z
   .exact I3.ok.noex b o e z
   .exact absurd (lt_of_lt_of_le (Heap.lt_size e) (Nat.le_trans I3.ok.bsz z)) (lt_irrefl _)
  .rcases mem_cons.mp (stk _ z) with z|z
   .exact (f3 b hb).2.1 z
   .exact (f3 b hb).2.2.1 z
 have inn:∀ v,(inner ix σ v)=some v::ix.map fun i=>(σ[i]?).getD none:=fun _=>rfl
 have I4:Inv (cxC X scope cl C (x::fr) s3 H3 fp pins) [] (none::ix.map fun i=>(σ[i]?).getD none) H3 { s3 with heap:=h4,toks:=s3.toks+([]:List (Str×Value)).length }:=by
  refine ⟨okC,rfl,I3.bare,Un.kept k4,⟨_,hns,fun j y v e1 e2 e3=>?_⟩,fun y c e=>?_,I3.hok.fresh (le_of_eq hC),fun y c e=>I3.freeC y c (hcle y c e).1,fun p hp=>?_,I3.hok.kept k4,?_⟩
  .match j,e1,e2 with
   | 0,e1,e2=>simp at e2
   | j+1,e1,e2 =>
    obtain ⟨i,hi1,hi2,hi3,hi4⟩:=hfr.get (j:=j) (y:=y) (by have e1':(x::fr)[j+1]?=some y:=e1;simpa using e1')
    have e2':σ[i]?=some (some v):=by
     have e2:(ix.map fun i=>(σ[i]?).getD none)[j]?=some (some v):=by simpa using e2
     rw [getElem?_map,hi1] at e2
     simp at e2
     cases z:σ[i]? with
     | none=>rw [z] at e2;simp at e2
     | some o=>rw [z] at e2;simp at e2;rw [e2]
    obtain ⟨m,_,hl⟩:=I3.loc
    obtain ⟨u,r,l⟩:=hl i y v hi2 e2' (.inr (.inl hi4))
    refine ⟨u,r,?_⟩
    rcases l with ⟨k,_⟩|⟨k,c,ec,z⟩
    .rw [hi4] at k;cases k
    .have hm:(y,NameKind.free)∈scope.names:=PySem.mem_of_lookup hi3
     refine .inr ⟨.inl ?_,c,by show cl.lookup y=_;rw [hcl1 y hm];exact ec,?_⟩
     .show (relabel scope X.env).names.lookup y=_
      rw [show (relabel scope X.env).names.lookup y=_ from yci y scope.names,hi3]
      simp [hfn,hi4]
     .obtain ⟨o,ho,hd⟩:=z
      exact ⟨o,k4 _ _ ho,hd⟩
  .obtain ⟨v,o,ho,hd⟩:=I3.cell y c (hcle y c e).1
   exact ⟨v,o,k4 _ _ ho,hd⟩
  .have hp:p∈X.pn++pins:=by simpa [cxC] using hp
   obtain ⟨e,n,ne,nf,d⟩:=I3.pin p hp
   exact ⟨k4 _ _ e,n,Cne _ _ e,pinF p hp,d⟩
  .show (none::ix.map fun i=>(σ[i]?).getD none).length=(x::fr).length
   rw [length_cons,length_cons,length_map,hfr.len]
 have st4:tn 0 h4:=T.keep _ _ _ st3 fun b _ o e=>k4 b o e
 have f4:∀ b∈fp,b≠C/\b∉frs X.stack/\(∀ y c,cl.lookup y=some c->c≠b)/\∀ p∈(X.pn++pins)++([]:List (Addr×Obj)),p.1≠b:=fun b hb=>by
  obtain ⟨o,e,_⟩:=T.obj _ _ st3 b hb
  refine ⟨Cne b o e,fun z=>?_,fun y c e=>(f3 b hb).2.2.2.2.1 y c (hcle y c e).1,fun p hp=>(f3 b hb).2.2.2.2.2 p (by simpa using hp)⟩
  rcases mem_cons.mp (stk _ z) with z|z
  .exact (f3 b hb).2.1 z
  .exact (f3 b hb).2.2.1 z
 have stat:∀ {H':Hp},(∀ b∈fp,H' b=none)->∀ b∈fp,yoH (cxC X scope cl C (x::fr) s3 H3 fp pins) [] H' b:=fun hn b hb=>⟨hn b hb,(f4 b hb).1,(f4 b hb).2.1,.inl hb,(f4 b hb).2.2.1,(f4 b hb).2.2.2⟩
 have fin:∀ {σ':St}{H':Hp}{s':Shared},Inv (cxC X scope cl C (x::fr) s3 H3 fp pins) [] σ' H' s'->yoG iy (.ref D) σ H' D0.nx->compPost (model X.prog X.w) X.A X.xe (some (assign (.Name y py) X.env)) (fun _ s'=>SP X pins D0 .next s') (.ref D) C (.ok .next) s':=fun {σ' H' s'} I' q'=>by
  obtain ⟨m,hn,_⟩:=I'.loc
  have hCn:H' C=none:=I'.free
  have U:=I'.base
  have U':Un (frs X.stack) fp H3 H' s3.heap s'.heap:=⟨U.keep,U.slot,U.free,U.there,U.tups,U.frzs,U.tbls⟩
  have IX:Inv X pins σ H' s':=I3.call' (s':=s') (by show s'.os=s3.os;exact I'.os) U' I'.hok I'.bare fun b hb=>⟨(f3 b hb).2.2.2.1,(f3 b hb).2.1,(f3 b hb).2.2.2.2.1,(f3 b hb).2.2.2.2.2⟩
  have hCf:yoH X pins H' C:=I3.fpOk (le_of_eq hC) hCn
  obtain ⟨o,es,ep,eo,r1,r2,r3⟩:=hn
  have IP:=IX.pinned (fp:=[C]) (fun b hb=>by have e:b=C:=(by simpa using hb);subst e;exact hCf) (fun b hb=>by have e:b=C:=(by simpa using hb);subst e;exact ⟨o,eo,fun v z=>by rw [r1] at z;cases z⟩)
  refine thn (yjt hN hyi hyx hyf _ s' σ H' (.ref D) (.ref D) D0.nx IP rfl q') fun _ s2 ⟨σ2,H2',I2',q2'⟩=>?_
  have pc:=I2'.pin (C,o) (mem_append_right _ (mem_append_right _ (ybC (by simp) eo)))
  exact ⟨m,⟨o,es,ep,pc.1,r1,r2,r3⟩,fun h' sb=>⟨σ2,H2',I2'.unpinned.turned (t':=s2.toks) (fun b ob hb e=>(sb.2 b hb).trans e) pc.2.1 hCf.2.1 hCf.2.2.2.1 hCf.2.2.2.2.1 hCf.2.2.2.2.2,q2'⟩⟩
 have loop:∀ s5:Shared,s5={ s3 with heap:=h4,toks:=s3.toks+([]:List (Str×Value)).length } ->
   codeAny (model X.prog X.w) X.A (.compLoop (.ListComp elt [⟨.Name x px,iter,cs,0⟩] scope cpos) 0 (.ref it) (.ref D) (compEnvC scope cl C X.env)) (compPost (model X.prog X.w) X.A X.xe (some (assign (.Name y py) X.env)) (fun _ s'=>SP X pins D0 .next s') (.ref D) C) s5:=by
  rintro s5 rfl
  refine codeAny_loop rfl (fun n s'=>∃ i o H',Inv (cxC X scope cl C (x::fr) s3 H3 fp pins) [] (o::ix.map fun i=>(σ[i]?).getD none) H' s'/\tn i s'.heap/\(∀ b∈fp,H' b=none)/\W i n H') ?_ m0 ⟨0,none,H3,I4,st4,fun b hb=>(f3 b hb).1,w0⟩
  rintro n s6 ⟨i,o,H6,I6,st6,fr6,w6⟩
  show wpAny _ _ ((compTurn (.ListComp elt [⟨.Name x px,iter,cs,0⟩] scope cpos) 0 (.ref it) (.ref D) (compEnvC scope cl C X.env)).onRaise (fun x=>do noteFrame x (compEnvC scope cl C X.env);theTreesLotGoes x)) _ _ s6
  refine wpAny_noted ?_
  rw [compTurn_list]
  rcases turn i n H6 w6 with ⟨stop,qn⟩|⟨go,step⟩
  .refine wpAny_bind (wpAny_standAt (wpAny_bind (thn (T.done (cxC X scope cl C (x::fr) s3 H3 fp pins) rfl rfl rfl hc i [] s6 _ H6 _ I6 (stat fr6) st6 stop) fun r s7 ⟨hr,I7⟩=>?_)))
   subst hr
   exact wpAny_pure (fin I7 qn)
  .refine wpAny_bind (wpAny_standAt (wpAny_bind (thn (T.item (cxC X scope cl C (x::fr) s3 H3 fp pins) rfl rfl rfl hc i [] s6 _ H6 _ I6 (stat fr6) st6 go) fun r s7 ⟨u,hr,h7⟩=>?_)))
   subst hr
   refine wpAny_bind (thn h7 fun _ s8 ⟨y,H8,I8,r8,y8,st8,fr8⟩=>?_)
   have I8':=I8.pinned (stat fr8) (T.obj _ _ st8)
   have hx':Loc (cxC X scope cl C (x::fr) s3 H3 fp pins).env.scope x:=.inl (lookup_relabel_local hx)
   refine wpAny_bind (wpAny_mono (yjt (X:=cxC X scope cl C (x::fr) s3 H3 fp pins) (i:=0) (x:=x) (pos:=px) hnd rfl hx' (.inr (lookup_relabel_local hx)) _ s8 _ H8 y u (fun σ9 H9=>σ9=inner ix σ y/\H9=H8) I8' r8 ⟨rfl,rfl⟩) (fun _ s9 ⟨σ9,H9,I9,e9,e9'⟩=>?_) fun _ _ f=>f.elim)
   subst e9 e9'
   refine wpAny_bind (wpAny_mono (hq cl C s3 H3 fp pins _ s9 _ _ _ I9 (step y _ y8)) (fun kb s9b hkb=>?_) fun _ _ f=>f.elim)
   obtain ⟨H9b,I9b,q9b⟩:=hkb
   cases kb with
   | false =>
    rw [if_neg (by decide)] at q9b
    obtain ⟨m',hm',w10⟩:=q9b
    refine wpAny_pure ⟨rfl,m',hm',i+1,some y,_,I9b.unpinned,T.keep _ _ _ st8 fun b hb o e=>(I9b.pin (b,o) (mem_append_right _ (mem_append_right _ (ybC hb e)))).1,fun b hb=>?_,w10⟩
    obtain ⟨o,e,d⟩:=T.obj _ _ st8 b hb
    exact (I9b.pin (b,o) (mem_append_right _ (mem_append_right _ (ybC hb e)))).2.1
   | true =>
   rw [if_pos rfl] at q9b
   refine wpAny_bind (wpAny_bind (wpAny_mono (he cl C s3 H3 fp pins _ s9b _ _ _ I9b q9b) (fun v s10 ⟨z,H10,I10,r10,acc,a10,l10,m',hm',w10⟩=>?_) fun _ _ f=>f.elim))
   refine wpAny_bind (wpAny_mono (ydK (X:=cxC X scope cl C (x::fr) s3 H3 fp pins) _ s10 _ H10 (.ref D) [z] (.ref D) [v] (fun _ H11=>H11=upd H10 D (.lst (acc++[z]))) I10 rfl (.cons r10 .nil) ⟨D,acc,z,rfl,rfl,a10,l10,rfl⟩) (fun _ s11 ⟨_,H11,I11,_,e11⟩=>?_) fun _ _ f=>f.elim)
   subst e11
   refine wpAny_pure (wpAny_pure ⟨rfl,m',hm',i+1,some y,_,I11.unpinned,T.keep _ _ _ st8 fun b hb o e=>(I11.pin (b,o) (mem_append_right _ (mem_append_right _ (ybC hb e)))).1,fun b hb=>?_,w10⟩)
   obtain ⟨o,e,d⟩:=T.obj _ _ st8 b hb
   exact (I11.pin (b,o) (mem_append_right _ (mem_append_right _ (ybC hb e)))).2.1
 exact codeAny_compStart_list (loop _ rfl) (T.self X.A 0 _ _ _ st4 (loop _ rfl))
end L2
namespace PX
open PySem L2 PySem.Spec PyProof.Rows
section
variable (K:Ck)
noncomputable def cE (x:XE):TE:=fun σ H Q=>∃ (W0 W:Wd) (ρ:PSt) (y:PV) (h':AH),W.H=H/\Good K W0 W ρ σ/\x ρ W.h=some (y,h')/\∀ v W',W'.h=h'->Le K W W'->yco K W' y v->Q v W'.H
def cO (x:XO):TE:=fun σ H Q=>∃ (W0 W:Wd) (ρ:PSt) (d:Nd) (h':AH),W.H=H/\Good K W0 W ρ σ/\x ρ W.h=some (d,h')/\∀ p W',W'.h=h'->Le K W W'->p∉W'.m->W.H p=none->d≠.dead->NdAt K W'.F W'.H W'.m d p->Q (.ref p) W'.H
noncomputable def cT (x:XT):TT:=fun σ H Q=>∃ (W0 W:Wd) (ρ:PSt) (y:Bool) (h':AH),W.H=H/\Good K W0 W ρ σ/\x ρ W.h=some (y,h')/\∀ W',W'.h=h'->Le K W W'->Q y W'.H
noncomputable def cA (x:XA):TA:=fun σ H Q=>∃ (W0 W:Wd) (ρ:PSt) (y:List PV) (h':AH),W.H=H/\Good K W0 W ρ σ/\x ρ W.h=some (y,h')/\∀ v W',W'.h=h'->Le K W W'->ycq K W' y v->Q v W'.H
noncomputable def cP (x:PSt->AH->Option (Option Int×AH)):TO:=fun σ H Q=>∃ (W0 W:Wd) (ρ:PSt) (y:Option Int) (h':AH),W.H=H/\Good K W0 W ρ σ/\x ρ W.h=some (y,h')/\∀ W',W'.h=h'->Le K W W'->Q y W'.H
noncomputable def cI (x:XA):TI:=fun σ H R=>∃ (W0 W:Wd) (ρ:PSt) (y:List PV) (h':AH),W.H=H/\Good K W0 W ρ σ/\x ρ W.h=some (y,h')/\∀ J W',W'.h=h'->Le K W W'->yCt K W' J y->R J W'.H
noncomputable def cG (y:XG):TG:=fun v σ H Q=>∃ (W0 W:Wd) (ρ ρ':PSt) (x:PV),W.H=H/\Good K W0 W ρ σ/\yco K W x v/\y x ρ=some ρ'/\∀ σ',Good K W0 W ρ' σ'->Q σ' W.H
noncomputable def cGs (y:XGs):TGs:=fun v σ H Q=>∃ (W0 W:Wd) (ρ ρ':PSt) (x:List PV),W.H=H/\Good K W0 W ρ σ/\ycq K W x v/\y x ρ=some ρ'/\∀ σ',Good K W0 W ρ' σ'->Q σ' W.H
def cS (s:XS):TS:=fun D σ H=>∃ (W0 W:Wd) (ρ:PSt) (o:Out) (h':AH),W.H=H/\Good K W0 W ρ σ/\s ρ W.h=some (o,h')/\Ends.Ok K W0 W D h' o
noncomputable def cF (s:XS):TS:=fun D σ H=>∃ (W0 W:Wd) (ρ ρ':PSt) (h':AH),W.H=H/\Good K W0 W ρ σ/\s ρ W.h=some (.nx ρ',h')/\∀ W',W'.h=h'->Lf K W W'->Good K W0 W' ρ' σ->D.nx σ W'.H
end
section
variable {K:Ck}
theorem sE {x:XE}:ybE K (cE K x) x:=fun W0 W ρ σ Q y h' g e q=>⟨W0,W,ρ,y,h',rfl,g,e,q⟩
theorem sO {x:XO}:ylQ K (cO K x) x:=fun W0 W ρ σ Q y h' g e q=>⟨W0,W,ρ,y,h',rfl,g,e,q⟩
theorem sT {x:XT}:ylP K (cT K x) x:=fun W0 W ρ σ Q y h' g e q=>⟨W0,W,ρ,y,h',rfl,g,e,q⟩
theorem sA {x:XA}:ylc K (cA K x) x:=fun W0 W ρ σ Q y h' g e q=>⟨W0,W,ρ,y,h',rfl,g,e,q⟩
theorem sP {x}:yvM K (cP K x) x:=fun W0 W ρ σ Q y h' g e q=>⟨W0,W,ρ,y,h',rfl,g,e,q⟩
theorem sI {x:XA}:yvN K (cI K x) x:=fun W0 W ρ σ Q y h' g e q=>⟨W0,W,ρ,y,h',rfl,g,e,q⟩
theorem sG {y:XG}:yqy K (cG K y) y:=fun W0 W ρ ρ' σ x v Q g r e q=>⟨W0,W,ρ,ρ',x,rfl,g,r,e,q⟩
theorem sGs {y:XGs}:yoY K (cGs K y) y:=fun W0 W ρ ρ' σ x v Q g r e q=>⟨W0,W,ρ,ρ',x,rfl,g,r,e,q⟩
theorem sS {s:XS}:yeX K (cS K s) s:=fun W0 W ρ σ D o h' g e q=>⟨W0,W,ρ,o,h',rfl,g,e,q⟩
theorem sF {s:XS}:ysT K (cF K s) s:=fun W0 W ρ ρ' σ D h' g e q=>⟨W0,W,ρ,ρ',h',rfl,g,e,q⟩
end
abbrev ckX (X:Cx) (A:Nat->Addr):Ck:=⟨X.K,A⟩
structure ZE (X:Cx) (A:Nat->Addr) (e:Expr) (x:XE):Prop where of:PE X e (cE (ckX X A) x)
structure ZO (X:Cx) (A:Nat->Addr) (e:Expr) (x:XO):Prop where of:PE X e (cO (ckX X A) x)
structure ZT (X:Cx) (A:Nat->Addr) (e:Expr) (x:XT):Prop where of:PT X e (cT (ckX X A) x)
structure ZW (X:Cx) (A:Nat->Addr) (e:Expr) (x:XT):Prop where of:PW X e (cT (ckX X A) x)
structure ZA (X:Cx) (A:Nat->Addr) (e:List Expr) (n:Nat) (x:XA):Prop where
 of:PA X e (cA (ckX X A) x)
 len:∀ ρ h xs h',x ρ h=some (xs,h')->xs.length=n
structure ZP (X:Cx) (A:Nat->Addr) (e:Option Expr) (x:PSt->AH->Option (Option Int×AH)):Prop where of:PO X e (cP (ckX X A) x)
structure ZI (X:Cx) (A:Nat->Addr) (tg e:Expr) (x:XA):Prop where of:PI X tg e (cI (ckX X A) x)
structure ZG (X:Cx) (A:Nat->Addr) (e:Expr) (y:XG):Prop where of:PG X e (cG (ckX X A) y)
structure ZGs (X:Cx) (A:Nat->Addr) (e:List Expr) (y:XGs):Prop where of:PGs X e (cGs (ckX X A) y)
structure ZS (X:Cx) (A:Nat->Addr) (e:Stmt) (s:XS):Prop where of:PS X e (cS (ckX X A) s)
structure ZSs (X:Cx) (A:Nat->Addr) (e:List Stmt) (s:XS):Prop where of:PSs X e (cS (ckX X A) s)
structure ZF (X:Cx) (A:Nat->Addr) (e:Stmt) (s:XS):Prop where of:PS X e (cF (ckX X A) s)
structure ZFs (X:Cx) (A:Nat->Addr) (e:List Stmt) (s:XS):Prop where of:PSs X e (cF (ckX X A) s)
section
variable {X:Cx}{A:Nat->Addr}{e:Expr}{es:List Expr}
theorem wE {t:TE}{x:XE}(p:PE X e t) (s:ybE (ckX X A) t x):ZE X A e x:=⟨fun pins st σ H Q I ⟨W0,W,ρ,y,h',eh,g,ex,q⟩=>by subst eh;exact p pins st σ _ Q I (s W0 W ρ σ Q y h' g ex q)⟩
theorem wO {t:TE}{x:XO}(p:PE X e t) (s:ylQ (ckX X A) t x):ZO X A e x:=⟨fun pins st σ H Q I ⟨W0,W,ρ,y,h',eh,g,ex,q⟩=>by subst eh;exact p pins st σ _ Q I (s W0 W ρ σ Q y h' g ex q)⟩
theorem wT {t:TT}{x:XT}(p:PT X e t) (s:ylP (ckX X A) t x):ZT X A e x:=⟨fun pins st σ H Q I ⟨W0,W,ρ,y,h',eh,g,ex,q⟩=>by subst eh;exact p pins st σ _ Q I (s W0 W ρ σ Q y h' g ex q)⟩
theorem wW {t:TT}{x:XT}(p:PW X e t) (s:ylP (ckX X A) t x):ZW X A e x:=⟨fun wh pins st σ H Q I ⟨W0,W,ρ,y,h',eh,g,ex,q⟩=>by subst eh;exact p wh pins st σ _ Q I (s W0 W ρ σ Q y h' g ex q)⟩
theorem wA {t:TA}{x:XA}{n:Nat}(p:PA X es t) (s:ylc (ckX X A) t x) (l:∀ ρ h xs h',x ρ h=some (xs,h')->xs.length=n):ZA X A es n x:=⟨fun pos pins st σ H Q I ⟨W0,W,ρ,y,h',eh,g,ex,q⟩=>by subst eh;exact p pos pins st σ _ Q I (s W0 W ρ σ Q y h' g ex q),l⟩
theorem wP {o:Option Expr}{t:TO}{x} (p:PO X o t) (s:yvM (ckX X A) t x):ZP X A o x:=⟨fun pins st σ H Q I ⟨W0,W,ρ,y,h',eh,g,ex,q⟩=>by subst eh;exact p pins st σ _ Q I (s W0 W ρ σ Q y h' g ex q)⟩
theorem wI {tg:Expr}{t:TI}{x:XA}(p:PI X tg e t) (s:yvN (ckX X A) t x):ZI X A tg e x:=⟨fun pins st σ H Q I ⟨W0,W,ρ,y,h',eh,g,ex,q⟩=>by subst eh;exact p pins st σ _ Q I (s W0 W ρ σ Q y h' g ex q)⟩
theorem wG {t:TG}{y:XG}(p:PG X e t) (s:yqy (ckX X A) t y):ZG X A e y:=⟨fun pins st σ H v u Q I rv ⟨W0,W,ρ,ρ',x,eh,g,r,ex,q⟩=>by subst eh;exact p pins st σ _ v u Q I rv (s W0 W ρ ρ' σ x v Q g r ex q)⟩
theorem wGs {t:TGs}{y:XGs}(p:PGs X es t) (s:yoY (ckX X A) t y):ZGs X A es y:=⟨fun pins st σ H v u Q I rv ⟨W0,W,ρ,ρ',x,eh,g,r,ex,q⟩=>by subst eh;exact p pins st σ _ v u Q I rv (s W0 W ρ ρ' σ x v Q g r ex q)⟩
theorem wS {st:Stmt}{t:TS}{x:XS}(p:PS X st t) (s:yeX (ckX X A) t x):ZS X A st x:=⟨fun pins st σ H D I ⟨W0,W,ρ,o,h',eh,g,ex,q⟩=>by subst eh;exact p pins st σ _ D I (s W0 W ρ σ D o h' g ex q)⟩
theorem wSs {st:List Stmt}{t:TS}{x:XS}(p:PSs X st t) (s:yeX (ckX X A) t x):ZSs X A st x:=⟨fun pins st σ H D I ⟨W0,W,ρ,o,h',eh,g,ex,q⟩=>by subst eh;exact p pins st σ _ D I (s W0 W ρ σ D o h' g ex q)⟩
theorem wF {st:Stmt}{t:TS}{x:XS}(p:PS X st t) (s:ysT (ckX X A) t x):ZF X A st x:=⟨fun pins st σ H D I ⟨W0,W,ρ,ρ',h',eh,g,ex,q⟩=>by subst eh;exact p pins st σ _ D I (s W0 W ρ ρ' σ D h' g ex q)⟩
theorem wFs {st:List Stmt}{t:TS}{x:XS}(p:PSs X st t) (s:ysT (ckX X A) t x):ZFs X A st x:=⟨fun pins st σ H D I ⟨W0,W,ρ,ρ',h',eh,g,ex,q⟩=>by subst eh;exact p pins st σ _ D I (s W0 W ρ ρ' σ D h' g ex q)⟩
end
structure Nm (x:Str):Prop where
 d:(x == ("__debug__":Str))=false
 c:(x == ("__classdict__":Str))=false
 n:x≠"__name__"
section
variable {X:Cx}{A:Nat->Addr}{a b c o:Expr}{es:List Expr}{xa xb xc:XE}{xo:XO}{aa:XA}{pos p apos:Pos}{x:Str}{n k:Nat}
theorem yls {j}:ZE X A (.Constant .none j pos) (xC .non):=wE yzx ywZ
theorem ysU {b j}:ZE X A (.Constant (.bool b) j pos) (xC (.bl b)):=wE yCH yAe
theorem yk {i j}:ZE X A (.Constant (.int i) j pos) (xC (.int i)):=wE yzw yqs
theorem yD {x j}:ZE X A (.Constant (.str x) j pos) (xC (.str x)):=wE yzy yqt
theorem z_v {i:Nat}(m:Nm x:=by exact ⟨by rfl',by rfl',by rfl'⟩) (hN:X.N[i]?=some x:=by rfl) (hv:Vis X.env.scope x:=by first|exact Or.inl rfl|exact Or.inr (Or.inl rfl)):ZE X A (.Name x pos) (yf i):=wE (yiP hN hv m.d m.c) (ywY i)
theorem yhM {n:Int}{t:Tok}(hm:X.mg x=some (.int n t)) (m:Nm x:=by exact ⟨by rfl',by rfl',by rfl'⟩) (hg:Gl X x:=by rfl):ZE X A (.Name x pos) (xC (.int n)):=wE (ywS hg hm m.d) yqs
theorem ylt {n:Str}{t:Tok}(hm:X.mg x=some (.str n t)) (m:Nm x:=by exact ⟨by rfl',by rfl',by rfl'⟩) (hg:Gl X x:=by rfl):ZE X A (.Name x pos) (xC (.str n)):=wE (ywT hg hm m.d) yqt
theorem yem {k:Nat}(hm:X.mg x=some (.ref (A k))) (m:Nm x:=by exact ⟨by rfl',by rfl',by rfl'⟩) (hg:Gl X x:=by rfl):ZE X A (.Name x pos) (xC (.cls k)):=wE (yqq hg hm m.d) (yxa (K:=ckX X A))
theorem yrt {n:String}(hm:X.mg x=none) (m:Nm x:=by exact ⟨by rfl',by rfl',by rfl'⟩) (hg:Gl X x:=by rfl) (hv:bootBuiltins x=some (.type n):=by rfl'):ZE X A (.Name x pos) (xC (.ty n)):=wE (yAd hg hm hv m.n m.d) yAf
theorem ycy (h:ZO X A a xo):ZE X A a (xFz xo):=wE h.of (yAk sO)
theorem yeu (h:ZO X A a xo):ZE X A a (yhy xo):=wE h.of (yqv sO)
theorem ycu {op:Operator}{r:R2}{q:P2}(ho:OpR X (binaryOp op) r) (hq:ycf (ckX X A) r q) (ha:ZE X A a xa) (hb:ZE X A b xb):ZE X A (.BinOp a op b pos) (xOp q xa xb):=wE (yzP ho ha.of hb.of) (ynC hq sE sE)
theorem ymN {op:Operator}{r:R2}{q:P2O}(ho:OpR X (binaryOp op) r) (hq:ynB (ckX X A) r q) (ha:ZE X A a xa) (hb:ZE X A b xb):ZO X A (.BinOp a op b pos) (ysP q xa xb):=wO (yzP ho ha.of hb.of) (yxb hq sE sE)
theorem yCD {op:UnaryOp}{r} {q} (ho:UnR X (unaryOp op) r) (hq:ywX (ckX X A) r q) (ha:ZE X A a xa):ZE X A (.UnaryOp op a pos) (xUn q xa):=wE (yCO ho ha.of) (yAg hq sE)
theorem yEo (ha:ZE X A a xa):ZE X A (.UnaryOp .Not a pos) (ywU xa):=wE (yzH ha.of) (ytz sE)
theorem ygZ {op:CmpOp}{r:R2}{q:P2}(ho:OpR X (compareOp op) r) (hq:ycf (ckX X A) r q) (ha:ZE X A a xa) (hb:ZE X A b xb) (hm:behindInMarks op b=false:=by first|exact yns _|with_unfolding_all rfl):ZE X A (.Compare a [op] [b] pos) (xOp q xa xb):=wE (ywD ho ha.of hb.of hm) (ynC hq sE sE)
theorem yru {op op':CmpOp}{r r':R2}{q q':P2}(ho:OpR X (compareOp op) r) (ho':OpR X (compareOp op') r') (hq:ycf (ckX X A) r q) (hq':ycf (ckX X A) r' q') (ha:ZE X A a xa) (hb:ZE X A b xb) (hc:ZE X A c xc) (hm:lastMarks [op,op'] [b,c]=false:=by first|exact yns _|with_unfolding_all rfl):ZE X A (.Compare a [op,op'] [b,c] pos) (yeZ q q' xa xb xc):=wE (ytg ho ho' ha.of hb.of hc.of hm) (yle hq hq' sE sE sE)
theorem ypj {op} (h:ZE X A a xa):ZE X A (.BoolOp op [a] pos) xa:=⟨yzF h.of⟩
theorem ypk (ha:ZE X A a xa) (hb:ZE X A (.BoolOp .And (b::es) pos) xb):ZE X A (.BoolOp .And (a::b::es) pos) (yjF xa xb):=wE (yzG ha.of hb.of) (yty sE sE)
section
variable {ca cb:XT}
theorem yxW (hc:ZT X A c ca) (ha:ZE X A a xa) (hb:ZE X A b xb):ZE X A (.IfExp c a b pos) (xIf ca xa xb):=wE (ysZ hc.of ha.of hb.of) (yAj sT sE sE)
theorem yr {op:CmpOp}{r:R2}{q:P2}(ho:OpR X (compareOp op) r) (hq:ycf (ckX X A) r q) (ha:ZE X A a xa) (hb:ZE X A b xb) (hm:behindInMarks op b=false:=by first|exact yns _|with_unfolding_all rfl):ZT X A (.Compare a [op] [b] pos) (yo (xOp q xa xb)):=wT (ywF ho ha.of hb.of hm) (yjI (ynC hq sE sE))
theorem yhl {op op':CmpOp}{r r':R2}{q q':P2}(ho:OpR X (compareOp op) r) (ho':OpR X (compareOp op') r') (hq:ycf (ckX X A) r q) (hq':ycf (ckX X A) r' q') (ha:ZE X A a xa) (hb:ZE X A b xb) (hc:ZE X A c xc) (hm:lastMarks [op,op'] [b,c]=false:=by first|exact yns _|with_unfolding_all rfl):ZT X A (.Compare a [op,op'] [b,c] pos) (yo (yeZ q q' xa xb xc)):=wT (yth ho ho' ha.of hb.of hc.of hm) (yjI (yle hq hq' sE sE sE))
theorem ycY (ha:ZT X A a ca):ZT X A (.UnaryOp .Not a pos) (yiV ca):=wT (yzC ha.of) (yxd sT)
theorem ybx (h:ZE X A a xa) (he:∀ whole,isTrue a X.env whole=(do let v <- whole;standAt a.pos;holding [v] (truthy v)):=by exact fun _=>rfl):ZT X A a (yo xa):=wT (yzz h.of he) (yAh sE)
theorem ymO (h:ZW X A a ca):ZT X A a ca:=⟨PW.pt h.of⟩
theorem yrv (ha:ZT X A a ca) (hb:ZW X A (.BoolOp .And (b::es) pos) cb):ZW X A (.BoolOp .And (a::b::es) pos) (ywV ca cb):=wW (yzB ha.of hb.of) (yxc sT sT)
theorem yfm (ha:ZT X A a ca) (hb:ZW X A (.BoolOp .Or (b::es) pos) cb):ZW X A (.BoolOp .Or (a::b::es) pos) (xOr ca cb):=wW (yCJ ha.of hb.of) (yAi sT sT)
theorem ymP (ha:ZT X A a ca):ZW X A (.BoolOp .And [a] pos) ca:=⟨ywz ha.of⟩
theorem yen (ha:ZT X A a ca):ZW X A (.BoolOp .Or [a] pos) ca:=⟨yzA ha.of⟩
end
theorem ye:ZA X A [] 0 yh:=wA ykA yjJ ymw
theorem ya (ha:ZE X A a xa) (hr:ZA X A es n aa) (hs:starEach (a::es) X.env=(false,eval a X.env)::starEach es X.env:=by rfl):ZA X A (a::es) (n+1) (yc xa aa):=wA (ygd ha.of hr.of hs) (ytA sE sA) (ytE hr.len)
theorem ycV (h:ZA X A es n aa):ZO X A (.List es pos) (yfi aa):=wO (yzS h.of) (yxf sA)
theorem ydX {q} (h:ZA X A es n aa):ZE X A (.Tuple es q pos) (yiy aa):=wE (yzR h.of) (yxe sA)
theorem yEp:ZP X A none yjG:=wP ywM yoW
theorem yhN (h:ZE X A a xa):ZP X A (some a) (ygT xa):=wP (ywN h.of) (ytF sE)
section
variable {lo hi:Option Expr}{xl xh:PSt->AH->Option (Option Int×AH)}{p2:Pos}
theorem yGk {r} {q} (hr:SlR X r) (hq:yxi (ckX X A) r q) (ha:ZE X A a xa) (hl:ZP X A lo xl) (hh:ZP X A hi xh):ZE X A (.Subscript a (.Slice lo hi none p2) pos) (xSl q xa xl xh):=wE (ynw hr ha.of hl.of hh.of) (yAl hq sE sP sP)
theorem yBe {r} {q} (hr:SlR X r) (hq:yqw (ckX X A) r q) (ha:ZE X A a xa) (hl:ZP X A lo xl) (hh:ZP X A hi xh):ZO X A (.Subscript a (.Slice lo hi none p2) pos) (ywW q xa xl xh):=wO (ynw hr ha.of hl.of hh.of) (yxj hq sE sP sP)
end
theorem ybR {r:R2}{q:P2}(hr:IxR X r) (hq:ycf (ckX X A) r q) (ha:ZE X A a xa) (hb:ZE X A b xb) (hs:yqe b:=by exact fun _ _=>rfl):ZE X A (.Subscript a b pos) (xOp q xa xb):=wE (yCT hr ha.of hb.of hs) (ynC hq sE sE)
theorem yz {cs:List Nat}{f:Str}(hc:∀ k∈cs,Cls X.K (A k)/\NoAttr X.K (A k) f) (ha:ZE X A a xa) (hb:attributeBase a f X.env (eval a X.env)=eval a X.env:=by rfl):ZE X A (.Attribute a f pos) (ybm cs f xa):=wE (yzQ ha.of hb) (yxA (K:=ckX X A) hc sE)
section
variable {f C:Addr}{fd:FuncData}{ps:List Str}{lv:Nat}{fn:Fn}
theorem yJ (F:FnOk X.prog X.w X.K X.mg X.base CX0 lv f fd ps (spE (ckX X A) (n+1) fn)) (hm:X.mg x=some (.ref f)) (hk:keepIn X.K (.ref f)=true) (hb:Binds X.K fd ps []) (ha:ZA X A (a::es) (n+1) aa) (hr:Room lv X.A:=by exact hr.mono (by omega)) (m:Nm x:=by exact ⟨by rfl',by rfl',by rfl'⟩) (hg:Gl X x:=by rfl) (he:starEach (a::es) X.env=(false,eval a X.env)::starEach es X.env:=by rfl) (hpl:(backTo pos (starEach es X.env)).any (·.1)=false:=by rfl):ZE X A (.Call (.Name x p) (a::es) [] pos) (yM fn aa) :=
 wE (ywK F hr hg hm hk hb .nil ykJ ha.of m.d he hpl) (ytD sA ha.len)
theorem yhO {k:Nat}{fi} (M:Mk X.K (A k) f) (F:FnOk X.prog X.w X.K X.mg X.base CX0 lv f fd ps (spI (ckX X A) (n+1) k fi)) (hm:X.mg x=some (.ref (A k))) (hb:Binds X.K fd ps []) (ha:ZA X A (a::es) (n+1) aa) (hr:Room (lv+1) X.A:=by exact hr.mono (by omega)) (m:Nm x:=by exact ⟨by rfl',by rfl',by rfl'⟩) (hg:Gl X x:=by rfl) (he:starEach (a::es) X.env=(false,eval a X.env)::starEach es X.env:=by rfl) (hpl:(backTo pos (starEach es X.env)).any (·.1)=false:=by rfl):ZO X A (.Call (.Name x p) (a::es) [] pos) (ygV fi aa) :=
 wO (ypZ M F hr hg hm hb .nil ykJ ha.of m.d he hpl) (ynG (K:=ckX X A) (k:=k) sA ha.len)
theorem yxX {k:Nat}(hm:makesIn X.K (A k)=true) (hi:findIn X.K (.ref (A k)) "__init__" = some (some (.builtin "object.__init__"))) (hk:keepIn X.K (.ref (A k))=true) (hmg:X.mg x=some (.ref (A k))) (m:Nm x:=by exact ⟨by rfl',by rfl',by rfl'⟩) (hg:Gl X x:=by rfl):ZO X A (.Call (.Name x p) [] [] pos) (ynH k) :=
 wO (ytu hm hi hk hg hmg m.d) (yqK (K:=ckX X A))
theorem yrw {m:Str}{fm:Nat->Fn}{pl:Sem Bool}(he:ZE X A o xa) (G:yml X.prog X.w X.K X.mg X.base lv A m (fun k=>spE (ckX X A) 1 (fm k))) (hr:Room lv X.A:=by exact hr.mono (by omega)) (ht:eval (.Call (.Attribute o m apos) [] [] pos) X.env=(do
   let ov <- eval o X.env
   standAt apos.atName
   let (f,first) <- holding [ov] (getMethod ov m pl)
   callWith pos f first (backTo pos (starEach [] X.env)) (backToKw pos (keywordEach [] X.env))):=by rfl):ZE X A (.Call (.Attribute o m apos) [] [] pos) (yiE m fm xa) :=
 wE (yqp he.of G hr ht) (ytY (K:=ckX X A) sE)
end
theorem ydn {id:String}{r} {q} (hc:yfg X (.builtin id) r) (hq:yhz (ckX X A) r q) (hm:X.mg x=none) (ha:ZA X A (a::es) n aa) (m:Nm x:=by exact ⟨by rfl',by rfl',by rfl'⟩) (hg:Gl X x:=by rfl) (hv:bootBuiltins x=some (.builtin id):=by rfl') (he:starEach (a::es) X.env=(false,eval a X.env)::starEach es X.env:=by rfl) (hpl:(backTo pos (starEach es X.env)).any (·.1)=false:=by rfl):ZE X A (.Call (.Name x p) (a::es) [] pos) (xCB q aa) :=
 wE (yjw hc hg hm hv ha.of m.n m.d he hpl) (yvK hq sA)
theorem yxY {T:String}{r} {q} (hc:yfg X (.type T) r) (hq:yhz (ckX X A) r q) (hm:X.mg x=none) (ha:ZA X A (a::es) n aa) (m:Nm x:=by exact ⟨by rfl',by rfl',by rfl'⟩) (hg:Gl X x:=by rfl) (hv:bootBuiltins x=some (.type T):=by rfl') (he:starEach (a::es) X.env=(false,eval a X.env)::starEach es X.env:=by rfl) (hpl:(backTo pos (starEach es X.env)).any (·.1)=false:=by rfl):ZE X A (.Call (.Name x p) (a::es) [] pos) (xCB q aa) :=
 wE (ykG hc hg hm hv ha.of m.n m.d he hpl) (yvK hq sA)
theorem ycz {T:String}{r} {q} (hc:yfg X (.type T) r) (hq:yqr (ckX X A) r q) (hm:X.mg x=none) (ha:ZA X A (a::es) n aa) (m:Nm x:=by exact ⟨by rfl',by rfl',by rfl'⟩) (hg:Gl X x:=by rfl) (hv:bootBuiltins x=some (.type T):=by rfl') (he:starEach (a::es) X.env=(false,eval a X.env)::starEach es X.env:=by rfl) (hpl:(backTo pos (starEach es X.env)).any (·.1)=false:=by rfl):ZO X A (.Call (.Name x p) (a::es) [] pos) (yiz q aa) :=
 wO (ykG hc hg hm hv ha.of m.n m.d he hpl) (yxg hq sA)
section
variable {name:Str}{cpos:Pos}{T id:String}{r:V->List V->Hp->VK->Prop}{cc:PV->AH->Bool}{q:PM}
theorem yxZ (pa:PlainAttrs T) (slot:Slot T name id) (hty:typeOf (.builtin id)=pure (.type "method_descriptor")) (hm:MtR X id r) (hq:yiD (ckX X A) T cc r q) (ho:ZE X A o xa) (ha:ZA X A (a::es) n aa) (hbase:attributeBase o name X.env (eval o X.env)=eval o X.env:=by rfl) (hfew:((backTo cpos (starEach (a::es) X.env)).all (fun x=>!x.1) && (backToKw cpos (keywordEach [] X.env)).all (fun x=>x.1.isSome)
   && decide ((a::es).length+([]:List Keyword).length+(if ([]:List Keyword).isEmpty then 0 else 1)<30))=true:=by rfl) (hline:(apos.endLine == cpos.line)=true:=by rfl) (hs:starEach (a::es) X.env=(false,eval a X.env)::starEach es X.env:=by rfl) (hplain:(backTo cpos (starEach es X.env)).any (·.1)=false:=by rfl) :
  ZE X A (.Call (.Attribute o name apos) (a::es) [] cpos) (xBM cc q xa aa):=wE (ywO pa slot hty hm ho.of ha.of hbase hfew hline hs hplain) (yvL (K:=ckX X A) hq sE sA)
theorem yuy (pa:PlainAttrs T) (slot:Slot T name id) (hty:typeOf (.builtin id)=pure (.type "method_descriptor")) (hm:MtR X id r) (hq:yiD (ckX X A) T cc r q) (ho:ZE X A o xa) (hbase:attributeBase o name X.env (eval o X.env)=eval o X.env:=by rfl) (hline:(apos.endLine == cpos.line)=true:=by rfl) :
  ZE X A (.Call (.Attribute o name apos) [] [] cpos) (xBM cc q xa yh):=wE (yqg pa slot hty hm ho.of hbase hline) (yxh (K:=ckX X A) hq sE)
theorem ynY {i:Nat}(ha:ZE X A a xa) (ho:PE X o (ypA i):=by exact yiP rfl (by first|exact Or.inl rfl|exact Or.inr (Or.inl rfl)) (by rfl') (by rfl')) (hbase:attributeBase o "append" X.env (eval o X.env)=eval o X.env:=by rfl) (hfew:((backTo cpos (starEach [a] X.env)).all (fun x=>!x.1) && (backToKw cpos (keywordEach [] X.env)).all (fun x=>x.1.isSome)
   && decide ([a].length+([]:List Keyword).length+(if ([]:List Keyword).isEmpty then 0 else 1)<30))=true:=by rfl) (hline:(apos.endLine == cpos.line)=true:=by rfl) (hs:starEach [a] X.env=(false,eval a X.env)::starEach [] X.env:=by rfl) (hplain:(backTo cpos (starEach [] X.env)).any (·.1)=false:=by rfl) (hsw:swapsWith (.Call (.Attribute o "append" apos) [a] [] cpos) none pos.line X.env=pure false:=by rfl) :
  ZS X A (.Expr (.Call (.Attribute o "append" apos) [a] [] cpos) pos) (yfA i xa) :=
 wS (yjs (ywO plainAttrs_list PySem.F.slot_list_append PySem.F.type_list_append ydK ho (ygd ha.of ykA hs) hbase hfew hline hs hplain) hsw) (ytL (K:=ckX X A) i sE)
end
section
variable {tg:Expr}
theorem ydA (h:ZE X A a xa):ZI X A tg a (xIL xa):=wI (ylZ h.of) (yqD (K:=ckX X A) sE)
theorem yBf (h:ZE X A a xa):ZI X A tg a (xIS xa):=wI (yAc h.of) (ytM sE)
theorem yjX (hm:X.mg "range" = none) (ha:ZA X A [a] n aa) (hg:Gl X "range":=by rfl) (hs:starEach [a] X.env=[(false,eval a X.env)]:=by rfl):ZI X A tg (.Call (.Name "range" p) [a] [] pos) (yqC aa):=wI (ypM hg hm ha.of hs) (yqE sA)
end
theorem ydB {i:Nat}(hN:X.N.Nodup:=by exact nd) (hi:X.N[i]?=some x:=by rfl) (hx:Loc X.env.scope x:=by first|exact Or.inl rfl|exact Or.inr rfl) (hf:X.fn x=true\/X.env.scope.names.lookup x=some .local:=by exact Or.inl rfl):ZG X A (.Name x pos) (yu i):=wG (yjt hN hi hx hf) (yhB i)
theorem yya:ZGs X A [] yAm:=wGs ywB ytI
theorem ynZ {y:XG}{ys:XGs}(h1:ZG X A a y) (h2:ZGs X A es ys) (hs:(assignEach (a::es) X.env).map (·.2)=assign a X.env::(assignEach es X.env).map (·.2):=by rfl):ZGs X A (a::es) (ylf y ys):=wGs (ytb h1.of h2.of hs) (yqz sG sGs)
theorem yBg {ys:XGs}{q:Nat}(h:ZGs X A es ys) (hc:X.calm=true:=by rfl) (hn:(assignEach es X.env).length=n:=by rfl) (hst:(assignEach es X.env).findIdx? (·.1)=none:=by rfl):ZG X A (.Tuple es q pos) (yzi n ys):=wG (yzL hc h.of hn hst) (ytJ (K:=ckX X A) sGs)
theorem ygF {elt iter:Expr}{px:Pos}{scope:Scope}{cpos:Pos}{it:XA}{xe:XE}{ix:List Nat}(fr:List Str) (hi:ZI X A (.Name x px) iter it) (he:∀ (cl:List (Str×Addr)) (C:Addr) (s₃:Shared) (H₃:Hp) (fp:List Addr) (pins:List (Addr×Obj)),ZE (cxC X scope cl C (x::fr) s₃ H₃ fp pins) A elt xe) (hc:X.calm=true:=by rfl) (hfr:FrOk X scope ix fr:=by repeat' first|exact True.intro|exact rfl|refine And.intro ?_ ?_) (hnd:(x::fr).Nodup:=by rfl') (hkind:scope.kind=.function:=by rfl) (hcell:∀ y∈scope.names,y.2≠.cell:=by rfl') (hnames:∀ y∈scope.names,y.2=.local->scope.names.lookup y.1=some .local:=by rfl') (hfree0:∀ y∈scope.names,y.2=.free->y.1∈fr:=by rfl') (hx:scope.names.lookup x=some .local:=by rfl) (hs:∀ v,foldedSetIterable iter X.env v=pure v:=by exact fun _=>rfl):ZO X A (.ListComp elt [⟨.Name x px,iter,[],0⟩] scope cpos) (yfj it ix xe) :=
 wO (yxV (yjW ix fr hc hi.of hfr (te:=cE (ckX X A) xe) (fun cl C s₃ H₃ fp pins=>(he cl C s₃ H₃ fp pins).of) (fun _ _ _ _ _ _=>.nil) hnd hkind hcell hnames hfree0 hx hs)) (ynD (K:=ckX X A) ix sI sE)
section
variable {st:Stmt}{rest:List Stmt}{s u:XS}
theorem yi (h:ZE X A a xa):ZS X A (.Return (some a) pos) (yO xa):=wS (yzJ h.of) (yxl sE)
theorem yS (h:ZE X A a xa) (hs:swapsWith a none pos.line X.env=pure false:=by rfl):ZS X A (.Expr a pos) (ybD xa):=wS (yjs h.of hs) (ytH sE)
theorem yv {i:Nat}{pos':Pos}(h:ZE X A a xa) (hN:X.N.Nodup:=by exact nd) (hi:X.N[i]?=some x:=by rfl) (hx:Loc X.env.scope x:=by first|exact Or.inl rfl|exact Or.inr rfl) (hs:swapsWith a (some (.Name x pos')) pos.line X.env=pure false:=by rfl) (hf:X.fn x=true\/X.env.scope.names.lookup x=some .local:=by exact Or.inl rfl):ZS X A (.Assign [.Name x pos'] a pos) (ycg xa (yu i)) :=
 wS (yvA hN hi hx h.of hs hf) (yqA sE (yhB i))
theorem yjY {i:Nat}{pos':Pos}(h:ZO X A a xo) (hN:X.N.Nodup:=by exact nd) (hi:X.N[i]?=some x:=by rfl) (hx:Loc X.env.scope x:=by first|exact Or.inl rfl|exact Or.inr rfl) (hs:swapsWith a (some (.Name x pos')) pos.line X.env=pure false:=by rfl) (hf:X.fn x=true\/X.env.scope.names.lookup x=some .local:=by exact Or.inl rfl):ZS X A (.Assign [.Name x pos'] a pos) (ymx xo i) :=
 wS (yvA hN hi hx h.of hs hf) (ytK i sO)
theorem ybV {cs:List Nat}{f:Str}{pos':Pos}{i:Nat}(hc:∀ k∈cs,Cls X.K (A k)/\NoAttr X.K (A k) f) (h:ZE X A a xa) (ho:PE X o (ypA i):=by exact yiP rfl (by first|exact Or.inl rfl|exact Or.inr (Or.inl rfl)) (by rfl') (by rfl')) (hs:swapsWith a (some (.Attribute o f pos')) pos.line X.env=pure false:=by rfl):ZF X A (.Assign [.Attribute o f pos'] a pos) (ycU cs i f xa):=wF (yvF ho h.of hs) (ytV (K:=ckX X A) hc sE)
theorem yE {ca:XT}{l m:List Stmt}(hc:ZT X A c ca) (ha:ZSs X A l s) (hb:ZSs X A m u):ZS X A (.If c l m pos) (ybF ca s u):=wS (yCL hc.of ha.of hb.of) (yxm sT sS sS)
theorem yhP {tg iter:Expr}{it:XA}{y:XG}(hi:ZI X A tg iter it) (hg:ZG X A tg y) (hb:ZSs X A rest s) (hp:PassesOwn (model X.prog X.w) X.A X.env X.xe:=by exact PassesOwn.never) (hc:X.calm=true:=by rfl) (hs:∀ x,foldedSetIterable iter X.env x=pure x:=by exact fun _=>rfl):ZS X A (.For tg iter rest [] pos) (ymz it y s):=wS (ypO hp hc hi.of hg.of hb.of hs) (yxq sI sG sS)
theorem yjZ {ca:XT}{fu:Nat}(hc:ZT X A c ca) (hb:ZSs X A rest s) (hp:PassesOwn (model X.prog X.w) X.A X.env X.xe:=by exact PassesOwn.never):ZS X A (.While c rest [] pos) (yfa fu ca s):=wS (ytc hp hc.of hb.of) (yqF fu sT sS)
theorem yl:ZSs X A [] yI:=wSs ywA ytG
theorem yd (h:ZS X A st s):ZSs X A [st] s:=⟨ypI h.of⟩
theorem yb (h:ZS X A st s) (hr:ZSs X A rest u):ZSs X A (st::rest) (ym s u):=wSs (ynp h.of hr.of) (yxk sS sS)
theorem yev {i:Nat}(h:ZSs X A rest s):ZSs X A rest (yoX i s):=wSs h.of (yxn i sS)
theorem ydY (h:ZF X A st s):ZFs X A [st] s:=⟨ypI h.of⟩
theorem ybG (h:ZF X A st s) (hr:ZFs X A rest u):ZFs X A (st::rest) (ym s u):=wFs (ynp h.of hr.of) (ytW sF sF)
end
end
section
variable {P:Program}{w:World}{K:PySem.W.Frag}{mg:Str->Option Value}{base:Heap}{A:Nat->Addr}
theorem zfn {x qual:Str}{st:Stmt}{f:Addr}{fd:FuncData}{N ps:List Str}{k:Nat}{s:XS}(F:Fun K x qual st f fd) (S:ydV N ps (ybv st))
  (h:∀ (cdv:Value) (Ar:Around) (outer:List Env) (sh:Shared) (H:Hp) (E:XK),Room k (Ar.deeper (envOfC qual (ybv st) sh.heap.objs.size f cdv))->ZSs (ytp CX0 P w K mg base N qual (ybv st) f cdv Ar outer sh H E).nox A (yfh st) s) :
  FnOk P w K mg base CX0 (k+1) f fd ps (spE ⟨K,A⟩ ps.length (ybA N.length s)) :=
 F.ok S (fun _ _ _ _ h=>yxr h) fun cdv Ar outer sh H vs Q E hr hq=>⟨_,(h cdv Ar outer sh H E hr).of,ytN (K:=⟨K,A⟩) sS hq⟩
theorem zin {x qual:Str}{st:Stmt}{f:Addr}{fd:FuncData}{N ps:List Str}{k kc n:Nat}{s:XS}(F:Fun K x qual st f fd) (S:ydV N ps (ybv st)) (hn:ps.length=n+1) (hN:n+1<=N.length)
  (h:∀ (cdv:Value) (Ar:Around) (outer:List Env) (sh:Shared) (H:Hp) (E:XK),Room k (Ar.deeper (envOfC qual (ybv st) sh.heap.objs.size f cdv))->ZFs (ytp CX0 P w K mg base N qual (ybv st) f cdv Ar outer sh H E).nox A (yfh st) s) :
  FnOk P w K mg base CX0 (k+1) f fd ps (spI ⟨K,A⟩ n kc (ypc N.length kc s)) :=
 F.ok S (fun _ _ _ _ h=>(yxB h).trans hn.symm) fun cdv Ar outer sh H vs Q E hr hq=>⟨_,(h cdv Ar outer sh H E hr).of,ytX (K:=⟨K,A⟩) hN sF hq⟩
end
end PX
namespace PX
open PySem L2 PySem.Spec PyProof.Rows
section
variable {X:Cx}{A:Nat->Addr}{a b c o i:Expr}{es:List Expr}{xa xb xc xd xk xv:XE}{xo:XO}{aa:XA}{pos p apos cpos pos':Pos}{x:Str}{n k:Nat}
theorem yBh (ho:ZE X A o xd) (hi:ZE X A i xk) (hu:X.A.units+1<cLine:=by exact yzY hr) (hs:yDZ i:=by exact fun _ _=>rfl):ZE X A (.Subscript o i pos) (ymH xd xk):=wE (yxM hu ho.of hi.of hs) (yug sE sE)
theorem yrx (ho:ZE X A o xd) (hi:ZE X A i xk) (hv:ZE X A a xv) (hu:X.A.units+1<cLine:=by exact yzY hr) (hs:swapsWith a (some (.Subscript o i pos')) pos.line X.env=pure false:=by rfl):ZS X A (.Assign [.Subscript o i pos'] a pos) (ymI xd xk xv):=wS (yxN hu ho.of hi.of hv.of hs) (yuh sE sE sE)
theorem ylu:ZO X A (.Dict [] [] pos) ylk:=wO yud yui
theorem yhQ (h:ZE X A a xv) (ho:ZE X A o xd) (hi:ZE X A i xk) (ha:∀ v,assign (.Subscript o i pos') X.env v=(do
   let ov <- holding [v] (eval o X.env)
   let iv <- holding [v,ov] (eval i X.env)
   standAt pos'
   holding [v,ov,iv] (setItem ov iv v)
   release [v,ov,iv] []):=by exact fun _=>rfl) (hs:swapsWithSole [.Subscript o i pos'] a pos.line X.env=pure false:=by rfl) (hw:swappedStores [.Subscript o i pos'] a X.env=pure none:=by rfl) (h1:(assignEach [.Subscript o i pos'] X.env).map (·.2)=[assign (.Subscript o i pos') X.env]:=by rfl) :
  ZS X A (.Assign [.Subscript o i pos'] a pos) (ygj xd xk xv):=wS (yzN h.of (yzM ho.of hi.of set_list ha) hs hw h1) (yue sE sE sE)
end
end PX
namespace PX
open PySem L2 PySem.Spec PyProof.Rows
section
variable {X:Cx}{A:Nat->Addr}{a b c o:Expr}{es:List Expr}{xa xb xc:XE}{pos p apos cpos:Pos}{x:Str}{n k:Nat}
theorem yBi {i:Nat}(ha:ZE X A a xa) (ho:PE X o (ypA i):=by exact yiP rfl (by first|exact Or.inl rfl|exact Or.inr (Or.inl rfl)) (by rfl') (by rfl')) (hbase:attributeBase o "extend" X.env (eval o X.env)=eval o X.env:=by rfl) (hfew:((backTo cpos (starEach [a] X.env)).all (fun x=>!x.1) && (backToKw cpos (keywordEach [] X.env)).all (fun x=>x.1.isSome)
   && decide ([a].length+([]:List Keyword).length+(if ([]:List Keyword).isEmpty then 0 else 1)<30))=true:=by rfl) (hline:(apos.endLine == cpos.line)=true:=by rfl) (hs:starEach [a] X.env=(false,eval a X.env)::starEach [] X.env:=by rfl) (hplain:(backTo cpos (starEach [] X.env)).any (·.1)=false:=by rfl) (hsw:swapsWith (.Call (.Attribute o "extend" apos) [a] [] cpos) none pos.line X.env=pure false:=by rfl) :
  ZS X A (.Expr (.Call (.Attribute o "extend" apos) [a] [] cpos) pos) (ype i xa) :=
 wS (yjs (ywO plainAttrs_list PySem.F.slot_list_extend PySem.F.type_list_extend yqi ho (ygd ha.of ykA hs) hbase hfew hline hs hplain) hsw) (yuk (K:=ckX X A) i sE)
theorem yry {i:Nat}(hm:X.mg x=none) (ho:PE X a (ypA i):=by exact yiP rfl (by first|exact Or.inl rfl|exact Or.inr (Or.inl rfl)) (by rfl') (by rfl')) (m:Nm x:=by exact ⟨by rfl',by rfl',by rfl'⟩) (hg:Gl X x:=by rfl) (hv:bootBuiltins x=some (.builtin "len"):=by rfl') (he:starEach [a] X.env=(false,eval a X.env)::starEach [] X.env:=by rfl) (hpl:(backTo pos (starEach [] X.env)).any (·.1)=false:=by rfl) :
  ZE X A (.Call (.Name x p) [a] [] pos) (yhG i) :=
 wE (yjw yt hg hm hv (ygd ho ykA he) m.n m.d he hpl) (yul (K:=ckX X A) i)
end
section
theorem yBj {a b c:Int}(hc:0<c):Builtin.Range.rangeSize a b c=(szR a b c:Int):=by
 unfold Builtin.Range.rangeSize szR
 rw [if_pos hc]
 split
 .have:=Int.ediv_nonneg (a:=b-a-1) (b:=c) (by omega) (by omega)
  omega
 .rfl
theorem yuz {a b c:Int}(h:0<=a/\a<1000000000/\0<=b/\b<1000000000/\0<c/\c<1000000):Builtin.Range.small a b c=true:=by
 obtain ⟨h1,h2,h3,h4,h5,h6⟩:=h
 unfold Builtin.Range.small
 have hs:Builtin.Range.rangeSize a b c<=1000000000/\0<=Builtin.Range.rangeSize a b c:=by
  unfold Builtin.Range.rangeSize
  rw [if_pos h5]
  split
  .have:=Int.ediv_nonneg (a:=b-a-1) (b:=c) (by omega) (by omega)
   have:=Int.ediv_le_self c (show (0:Int)<=b-a-1 by omega)
   omega
  .omega
 simp only [Builtin.Range.rangeFitsLong,and_eq_true,Bool.or_eq_true,decide_eq_true_eq,beq_iff_eq,show c>0 from h5,if_true]
 omega
theorem ymQ {P:Program}{w:World}{K:PySem.W.Frag}{tg:Expr}(it:Addr) (lo st:Int) (n:Nat):Turn P w K tg (yCz lo st n) [it] it (fun i h=>IsRangeIter h it (lo+(i:Nat)*st) ((n:Int)-(i:Nat)) st) where
 mem:=by simp
 obj:=fun i h st b hb=>by
  have e:b=it:=by simpa using hb
  subst e
  exact ⟨_,st,fun v z=>by
   have z':Data.fields _=Data.cell v:=z
   cases z'⟩
 keep:=fun i h h' st k=>k it (by simp) _ st
 item:=by
  intro X hP hw hK hc i pins s σ H E I hf st' hg
  subst hP hw hK
  obtain ⟨f0,f1,f2,f3,f4,f5⟩:=hf it (by simp)
  have W:=Walks.range (prog:=X.prog) (w:=X.w) (I.ok.hd hc) it lo st n
  refine W.item i s _ _ hg st' fun v h' tk hv st'' kk=>?_
  obtain ⟨t,rfl⟩:=hv
  have I1:Inv X pins σ H { s with heap:=h',toks:=tk }:=I.turned (fun b o hb e=>kk b o (by simpa using hb) e) f0 f1 f3 f4 f5
  exact ⟨_,rfl,ypK (s:={ s with heap:=h',toks:=tk }) (n:="range_iterator") st'' rfl rfl (by decide) ⟨.int (lo+i*st),H,I1,⟨t,rfl⟩,⟨rfl,rfl⟩,st'',fun b hb=>(hf b hb).1⟩⟩
 done:=by
  intro X hP hw hK hc i pins s σ H E I hf st hg
  subst hP hw hK
  obtain ⟨f0,f1,f2,f3,f4,f5⟩:=hf it (by simp)
  exact wpAny_pyNext_range_end (I.ok.hd hc) st (by have:n<=i:=hg;omega) fun h' eb=>⟨rfl,I.turned (t':=s.toks) (fun b o hb e=>eb b o hb e) f0 f1 f3 f4 f5⟩
 self:=fun _ _ _ _ _ st h=>wpAny_pyIter_rangeiter st h
variable {X:Cx}{A:Nat->Addr}{tg a b c:Expr}{p pos:Pos}{aa:XA}{n:Nat}
theorem yrz {pins:List (Addr×Obj)}{σ:L2.St}{H:Hp}{s:Shared}{R:It->Hp->Prop}{E:Value->Shared->Prop}{lo hi st:Int}{t u v:Tok}{tk:Nat}(I:Inv X pins σ H s) (h:0<=lo/\lo<1000000000/\0<=hi/\hi<1000000000/\0<st/\st<1000000)
  (q:R (yCz lo st (szR lo hi st)) H):wpAny (model X.prog X.w) X.A (pyIter (.ref s.heap.objs.size)) (PIE X pins σ tg R) E { s with heap:=s.heap.push { cls:=.type "range",data:=.fields #[.int lo t,.int hi u,.int st v] },toks:=tk }:=by
 refine wpAny_pyIter_range (IsRange.new ..) (yuz h) ?_
 have I1:Inv X pins σ H { s with heap:=s.heap.push { cls:=.type "range",data:=.fields #[.int lo t,.int hi u,.int st v] },toks:=tk }:=I.kept fun b o e=>Heap.get?_push_of_some _ e
 refine ⟨(s.heap.push { cls:=.type "range",data:=.fields #[.int lo t,.int hi u,.int st v] }).objs.size,[(s.heap.push { cls:=.type "range",data:=.fields #[.int lo t,.int hi u,.int st v] }).objs.size],_,_,H,rfl,
  I1.kept (t':=tk) fun b o e=>Heap.get?_push_of_some _ e,ymQ _ lo st (szR lo hi st),?_,fun b hb=>?_,q⟩
 .have e1:lo+((0:Nat):Int)*st=lo:=by simp
  have e2:((szR lo hi st:Nat):Int)-((0:Nat):Int)=Builtin.Range.rangeSize lo hi st:=by rw [yBj h.2.2.2.2.1];omega
  show IsRangeIter _ _ (lo+((0:Nat):Int)*st) (((szR lo hi st:Nat):Int)-((0:Nat):Int)) st
  rw [e1,e2]
  exact Heap.get?_push_size _ rfl
 .have e:b=(s.heap.push { cls:=.type "range",data:=.fields #[.int lo t,.int hi u,.int st v] }).objs.size:=by simpa using hb
  subst e
  exact I1.fpOk (Nat.le_refl _) (I1.hok.fresh (Nat.le_refl _))
theorem yrA {ta:TA}(hg:Gl X "range") (hm:X.mg "range" = none) (ha:PA X [a,b,c] ta) (hs:starEach [a,b,c] X.env=[(false,eval a X.env),(false,eval b X.env),(false,eval c X.env)]) (hs2:starEach [b,c] X.env=[(false,eval b X.env),(false,eval c X.env)]) :
  PI X tg (.Call (.Name "range" p) [a,b,c] [] pos) (yAU ta):=by
 intro pins s σ H R I h
 refine Call_ (ykz I hg hm boot_range (PyProof.Rows.callWith_type1 (thn (ha pos pins s σ H _ I h) fun us s1 ⟨vs,H1,I1,r1,q1⟩=>?_) (by rw [hs,hs2]) (by rw [hs2];rfl)))
 obtain ⟨i,j,k,e,hc,q⟩:=q1
 subst e
 cases r1 with
 | cons r rr =>
  cases rr with
  | cons r' rr =>
   cases rr with
   | cons r'' rr =>
    cases rr
    obtain ⟨t,rfl⟩:=r
    obtain ⟨t',rfl⟩:=r'
    obtain ⟨t'',rfl⟩:=r''
    exact call_range_3 (by omega) (yrz I1 hc q) (Or.inl (PyProof.noPylong_small (by omega)))
theorem yyb (hm:X.mg "range" = none) (ha:ZA X A [a,b,c] n aa) (hg:Gl X "range":=by rfl) (hs:starEach [a,b,c] X.env=[(false,eval a X.env),(false,eval b X.env),(false,eval c X.env)]:=by rfl) (hs2:starEach [b,c] X.env=[(false,eval b X.env),(false,eval c X.env)]:=by rfl):ZI X A tg (.Call (.Name "range" p) [a,b,c] [] pos) (yAV aa):=wI (yrA hg hm ha.of hs hs2) (yqX sA)
end
section
theorem yew {xs:List V}{its:List Value}(r:Vals xs its) {j:Nat}(hj:j<its.toArray.size):∃ x,xs[j]?=some x/\RelV x its.toArray[j]:=by
 have hl:=r.length
 have j1:j<its.length:=by simpa using hj
 have x1:xs[j]?=some xs[j]:=List.getElem?_eq_getElem (by omega)
 obtain ⟨u1,q1,w1⟩:=r.get x1
 have g1:its.toArray[j]=u1:=by
  have:=List.getElem?_eq_getElem j1
  rw [q1] at this
  simpa using (Option.some.inj this).symm
 exact ⟨_,x1,by rw [g1];exact w1⟩
variable {X:Cx}
theorem ywb {pins:List (Addr×Obj)}{σ:L2.St}{H:Hp}{s:Shared}(I:Inv X pins σ H s) {n:Nat}{x y:V}{b:Bool}(r:EqR X.K H n x y b):∀ {A:Around}{u v:Value},RelV x u->RelV y v->A.units+n<cLine->SeqAt.EqAt A s u v b:=by
 induction r with
 | flat fx fy=>exact fun rx ry _=>eqAt_V rx ry fx fy
 | same =>
  intro A u v rx ry _
  cases rx
  cases ry
  exact SeqAt.EqAt.same _
 | odd h =>
  obtain ⟨a,o,ob,h1,h2⟩:=h
  have:=(I.bs a ob (I.ok.mod.kin a ob h2)).2
  rw [h1] at this
  cases this
 | nt hb =>
  intro A u v rx ry hu
  cases rx
  cases ry
  obtain ⟨i2,r2,p2,z2⟩:=I.tuple hb
  exact SeqAt.EqAt.none_tuple p2 (by omega)
 | tn hb =>
  intro A u v rx ry hu
  cases rx
  cases ry
  obtain ⟨i2,r2,p2,z2⟩:=I.tuple hb
  exact SeqAt.EqAt.tuple_none p2 (by omega)
 | @lst n a b xs ys e ha hb hl hne he ih =>
  intro A u v rx ry hu
  cases rx
  cases ry
  obtain ⟨i1,n1,r1,e1,z1⟩:=I.lst ha
  obtain ⟨i2,n2,r2,e2,z2⟩:=I.lst hb
  have l1:=r1.length
  have l2:=r2.length
  rw [show xs.length=i1.toArray.size by simp only [size_toArray];omega]
  refine SeqAt.EqAt.of_refs hne (SeqAt.RcAt.lists ⟨_,e1,rfl,n1,rfl⟩ ⟨_,e2,rfl,n2,rfl⟩ (by simp only [size_toArray];omega) (by omega) fun j j1 j2=>?_)
  obtain ⟨x1,q1,w1⟩:=yew r1 j1
  obtain ⟨y1,q2,w2⟩:=yew r2 j2
  exact ih j x1 y1 q1 q2 w1 w2 (by show A.units+1+n<cLine;omega)
 | @lstN n a b xs ys ha hb hl =>
  intro A u v rx ry hu
  cases rx
  cases ry
  obtain ⟨i1,n1,r1,e1,z1⟩:=I.lst ha
  obtain ⟨i2,n2,r2,e2,z2⟩:=I.lst hb
  have l1:=r1.length
  have l2:=r2.length
  have hne:a≠b:=fun z=>by subst z;rw [ha] at hb;cases hb;exact hl rfl
  exact SeqAt.EqAt.of_refs hne (SeqAt.RcAt.lists_lengths ⟨_,e1,rfl,n1,rfl⟩ ⟨_,e2,rfl,n2,rfl⟩ (by simp only [size_toArray,bne_iff_ne];omega) (by omega))
 | @tup n a b xs ys e ha hb hne he ih =>
  intro A u v rx ry hu
  cases rx
  cases ry
  obtain ⟨i1,r1,p1,z1⟩:=I.tuple ha
  obtain ⟨i2,r2,p2,z2⟩:=I.tuple hb
  have l1:=r1.length
  have l2:=r2.length
  rw [show xs.length=i1.toArray.size by simp only [size_toArray];omega,show ys.length=i2.toArray.size by simp only [size_toArray];omega]
  refine SeqAt.EqAt.of_refs hne (SeqAt.RcAt.tuples p1 p2 (by omega) fun j j1 j2=>?_)
  obtain ⟨x1,q1,w1⟩:=yew r1 j1
  obtain ⟨y1,q2,w2⟩:=yew r2 j2
  exact ih j x1 y1 q1 q2 w1 w2 (by show A.units+1+n<cLine;omega)
theorem yoa (hu:X.A.units+60<cLine):OpR X (compareOp .NotEq) (yFI X.K):=by
 intro pins s σ H x y v u Q I rx ry h
 obtain ⟨b,hb,q⟩:=h
 cases hb with
 | nt hb =>
  cases rx
  cases ry
  obtain ⟨i2,r2,p2,z2⟩:=I.tuple hb
  exact SeqAt.RcNeAt.none_tuple p2 (by omega) _ _ _ _ ⟨.bl _,H,I,rfl,q⟩
 | tn hb =>
  cases rx
  cases ry
  obtain ⟨i2,r2,p2,z2⟩:=I.tuple hb
  exact SeqAt.RcNeAt.tuple_none p2 (by omega) _ _ _ _ ⟨.bl _,H,I,rfl,q⟩
 | @lst a b xs ys e ha hb hl he =>
  cases rx
  cases ry
  obtain ⟨i1,n1,r1,e1,z1⟩:=I.lst ha
  obtain ⟨i2,n2,r2,e2,z2⟩:=I.lst hb
  have l1:=r1.length
  have l2:=r2.length
  rw [show xs.length=i1.toArray.size by simp only [size_toArray];omega] at q
  refine SeqAt.RcNeAt.lists ⟨_,e1,rfl,n1,rfl⟩ ⟨_,e2,rfl,n2,rfl⟩ (by simp only [size_toArray];omega) (by omega) (fun j j1 j2=>?_) _ _ _ _ ⟨.bl _,H,I,rfl,q⟩
  obtain ⟨x1,q1,w1⟩:=yew r1 j1
  obtain ⟨y1,q2,w2⟩:=yew r2 j2
  exact ywb I (he j x1 y1 q1 q2) w1 w2 (by show X.A.units+1+40<cLine;omega)
 | @lstN a b xs ys ha hb hl =>
  cases rx
  cases ry
  obtain ⟨i1,n1,r1,e1,z1⟩:=I.lst ha
  obtain ⟨i2,n2,r2,e2,z2⟩:=I.lst hb
  have l1:=r1.length
  have l2:=r2.length
  exact SeqAt.RcNeAt.lists_lengths ⟨_,e1,rfl,n1,rfl⟩ ⟨_,e2,rfl,n2,rfl⟩ (by simp only [size_toArray,bne_iff_ne];omega) (by omega) _ _ _ _ ⟨.bl _,H,I,rfl,q⟩
 | @tup a b xs ys e ha hb he =>
  cases rx
  cases ry
  obtain ⟨i1,r1,p1,z1⟩:=I.tuple ha
  obtain ⟨i2,r2,p2,z2⟩:=I.tuple hb
  have l1:=r1.length
  have l2:=r2.length
  rw [show xs.length=i1.toArray.size by simp only [size_toArray];omega,show ys.length=i2.toArray.size by simp only [size_toArray];omega] at q
  refine SeqAt.RcNeAt.tuples p1 p2 (by omega) (fun j j1 j2=>?_) _ _ _ _ ⟨.bl _,H,I,rfl,q⟩
  obtain ⟨x1,q1,w1⟩:=yew r1 j1
  obtain ⟨y1,q2,w2⟩:=yew r2 j2
  exact ywb I (he j x1 y1 q1 q2) w1 w2 (by show X.A.units+1+40<cLine;omega)
theorem yob {k:Nat}{A:Around}(r:Room k A):A.units+60<cLine:=by have:=r.un;omega
end
end PX
namespace PX
open PySem L2 PySem.Spec PyProof.Rows
section
variable {X:Cx}{A:Nat->Addr}{o e:Expr}{es:List Expr}{xa xb:XE}{aa:XA}{pos apos pos':Pos}{m f:Str}{n k kc:Nat}{pl:Sem Bool}{p:Fn}{fa:Addr}{fd:FuncData}{ps:List Str}
theorem yy {st:Stmt}:ZS X A st ybT:=wS yta (yup (K:=ckX X A))
theorem yA (ho:ZE X A o xa) (hm:Meth X.K (A kc) m fa) (F:FnOk X.prog X.w X.K X.mg X.base CX0 k fa fd ps (spE (ckX X A) (n+1) p)) (hb:Binds X.K fd ps []) (ha:ZA X A (e::es) n aa) (c:Cls X.K (A kc):=by exact T.cl _) (hr:Room k X.A:=by exact hr.mono (by omega)) (hst:starEach (e::es) X.env=(false,eval e X.env)::starEach es X.env:=by rfl) (hpl:(backTo pos (starEach es X.env)).any (·.1)=false:=by rfl) (ht:eval (.Call (.Attribute o m apos) (e::es) [] pos) X.env=(do
   let ov <- eval o X.env
   standAt apos.atName
   let (f,first) <- holding [ov] (getMethod ov m pl)
   callWith pos f first (backTo pos (starEach (e::es) X.env)) (backToKw pos (keywordEach [] X.env))):=by rfl) :
  ZE X A (.Call (.Attribute o m apos) (e::es) [] pos) (yj kc m p xa aa):=wE (ywL ho.of c hm F hr hb .nil ykJ ha.of hst hpl ht) (yll (K:=ckX X A) sE sA ha.len)
theorem yq (ho:ZE X A o xa) (hm:Meth X.K (A kc) m fa) (F:FnOk X.prog X.w X.K X.mg X.base CX0 k fa fd ps (spE (ckX X A) 1 p)) (hb:Binds X.K fd ps []) (c:Cls X.K (A kc):=by exact T.cl _) (hr:Room k X.A:=by exact hr.mono (by omega)) (ht:eval (.Call (.Attribute o m apos) [] [] pos) X.env=(do
   let ov <- eval o X.env
   standAt apos.atName
   let (f,first) <- holding [ov] (getMethod ov m pl)
   callWith pos f first (backTo pos (starEach [] X.env)) (backToKw pos (keywordEach [] X.env))):=by rfl) :
  ZE X A (.Call (.Attribute o m apos) [] [] pos) (yj kc m p xa yh):=wE (ytn ho.of c hm F hr hb .nil ykJ ht) (yll (K:=ckX X A) (n:=0) sE yjJ ymw)
theorem ybQ {cs:List Nat}{value:Expr}(hc:∀ k∈cs,Cls X.K (A k)/\NoAttr X.K (A k) f) (ho:ZE X A o xa) (hv:ZE X A value xb) (hs:swapsWith value (some (.Attribute o f pos')) pos.line X.env=pure false:=by rfl) :
  ZS X A (.Assign [.Attribute o f pos'] value pos) (ydh cs f xa xb):=wS (yvF ho.of hv.of hs) (yuq (K:=ckX X A) hc sE sE)
end
end PX
namespace KasS
open PySem PySem.W PyProof.Rows
def run {α:Type}(lt:Nat->Nat->Bool):KasT α->α
 | .ret a=>a
 | .ask i j k=>run lt (k (lt i j))
theorem yeS {α β:Type}(lt:Nat->Nat->Bool) (f:α->KasT β):∀ t:KasT α,run lt (t.bind f)=run lt (f (run lt t))
 | .ret _=>rfl
 | .ask i j k=>yeS lt f (k (lt i j))
section
variable (key:Nat->Int)
def ltK (i j:Nat):Bool:=decide (key i<key j)
def Kp (p:Array Nat) (i:Nat):Int:=key (p[i]?.getD 0)
def Up (p:Array Nat) (k:Nat):Prop:=∀ i j,i<=j->j<k->Kp key p i<=Kp key p j
def Dn (p:Array Nat) (k:Nat):Prop:=∀ i j,i<=j->j<k->Kp key p j<=Kp key p i
variable {key}
theorem yhR (p:Array Nat) (i:Nat):p.getD i 0=p[i]?.getD 0:=by simp [Array.getD_eq_getD_getElem?]
theorem yrB (p:Array Nat) (i j:Nat):ltK key (p.getD i 0) (p.getD j 0)=decide (Kp key p i<Kp key p j):=by rw [yhR,yhR];rfl
theorem Up.succ {p:Array Nat}{n:Nat}(h:Up key p n) (h1:1<=n) (hn:Kp key p (n-1)<=Kp key p n):Up key p (n+1):=fun i j hij hj=>by
 by_cases e:j=n
 .subst e
  by_cases e2:i=j
  .subst e2;exact Int.le_refl _
  .exact Int.le_trans (h i (j-1) (by omega) (by omega)) hn
 .exact h i j hij (by omega)
theorem Dn.succ {p:Array Nat}{n:Nat}(h:Dn key p n) (h1:1<=n) (hn:Kp key p n<=Kp key p (n-1)):Dn key p (n+1):=fun i j hij hj=>by
 by_cases e:j=n
 .subst e
  by_cases e2:i=j
  .subst e2;exact Int.le_refl _
  .exact Int.le_trans hn (h i (j-1) (by omega) (by omega))
 .exact h i j hij (by omega)
theorem yrC (p:Array Nat):∀ (f n:Nat),1<=n->Up key p n->n<=run (ltK key) (kas_asc p f n)/\run (ltK key) (kas_asc p f n)<=n+f/\Up key p (run (ltK key) (kas_asc p f n))/\(run (ltK key) (kas_asc p f n)<n+f->Kp key p (run (ltK key) (kas_asc p f n))<Kp key p (run (ltK key) (kas_asc p f n)-1))
 | 0,n,_,h=>⟨Nat.le_refl _,Nat.le_refl _,h,fun z=>by exact absurd z (lt_irrefl _)⟩
 | f+1,n,h1,h=>by
  have e:run (ltK key) (kas_asc p (f+1) n)=run (ltK key) (if ltK key (p.getD n 0) (p.getD (n-1) 0)=true then .ret n else kas_asc p f (n+1)):=rfl
  rw [e,yrB]
  by_cases hc:Kp key p n<Kp key p (n-1)
  .rw [decide_eq_true hc,if_pos rfl]
   exact ⟨Nat.le_refl _,by show n<=n+(f+1);omega,h,fun _=>hc⟩
  .rw [decide_eq_false hc,if_neg (by simp)]
   obtain ⟨a,b,c,d⟩:=yrC p f (n+1) (by omega) (h.succ h1 (by omega))
   exact ⟨by omega,by omega,c,fun z=>d (by omega)⟩
theorem yrD {p:Array Nat}{i j:Nat}(hj:j<=p.size) (k:Nat):Kp key (kas_rev p i j) k=if i<=k/\k<j then Kp key p (i+j-1-k) else Kp key p k:=by
 unfold Kp kas_rev
 rw [getElem?_mirror_all hj]
 split<;>rfl
theorem ydZ (p:Array Nat) (i j:Nat):(kas_rev p i j).size=p.size:=mirror_size _ _ _ _
theorem yda (p:Array Nat) (i j:Nat):(kas_rev p i j).Perm p:=mirror_perm _ _ _ _
theorem yhS {p:Array Nat}{i j:Nat}(hj:j<=p.size) (he:∀ k,i<=k->k<j->Kp key p k=Kp key p (j-1)) (k:Nat):Kp key (kas_rev p i j) k=Kp key p k:=by
 rw [yrD hj]
 split
 .rename_i h
  rw [he (i+j-1-k) (by omega) (by omega),he k h.1 h.2]
 .rfl
theorem yka:∀ (f:Nat) (p:Array Nat) (n q:Nat),n+f<=p.size->q+1<=n->Dn key p n->(∀ k,n-(q+1)<=k->k<n->Kp key p k=Kp key p (n-1)) ->
  let r:=run (ltK key) (kas_desc f p n q)
  r.1.Perm p/\r.1.size=p.size/\n<=r.2.1/\r.2.1<=n+f/\r.2.2+1<=r.2.1/\Dn key r.1 r.2.1/\(∀ k,r.2.1-(r.2.2+1)<=k->k<r.2.1->Kp key r.1 k=Kp key r.1 (r.2.1-1))
 | 0,p,n,q,hs,hq,hd,he=>⟨Array.Perm.refl _,rfl,Nat.le_refl _,Nat.le_refl _,hq,hd,he⟩
 | f+1,p,n,q,hs,hq,hd,he=>by
  intro r
  have e:r=run (ltK key) (if ltK key (p.getD n 0) (p.getD (n-1) 0)=true then (if q>0 then kas_desc f (kas_rev p (n-(q+1)) n) (n+1) 0 else kas_desc f p (n+1) 0)
   else .ask (p.getD (n-1) 0) (p.getD n 0) fun d=>if d=true then .ret (p,n,q) else kas_desc f p (n+1) (q+1)):=rfl
  rw [yrB] at e
  by_cases hc:Kp key p n<Kp key p (n-1)
  .rw [decide_eq_true hc,if_pos rfl] at e
   by_cases h0:q>0
   .rw [if_pos h0] at e
    have kk:∀ k,Kp key (kas_rev p (n-(q+1)) n) k=Kp key p k:=fun k=>yhS (by omega) he k
    have hd':Dn key (kas_rev p (n-(q+1)) n) (n+1):=fun i j hij hj=>by
     rw [kk,kk]
     exact hd.succ (by omega) (by omega) i j hij hj
    obtain ⟨a1,a2,a3,a4,a5,a6,a7⟩:=yka f (kas_rev p (n-(q+1)) n) (n+1) 0 (by rw [ydZ];omega) (by omega) hd' (fun k h1 h2=>by rw [show k=n+1-1 by omega])
    rw [e]
    exact ⟨a1.trans (yda _ _ _),a2.trans (ydZ _ _ _),by omega,by omega,a5,a6,a7⟩
   .rw [if_neg h0] at e
    obtain ⟨a1,a2,a3,a4,a5,a6,a7⟩:=yka f p (n+1) 0 (by omega) (by omega) (hd.succ (by omega) (by omega)) (fun k h1 h2=>by rw [show k=n+1-1 by omega])
    rw [e]
    exact ⟨a1,a2,by omega,by omega,a5,a6,a7⟩
  .rw [decide_eq_false hc,if_neg (by simp)] at e
   have e:r=run (ltK key) (if ltK key (p.getD (n-1) 0) (p.getD n 0)=true then .ret (p,n,q) else kas_desc f p (n+1) (q+1)):=e
   rw [yrB] at e
   by_cases hc2:Kp key p (n-1)<Kp key p n
   .rw [decide_eq_true hc2,if_pos rfl] at e
    rw [e]
    exact ⟨Array.Perm.refl _,rfl,Nat.le_refl _,by show n<=n+(f+1);omega,hq,hd,he⟩
   .rw [decide_eq_false hc2,if_neg (by simp)] at e
    have heq:Kp key p n=Kp key p (n-1):=by omega
    obtain ⟨a1,a2,a3,a4,a5,a6,a7⟩:=yka f p (n+1) (q+1) (by omega) (by omega) (hd.succ (by omega) (by omega)) (fun k h1 h2=>by
     by_cases hk:k=n
     .rw [hk];rfl
     .rw [he k (by omega) (by omega),show n+1-1=n by omega,heq])
    rw [e]
    exact ⟨a1,a2,by omega,by omega,a5,a6,a7⟩
theorem Dn.rev {p:Array Nat}{n:Nat}(hn:n<=p.size) (h:Dn key p n):Up key (kas_rev p 0 n) n:=fun i j hij hj=>by
 rw [yrD hn,yrD hn,if_pos ⟨by omega,by omega⟩,if_pos ⟨by omega,by omega⟩]
 exact h _ _ (by omega) (by omega)
theorem yoc {p:Array Nat}{n nrem:Nat}(h1:1<=n) (hn:n<=nrem) (hs:nrem<=p.size) (h:Dn key p n) :
  let r:=run (ltK key) (kas_tail3 n nrem p)
  r.2.Perm p/\r.2.size=p.size/\1<=r.1/\r.1<=nrem/\Up key r.2 r.1:=by
 intro r
 have e:r=(run (ltK key) (kas_asc (kas_rev p 0 n) (nrem-n) n),kas_rev p 0 n):=by show run _ (KasT.bind _ _)=_;rw [yeS];rfl
 obtain ⟨a,b,c,_⟩:=yrC (kas_rev p 0 n) (nrem-n) n h1 (h.rev (by omega))
 rw [e]
 exact ⟨yda _ _ _,ydZ _ _ _,by omega,by omega,c⟩
theorem yhT {p:Array Nat}{n nrem:Nat}(h1:1<=n) (hn:n<nrem) (hs:nrem<=p.size) (h:Dn key p (n+1)) :
  let r:=run (ltK key) (kas_descPart n nrem p)
  r.2.Perm p/\r.2.size=p.size/\1<=r.1/\r.1<=nrem/\Up key r.2 r.1:=by
 intro r
 obtain ⟨a1,a2,a3,a4,a5,a6,a7⟩:=yka (key:=key) (nrem-(n+1)) p (n+1) 0 (by omega) (by omega) h (fun k h1 h2=>by rw [show k=n+1-1 by omega])
 generalize hd:run (ltK key) (kas_desc (nrem-(n+1)) p (n+1) 0)=d at *
 have e:r=run (ltK key) (if d.2.2>0 then kas_tail3 d.2.1 nrem (kas_rev d.1 (d.2.1-(d.2.2+1)) d.2.1) else kas_tail3 d.2.1 nrem d.1):=by show run _ (KasT.bind _ _)=_;rw [yeS,hd]
 by_cases h0:d.2.2>0
 .rw [if_pos h0] at e
  have kk:∀ k,Kp key (kas_rev d.1 (d.2.1-(d.2.2+1)) d.2.1) k=Kp key d.1 k:=fun k=>yhS (by omega) a7 k
  obtain ⟨b1,b2,b3,b4,b5⟩:=yoc (key:=key) (p:=kas_rev d.1 (d.2.1-(d.2.2+1)) d.2.1) (n:=d.2.1) (nrem:=nrem) (by omega) (by omega) (by rw [ydZ];omega) (fun i j hij hj=>by rw [kk,kk];exact a6 i j hij hj)
  rw [e]
  exact ⟨b1.trans ((yda _ _ _).trans a1),b2.trans ((ydZ _ _ _).trans a2),b3,b4,b5⟩
 .rw [if_neg h0] at e
  obtain ⟨b1,b2,b3,b4,b5⟩:=yoc (key:=key) (p:=d.1) (n:=d.2.1) (nrem:=nrem) (by omega) (by omega) (by omega) a6
  rw [e]
  exact ⟨b1.trans a1,b2.trans a2,b3,b4,b5⟩
theorem yod {p:Array Nat}{nrem:Nat}(h1:1<=nrem) (hs:nrem<=p.size) :
  let r:=run (ltK key) (kas_count nrem p)
  r.2.Perm p/\r.2.size=p.size/\1<=r.1/\r.1<=nrem/\Up key r.2 r.1:=by
 intro r
 obtain ⟨a,b,c,d⟩:=yrC (key:=key) p (nrem-1) 1 (Nat.le_refl _) (fun i j hij hj=>by rw [show i=j by omega];exact Int.le_refl _)
 generalize hn:run (ltK key) (kas_asc p (nrem-1) 1)=n at *
 have e:r=run (ltK key) (if (n == nrem)=true then .ret (n,p) else if n>1 then .ask (p.getD 0 0) (p.getD (n-1) 0) fun c=>if c=true then .ret (n,p) else kas_descPart n nrem (kas_rev p 0 n)
  else kas_descPart n nrem p):=by show run _ (KasT.bind _ _)=_;rw [yeS,hn]
 by_cases e1:n=nrem
 .rw [if_pos (by simp [e1])] at e
  rw [e]
  exact ⟨Array.Perm.refl _,rfl,a,by show n<=nrem;omega,c⟩
 .rw [if_neg (by simp [e1])] at e
  have dn:=d (by omega)
  by_cases h2:n>1
  .rw [if_pos h2] at e
   have e:r=run (ltK key) (if ltK key (p.getD 0 0) (p.getD (n-1) 0)=true then .ret (n,p) else kas_descPart n nrem (kas_rev p 0 n)):=e
   rw [yrB] at e
   by_cases hc:Kp key p 0<Kp key p (n-1)
   .rw [decide_eq_true hc,if_pos rfl] at e
    rw [e]
    exact ⟨Array.Perm.refl _,rfl,a,by show n<=nrem;omega,c⟩
   .rw [decide_eq_false hc,if_neg (by simp)] at e
    have eqs:∀ k,0<=k->k<n->Kp key p k=Kp key p (n-1):=fun k _ hk=>by
     have u1:=c 0 k (by omega) hk
     have u2:=c k (n-1) (by omega) (by omega)
     omega
    have kk:∀ k,Kp key (kas_rev p 0 n) k=Kp key p k:=fun k=>yhS (by omega) eqs k
    have hdn:Dn key (kas_rev p 0 n) (n+1):=fun i j hij hj=>by
     rw [kk,kk]
     by_cases ej:j=n
     .subst ej
      by_cases ei:i=j
      .rw [ei];exact Int.le_refl _
      .rw [eqs i (by omega) (by omega)];omega
     .rw [eqs i (by omega) (by omega),eqs j (by omega) (by omega)];exact Int.le_refl _
    obtain ⟨b1,b2,b3,b4,b5⟩:=yhT (key:=key) (p:=kas_rev p 0 n) (n:=n) (nrem:=nrem) a (by omega) (by rw [ydZ];omega) hdn
    rw [e]
    exact ⟨b1.trans (yda _ _ _),b2.trans (ydZ _ _ _),b3,b4,b5⟩
  .rw [if_neg h2] at e
   have hn1:n=1:=by omega
   subst hn1
   obtain ⟨b1,b2,b3,b4,b5⟩:=yhT (key:=key) (p:=p) (n:=1) (nrem:=nrem) (by omega) (by omega) hs (fun i j hij hj=>by
    by_cases e3:i=j
    .rw [e3];exact Int.le_refl _
    .rw [show i=0 by omega,show j=1 by omega]
     exact Int.le_of_lt dn)
   rw [e]
   exact ⟨b1,b2,b3,b4,b5⟩
theorem ykb {p:Array Nat}{k:Nat}(hu:Up key p k):∀ (f l r:Nat),r<=k->l<=r->r-l<=f->(∀ i,i<l->Kp key p i<=Kp key p k)->(∀ i,r<=i->i<k->Kp key p k<Kp key p i) ->
  let m:=run (ltK key) (kas_place p k f l r)
  m<=k/\(∀ i,i<m->Kp key p i<=Kp key p k)/\(∀ i,m<=i->i<k->Kp key p k<Kp key p i)
 | 0,l,r,hr,hl,hf,h1,h2=>by
  have:l=r:=by omega
  subst this
  exact ⟨hr,h1,h2⟩
 | f+1,l,r,hr,hl,hf,h1,h2=>by
  intro m
  have e:m=run (ltK key) (if l>=r then .ret l else .ask (p.getD k 0) (p.getD ((l+r)/2) 0) fun c=>if c=true then kas_place p k f l ((l+r)/2) else kas_place p k f ((l+r)/2+1) r):=rfl
  by_cases hlr:l>=r
  .rw [if_pos hlr] at e
   have:l=r:=by omega
   subst this
   rw [e]
   exact ⟨hr,h1,h2⟩
  .rw [if_neg hlr] at e
   have e:m=run (ltK key) (if ltK key (p.getD k 0) (p.getD ((l+r)/2) 0)=true then kas_place p k f l ((l+r)/2) else kas_place p k f ((l+r)/2+1) r):=e
   rw [yrB] at e
   by_cases hc:Kp key p k<Kp key p ((l+r)/2)
   .rw [decide_eq_true hc,if_pos rfl] at e
    rw [e]
    exact ykb hu f l ((l+r)/2) (by omega) (by omega) (by omega) h1 (fun i h3 h4=>by have:=hu ((l+r)/2) i h3 h4;omega)
   .rw [decide_eq_false hc,if_neg (by simp)] at e
    rw [e]
    exact ykb hu f ((l+r)/2+1) r hr (by omega) (by omega) (fun i h3=>by have:=hu i ((l+r)/2) (by omega) (by omega);omega) h2
theorem yrE {p:Array Nat}{src d:Nat}(hs:src<p.size) (hd:d<=src) (k:Nat):Kp key (bubble p src d) k=if k=src-d then Kp key p src else if src-d<k/\k<=src then Kp key p (k-1) else Kp key p k:=by
 unfold Kp
 rw [getElem?_bubble hs d hd]
 repeat' split
 all_goals rfl
theorem ywc:∀ (f:Nat) (p:Array Nat) (k:Nat),k+f<=p.size->Up key p k->(run (ltK key) (kas_bin f p k)).Perm p/\Up key (run (ltK key) (kas_bin f p k)) (k+f)
 | 0,p,k,_,h=>⟨Array.Perm.refl _,h⟩
 | f+1,p,k,hs,h=>by
  obtain ⟨a1,a2,a3⟩:=ykb (key:=key) h k 0 k (Nat.le_refl _) (by omega) (by omega) (fun i hi=>by omega) (fun i h1 h2=>by omega)
  generalize hl:run (ltK key) (kas_place p k k 0 k)=l at *
  have e:run (ltK key) (kas_bin (f+1) p k)=run (ltK key) (kas_bin f (bubble p k (k-l)) (k+1)):=by show run _ (KasT.bind _ _)=_;rw [yeS,hl]
  have hk:∀ i,Kp key (bubble p k (k-l)) i=if i=l then Kp key p k else if l<i/\i<=k then Kp key p (i-1) else Kp key p i:=fun i=>by
   rw [yrE (by omega) (by omega),show k-(k-l)=l by omega]
  have hu:Up key (bubble p k (k-l)) (k+1):=fun i j hij hj=>by
   rw [hk,hk]
   by_cases i1:i=l
   .rw [if_pos i1]
    by_cases j1:j=l
    .rw [if_pos j1];exact Int.le_refl _
    .rw [if_neg j1,if_pos ⟨by omega,by omega⟩]
     have:=a3 (j-1) (by omega) (by omega);omega
   .rw [if_neg i1]
    by_cases i2:l<i/\i<=k
    .rw [if_pos i2,if_neg (by omega),if_pos ⟨by omega,by omega⟩]
     exact h _ _ (by omega) (by omega)
    .rw [if_neg i2]
     have il:i<l:=by omega
     by_cases j1:j=l
     .rw [if_pos j1];exact a2 i il
     .rw [if_neg j1]
      split
      .exact h _ _ (by omega) (by omega)
      .exact h _ _ (by omega) (by omega)
  obtain ⟨b1,b2⟩:=ywc f (bubble p k (k-l)) (k+1) (by rw [bubble_size];omega) hu
  rw [e]
  exact ⟨b1.trans (bubble_perm _ _ _),by rw [show k+(f+1)=k+1+f by omega];exact b2⟩
theorem ykc {n:Nat}(h1:1<=n):(run (ltK key) (kas_sort n)).Perm (toArray (List.range n))/\Up key (run (ltK key) (kas_sort n)) n:=by
 have hs:(toArray (List.range n)).size=n:=by simp
 obtain ⟨a1,a2,a3,a4,a5⟩:=yod (key:=key) (p:=toArray (List.range n)) (nrem:=n) h1 (by omega)
 generalize hr:run (ltK key) (kas_count n (toArray (List.range n)))=r at *
 have e:run (ltK key) (kas_sort n)=run (ltK key) (if r.1<n then kas_bin (n-max r.1 1) r.2 (max r.1 1) else .ret r.2):=by show run _ (KasT.bind _ _)=_;rw [yeS,hr]
 by_cases h:r.1<n
 .rw [if_pos h] at e
  obtain ⟨b1,b2⟩:=ywc (key:=key) (n-max r.1 1) r.2 (max r.1 1) (by omega) (by rw [Nat.max_eq_left a3];exact a5)
  rw [e]
  exact ⟨b1.trans a1,by rw [show max r.1 1+(n-max r.1 1)=n by omega] at b2;exact b2⟩
 .rw [if_neg h] at e
  rw [e]
  exact ⟨a1,by rw [show n=r.1 by omega];exact a5⟩
noncomputable def AskIn {α:Type}(P:Nat->Prop) (lt:Nat->Nat->Bool):KasT α->Prop
 | .ret _=>True
 | .ask i j k=>P i/\P j/\AskIn P lt (k (lt i j))
theorem AskIn.bind {α β:Type}{P:Nat->Prop}{lt:Nat->Nat->Bool}{f:α->KasT β}:∀ {t:KasT α},AskIn P lt t->AskIn P lt (f (run lt t))->AskIn P lt (t.bind f)
 | .ret _,_,h=>h
 | .ask _ _ _,⟨a,b,c⟩,h=>⟨a,b,AskIn.bind c h⟩
theorem yBk {α:Type}{P:Nat->Prop}{lt:Nat->Nat->Bool}{cmp:Nat->Nat->(Bool->Shared->Prop)->Shared->Prop}{s:Shared}(hc:∀ i j C,P i->P j->C (lt i j) s->cmp i j C s) {Q:α->Shared->Prop} :
  ∀ (t:KasT α),AskIn P lt t->Q (run lt t) s->t.kasWp cmp Q s
 | .ret _,_,h=>h
 | .ask i j k,⟨a,b,c⟩,h=>hc i j _ a b (yBk hc (k (lt i j)) c h)
section
variable {P:Nat->Prop}{lt:Nat->Nat->Bool}
def All (P:Nat->Prop) (p:Array Nat):Prop:=∀ i,P (p.getD i 0)
theorem All.of_perm {p q:Array Nat}(h0:P 0) (h:All P p) (e:q.Perm p):All P q:=fun i=>by
 rw [yhR]
 by_cases hi:i<q.size
 .rw [Array.getElem?_eq_getElem hi]
  show P q[i]
  have hm:q[i]∈p:=(e.mem_iff).mp (Array.getElem_mem hi)
  obtain ⟨j,hj,e2⟩:=Array.getElem_of_mem hm
  have:=h j
  rw [yhR,Array.getElem?_eq_getElem hj] at this
  rw [<- e2];exact this
 .rw [Array.getElem?_eq_none (by omega)];exact h0
theorem yrF {p:Array Nat}(h:All P p):∀ (f n:Nat),AskIn P lt (kas_asc p f n)
 | 0,_=>trivial
 | f+1,n=>⟨h _,h _,by show AskIn P lt (if _ then _ else _);split;trivial;exact yrF h f (n+1)⟩
theorem ykd (h0:P 0):∀ (f:Nat) (p:Array Nat) (n q:Nat),All P p->AskIn P lt (kas_desc f p n q)
 | 0,_,_,_,_=>trivial
 | f+1,p,n,q,h=>by
  refine ⟨h _,h _,?_⟩
  show AskIn P lt (if _ then _ else _)
  split
  .split
   .exact ykd h0 f _ _ _ (h.of_perm h0 (yda _ _ _))
   .exact ykd h0 f _ _ _ h
  .refine ⟨h _,h _,?_⟩
   show AskIn P lt (if _ then _ else _)
   split
   .trivial
   .exact ykd h0 f _ _ _ h
theorem yfF:∀ (f:Nat) (p:Array Nat) (n q:Nat),(run lt (kas_desc f p n q)).1.Perm p
 | 0,_,_,_=>Array.Perm.refl _
 | f+1,p,n,q=>by
  show (run lt (if lt (p.getD n 0) (p.getD (n-1) 0)=true then (if q>0 then kas_desc f (kas_rev p (n-(q+1)) n) (n+1) 0 else kas_desc f p (n+1) 0)
   else .ask (p.getD (n-1) 0) (p.getD n 0) fun d=>if d=true then .ret (p,n,q) else kas_desc f p (n+1) (q+1))).1.Perm p
  split
  .split
   .exact (yfF f _ _ _).trans (yda _ _ _)
   .exact yfF f _ _ _
  .show (run lt (if lt (p.getD (n-1) 0) (p.getD n 0)=true then .ret (p,n,q) else kas_desc f p (n+1) (q+1))).1.Perm p
   split
   .exact Array.Perm.refl _
   .exact yfF f _ _ _
theorem yoe (h0:P 0) {p:Array Nat}(h:All P p) (n nrem:Nat):AskIn P lt (kas_tail3 n nrem p):=AskIn.bind (yrF (h.of_perm h0 (yda _ _ _)) _ _) trivial
theorem yhU (h0:P 0) {p:Array Nat}(h:All P p) (n nrem:Nat):AskIn P lt (kas_descPart n nrem p):=by
 refine AskIn.bind (ykd h0 _ _ _ _ h) ?_
 have:=h.of_perm h0 (yfF (lt:=lt) (nrem-(n+1)) p (n+1) 0)
 split
 .exact yoe h0 (this.of_perm h0 (yda _ _ _)) _ _
 .exact yoe h0 this _ _
theorem yuA (h0:P 0) {p:Array Nat}(h:All P p) (nrem:Nat):AskIn P lt (kas_count nrem p):=by
 refine AskIn.bind (yrF h _ _) ?_
 split
 .trivial
 .split
  .refine ⟨h _,h _,?_⟩
   show AskIn P lt (if _ then _ else _)
   split
   .trivial
   .exact yhU h0 (h.of_perm h0 (yda _ _ _)) _ _
  .exact yhU h0 h _ _
theorem yke {p:Array Nat}(h:All P p) (k:Nat):∀ (f l r:Nat),AskIn P lt (kas_place p k f l r)
 | 0,_,_=>trivial
 | f+1,l,r=>by
  show AskIn P lt (if _ then _ else _)
  split
  .trivial
  .refine ⟨h _,h _,?_⟩
   show AskIn P lt (if _ then _ else _)
   split
   .exact yke h k f _ _
   .exact yke h k f _ _
theorem ywd (h0:P 0):∀ (f:Nat) (p:Array Nat) (k:Nat),All P p->AskIn P lt (kas_bin f p k)
 | 0,_,_,_=>trivial
 | f+1,p,k,h=>AskIn.bind (yke h k _ _ _) (ywd h0 f _ _ (h.of_perm h0 (bubble_perm _ _ _)))
end
theorem yyc {n:Nat}(h1:1<=n):AskIn (· < n) (ltK key) (kas_sort n):=by
 have h:All (· < n) (toArray (List.range n)):=fun i=>by
  rw [yhR]
  by_cases hi:i<n
  .simp [hi]
  .simp [hi];omega
 refine AskIn.bind (yuA (by omega) h n) ?_
 obtain ⟨a1,_⟩:=yod (key:=key) (p:=toArray (List.range n)) (nrem:=n) h1 (by simp)
 split
 .exact ywd (by omega) _ _ _ (h.of_perm (by omega) a1)
 .trivial
end
end KasS
namespace KasS
open PySem PySem.W PyProof.Rows PySem.Calls
noncomputable def Tps (h:Heap):List Value->List (Int×Tok×Value)->Prop
 | [],[]=>True
 | v::vs,p::ps=>(∃ b o m,v=.ref b/\h.get? b=some o/\o.cls=.type "tuple"/\o.data=.seq #[.int p.1 p.2.1,p.2.2] m)/\Tps h vs ps
 | _,_=>False
theorem Tps.len {h:Heap}:∀ {vs:List Value}{ps:List (Int×Tok×Value)},Tps h vs ps->ps.length=vs.length
 | [],[],_=>rfl
 | _::_,_::_,⟨_,t⟩=>by rw [length_cons,length_cons,Tps.len t]
 | [],_::_,t=>t.elim
 | _::_,[],t=>t.elim
theorem Tps.get {h:Heap}:∀ {vs:List Value}{ps:List (Int×Tok×Value)},Tps h vs ps->∀ i,i<vs.length->∃ p b o m,ps[i]?=some p/\vs.getD i .none=.ref b/\h.get? b=some o/\o.cls=.type "tuple"/\o.data=.seq #[.int p.1 p.2.1,p.2.2] m
 | _::_,p::_,⟨⟨b,o,m,e1,e2,e3,e4⟩,_⟩,0,_=>⟨p,b,o,m,rfl,by rw [e1];rfl,e2,e3,e4⟩
 | _::vs,_::ps,⟨_,t⟩,i+1,hi=>by
  obtain ⟨p,b,o,m,e1,e2,e3⟩:=Tps.get t i (by simpa using hi)
  exact ⟨p,b,o,m,by simpa using e1,by simpa using e2,e3⟩
 | [],[],_,_,hi=>by simp at hi
 | [],_::_,t,_,_=>t.elim
 | _::_,[],t,_,_=>t.elim
theorem Tps.mono {h h':Heap}:∀ {vs:List Value}{ps:List (Int×Tok×Value)},Tps h vs ps->(∀ b o,Value.ref b∈vs->h.get? b=some o->h'.get? b=some o)->Tps h' vs ps
 | [],[],_,_=>trivial
 | _::_,_::_,⟨⟨b,o,m,e1,e2,e3⟩,t⟩,k=>⟨⟨b,o,m,e1,k b o (by rw [e1];exact mem_cons_self) e2,e3⟩,Tps.mono t fun b o hb=>k b o (mem_cons_of_mem _ hb)⟩
 | [],_::_,t,_=>t.elim
 | _::_,[],t,_=>t.elim
theorem Tps.kat {h:Heap}:∀ {vs:List Value}{ps:List (Int×Tok×Value)},Tps h vs ps->KatTups h vs (ps.map fun p=>Value.int p.1 p.2.1)
 | [],[],_=>trivial
 | _::_,p::_,⟨⟨b,o,m,e1,e2,e3,e4⟩,t⟩=>⟨⟨b,o,_,m,e1,e2,e3,e4,rfl⟩,Tps.kat t⟩
 | [],_::_,t=>t.elim
 | _::_,[],t=>t.elim
def yfn (ps:List (Int×Tok×Value)) (i:Nat):Int:=((ps[i]?).map (·.1)).getD 0
theorem yrG {ps:List (Int×Tok×Value)}(hn:(ps.map (·.1)).Nodup) {i j:Nat}(hi:i<ps.length) (hj:j<ps.length) (e:yfn ps i=yfn ps j):i=j:=by
 unfold yfn at e
 rw [List.getElem?_eq_getElem hi,List.getElem?_eq_getElem hj] at e
 have e:ps[i].1=ps[j].1:=e
 have h1:i<(ps.map (·.1)).length:=by simpa using hi
 have h2:j<(ps.map (·.1)).length:=by simpa using hj
 exact (List.getElem_inj (h₀:=h1) (h₁:=h2) hn).mp (by simpa using e)
section
variable {prog:Program}{w:World}{A:Around}{E:Value->Shared->Prop}{s:Shared}
theorem yyd {vs:List Value}{ps:List (Int×Tok×Value)}(tp:Tps s.heap vs ps) (hn:(ps.map (·.1)).Nodup) (i j:Nat) (C:Bool->Shared->Prop) (hi:i<vs.length) (hj:j<vs.length) (hC:C (ltK (yfn ps) i j) s) :
  kas_ask prog w A (tuples' true) vs i j C s:=by
 obtain ⟨p,b,o,m,e1,e2,e3,e4,e5⟩:=tp.get i hi
 obtain ⟨p',b',o',m',f1,f2,f3,f4,f5⟩:=tp.get j hj
 have k1:yfn ps i=p.1:=by unfold yfn;rw [e1];rfl
 have k2:yfn ps j=p'.1:=by unfold yfn;rw [f1];rfl
 unfold ltK at hC
 rw [k1,k2] at hC
 unfold kas_ask
 rw [e2,f2]
 refine kat_lt e3 e5 f3 f5 ?_
 show KatLex prog w A true (decide (2<2)) C [(Value.int p.1 p.2.1,Value.int p'.1 p'.2.1),(p.2.2,p'.2.2)] 0 s
 refine kat_cons (L2.eqAt_V (y:=.int p.1) (x:=.int p'.1) ⟨_,rfl⟩ ⟨_,rfl⟩ rfl rfl prog w _ _ ?_)
 show KatGo prog w A true _ C _ _ _ 0 (p.1 == p'.1) s
 by_cases e:p.1=p'.1
 .rw [beq_iff_eq.mpr e]
  have hij:i=j:=yrG hn (by rw [tp.len];exact hi) (by rw [tp.len];exact hj) (by rw [k1,k2,e])
  subst hij
  rw [e1] at f1
  cases f1
  refine kat_yes (kat_cons (SeqAt.EqAt.same _ prog w _ _ (kat_yes (kat_nil ?_))))
  rw [decide_eq_false (by omega)] at hC
  exact hC
 .rw [beq_eq_false_iff_ne.mpr e]
  exact kat_no (oneLt_int hC)
theorem yuB {a:Addr}{vs:List Value}{ps:List (Int×Tok×Value)}{n:Nat}{P:PySem.Fin->Shared->Prop}(ho:s.heap.get? a=some (seqObj "list" vs.toArray n)) (tp:Tps s.heap vs ps) (na:Value.ref a∉vs) (hn:(ps.map (·.1)).Nodup) (h64:vs.length<64)
  (h:∀ q:Array Nat,q.Perm (toArray (List.range vs.length))->Up (yfn ps) q vs.length->P (.done (.ret .none)) { s with heap:=sortedHeap s.heap a vs (toArray (q.toList.map fun i=>vs.getD i Value.none)) }) :
  wpAny (model prog w) A (Builtin.«list.sort» ⟨[.ref a],[]⟩) P E s:=by
 have ha:a<s.heap.objs.size:=Heap.lt_size ho
 have z64:vs.length<=sizeLine:=by rw [sizeLine_eq];omega
 rw [list_sort_plain]
 obtain ⟨e1,ho1⟩:∃ e1,(s.heap.update a (Obj.mapSeq fun _=>(#[]:Array Value))).get? a=some (seqObj "list" #[] e1):=⟨_,get?_update_seq ho _⟩
 refine wpAny_bind (listItems_at ho rfl (wpAny_bind (listUpdate_at ho rfl (wpAny_bind (seqEpoch_at ho1 rfl (wpAny_bind (wpAny_newTuple (wpAny_bind (wpAny_newList (wpAny_holding ?_) (zero_le _))) (by simpa using z64))))) (by simpa using z64) (zero_le _))))
 generalize hH:((s.heap.update a (Obj.mapSeq fun _=>(#[]:Array Value))).push (seqObj "tuple" vs.toArray 0)).push (seqObj "list" #[] 0)=H6
 have keep:∀ b o,b≠a->s.heap.get? b=some o->H6.get? b=some o:=fun b o hb e=>by
  rw [<- hH]
  exact Heap.get?_push_of_some _ (Heap.get?_push_of_some _ ((Heap.get?_update_other _ _ (Ne.symm hb)).trans e))
 have ho6:H6.get? a=some (seqObj "list" #[] e1):=by rw [<- hH];exact Heap.get?_push_of_some _ (Heap.get?_push_of_some _ ho1)
 have tp6:Tps H6 vs ps:=tp.mono fun b o hb e=>keep b o (fun z=>na (z ▸ hb)) e
 show wpAny (model prog w) A _ P E { s with heap:=H6 }
 dsimp only
 have fin:∀ q:Array Nat,q.Perm (toArray (List.range vs.length))->Up (yfn ps) q vs.length->P (.done (.ret .none)) { s with heap:=H6.update a (Obj.mapSeq fun _=>toArray (q.toList.map fun i=>vs.getD i Value.none)) }:=fun q h1 h2=>by
  have:=h q h1 h2
  unfold sortedHeap at this
  rw [show ((s.heap.update a (Obj.mapSeq fun _=>(#[]:Array Value))).push (seqObj "tuple" vs.toArray 0)).push (seqObj "list" #[] 0)=H6 from hH] at this
  exact this
 by_cases h2:vs.toArray.size<2
 .rw [if_pos h2,if_pos h2]
  refine wpAny_bind (wpAny_pure ?_)
  rw [StateT.run_pure]
  have hz:((arrOf (SortSt.mk' general' (vs.toArray.zip vs.toArray) #[] 7 none)).map (·.2))=toArray ((toArray (List.range vs.length)).toList.map fun i=>vs.getD i Value.none):=by
   show (vs.toArray.zip vs.toArray).map (·.2)=_
   apply Array.toList_inj.mp
   simp only [Array.toList_map,Array.toList_zip,List.map_snd_zip (Nat.le_refl _)]
   apply List.ext_getElem
   .simp
   .intro i h3 h4
    simp
    rw [List.getElem?_eq_getElem (by simpa using h3)];rfl
  refine wpAny_bind (wpAny_pure (wpAny_bind (seqEpoch_at ho6 rfl (wpAny_bind (listUpdate_at ho6 rfl ?_ (zero_le _) ?_)))))
  .dsimp only
   rw [hz]
   simp only [bne_self_eq_false,Bool.false_eq_true,if_false]
   exact wpAny_pure (fin _ (Array.Perm.refl _) fun i j hij hj=>by rw [show i=j by (simp at h2);omega];exact Int.le_refl _)
  .rw [hz];simp;omega
 .rw [if_neg h2,if_neg h2]
  have hv2:2<=vs.length:=by simp at h2;omega
  refine wpAny_bind (kat_kind (s:={ s with heap:=H6 }) (T:=.type "int") tp6.kat (by rw [length_map,tp.len];omega) (fun v hv=>?_) rfl ?_)
  .obtain ⟨p,_,rfl⟩:=List.mem_map.mp hv
   exact .now
  have run1:=kat_run (prog:=prog) (w:=w) (A:=A) (E:=E) (s:={ s with heap:=H6 }) (κ:=tuples' true) (ks:=vs) (vs:=vs)
   (Q:=fun st' s'=>s'={ s with heap:=H6 }/\∃ q:Array Nat,q.Perm (toArray (List.range vs.length))/\Up (yfn ps) q vs.length/\(arrOf st').map (·.2)=toArray (q.toList.map fun i=>vs.getD i Value.none)/\failedOf st'=none)
   (G:=fun q s'=>s'={ s with heap:=H6 }/\q.Perm (toArray (List.range vs.length))/\Up (yfn ps) q vs.length) rfl hv2 h64
   (fun q st' s' z1 z2 z3 z4=>⟨z4.1,q,z4.2.1,z4.2.2,kat_snds rfl z2,z3⟩)
   (yBk (P:=(· < vs.length)) (lt:=ltK (yfn ps)) (fun i j C hi hj hC=>yyd tp6 hn i j C hi hj hC) _ (yyc (by omega)) ⟨rfl,(ykc (by omega)).1,(ykc (by omega)).2⟩)
  refine wpAny_bind (wpAny_mono run1 ?_ fun _ _ x=>x)
  rintro ⟨⟨⟩,st'⟩ s' ⟨rfl,q,z1,z2,z3,z4⟩
  refine wpAny_bind (seqEpoch_at ho6 rfl (wpAny_bind (listUpdate_at ho6 rfl ?_ (zero_le _) ?_)))
  .dsimp only
   rw [z3,z4]
   simp only [bne_self_eq_false,Bool.false_eq_true,if_false]
   exact wpAny_pure (fin q z1 z2)
  .dsimp only
   rw [z3]
   have:=z1.size_eq
   simp at this ⊢
   omega
end
end KasS
namespace PXS
open PySem L2 PySem.Spec PyProof.Rows KasS PX
theorem yuC {P:Program}{w:World}{H:Hp}{h:Heap}{a:Addr}{o:HO}(x:ObjOk P w H h a o):∃ u,h.get? a=some u:=by
 cases o with
 | lst xs=>obtain ⟨_,_,_,_,e⟩:=x;exact ⟨_,e⟩
 | tup xs=>obtain ⟨_,_,_,ob,e,_⟩:=x;exact ⟨_,e⟩
 | dK kvs=>obtain ⟨_,_,_,_,o,_,_,e,_⟩:=x;exact ⟨_,e⟩
 | dT kvs=>obtain ⟨_,_,_,_,o,_,_,e,_⟩:=x;exact ⟨_,e⟩
 | set S n=>obtain ⟨o,_,_,_,e,_⟩:=x;exact ⟨_,e⟩
 | ins C dx fs=>obtain ⟨_,_,_,e,_⟩:=x;exact ⟨_,e⟩
 | own y=>obtain ⟨_,e⟩:=x;exact ⟨_,e⟩
 | xd fs=>obtain ⟨_,⟨_,_,_,e,_⟩,_⟩:=x;exact ⟨_,e⟩
 | rng lo hi=>obtain ⟨_,_,_,e⟩:=x;exact ⟨_,e⟩
 | frz ob u=>obtain ⟨e,_⟩:=x;exact ⟨_,e⟩
 | tbl ps=>exact ⟨_,show h.get? a=some _ from x⟩
 | met f y=>exact ⟨_,show h.get? a=some _ from x⟩
 | ext φ=>obtain ⟨_,⟨_,e⟩,_⟩:=x;exact ⟨_,e⟩
section
variable {X:Cx}
theorem yof:MtM X "dict.items" yqY:=by
 intro pins s σ H x vs v us Q I rx rv h
 obtain ⟨d,kvs,rfl,rfl,hH,q⟩:=h
 cases rx
 have hus:=rv.zero
 subst hus
 obtain ⟨z,sy,ws,kv,hD⟩:=I.hok d _ hH
 refine call_meetsIn PySem.F.slot_dict_items hD.typeIs PySem.F.entry_dict_items (PySem.F.args_dict_items_1 _) (meets_dict_items _ d sy) ⟨⟨ws,hD⟩,?_⟩
 refine ⟨.ref _,_,I.laid (t':=s.toks) (o:=yeY s.heap.objs.size d) (fun _ _ q=>Heap.get?_push_of_some _ q) (Nat.le_refl _) ⟨Heap.get?_push_size _ rfl,⟨_,Heap.get?_push_size _ rfl⟩,fun h1 h2 e k=>k _ e⟩,rfl,q _ I.fresh⟩
theorem yye {pins:List (Addr×Obj)}{σ:L2.St}{H H':Hp}{s:Shared}{h':Heap}{t':Nat}(I:Inv X pins σ H s) (k:∀ b u,s.heap.get? b=some u->h'.get? b=some u) (sub:∀ b o,H b=some o->H' b=some o)
  (nw:∀ b o,H b=none->H' b=some o->s.heap.get? b=none/\ObjOk X.prog X.w H' h' b o):Inv X pins σ H' { s with heap:=h',toks:=t' }:=by
 refine I.un ⟨fun b u q _ _ _=>k b u q,fun b u q _ _ _=>⟨u.slots,k b u q⟩,fun b u q n _=>?_,fun b u q _=>⟨u,k b u q⟩,fun b xs q=>sub _ _ q,fun b u xs q=>sub _ _ q,fun b ps q=>⟨#[],by rw [sub _ _ q];simp⟩⟩ fun b o e=>?_
 .cases e:H' b with
  | none=>rfl
  | some o=>rw [(nw b o n e).1] at q;cases q
 .cases e2:H b with
  | none=>exact (nw b o e2 e).2
  | some u =>
   have:=sub _ _ e2
   rw [e] at this
   cases this
   exact (I.hok b o e2).stay (fun c v _ q=>k c v q) (fun c q=>sub _ _ q) fun c xs q=>sub _ _ q
theorem ywe {h:Heap}:∀ (as:List Addr) (ws:List (Key×Value)) (ns:List Int),as.length=ws.length->ws.map (·.1)=ns.map Sum.inl ->
  (∀ (j:Nat) (a:Addr),as[j]?=some a->∃ key k x,ws[j]?=some (k,x)/\ylV k key=true/\h.get? a=some { cls:=.type "tuple",data:=.seq #[key,x] }) ->
  ∃ ps,Tps h (as.map Value.ref) ps/\ps.map (·.1)=ns/\ps.map (·.2.2)=ws.map (·.2)
 | [],[],ns,_,e,_=>⟨[],trivial,by cases ns with|nil=>rfl|cons=>simp at e,rfl⟩
 | [],_::_,_,hl,_,_=>by simp at hl
 | _::_,[],_,hl,_,_=>by simp at hl
 | a::as,(k,x)::ws,ns,hl,e,hp=>by
  cases ns with
  | nil=>simp at e
  | cons n ns =>
   simp only [map_cons,List.cons.injEq] at e
   obtain ⟨ps,t,e1,e2⟩:=ywe as ws ns (by simpa using hl) e.2 fun j b hb=>by
    obtain ⟨key,k',x',f1,f2,f3⟩:=hp (j+1) b (by simpa using hb)
    exact ⟨key,k',x',by simpa using f1,f2,f3⟩
   obtain ⟨key,k',x',f1,f2,f3⟩:=hp 0 a rfl
   simp at f1
   obtain ⟨rfl,rfl⟩:=f1
   obtain ⟨j,tk,g1,rfl⟩:∃ j tk,k=Sum.inl j/\key=Value.int j tk:=by
    rcases yU f2 with ⟨j,tk,g1,g2⟩|⟨y,tk,g1,g2⟩
    .exact ⟨j,tk,g1,g2⟩
    .rw [g1] at e;cases e.1
   rw [g1] at e
   obtain rfl:j=n:=by injection e.1
   exact ⟨(j,tk,x)::ps,⟨⟨a,_,_,rfl,f3,rfl,rfl⟩,t⟩,by rw [map_cons,e1],by rw [map_cons,e2];rfl⟩
theorem yea {α:Type}:∀ {as:List Addr}{ts:List α}{b:Addr}{t:α},(as.zip ts).lookup b=some t->∃ j:Nat,as[j]?=some b/\ts[j]?=some t
 | [],_,_,_,h=>by simp at h
 | _::_,[],_,_,h=>by simp at h
 | a::as,u::ts,b,t,h=>by
  rw [zip_cons_cons,lookup_cons] at h
  split at h
  .rename_i hb
   cases h
   exact ⟨0,by rw [eq_of_beq hb];rfl,rfl⟩
  .obtain ⟨j,h1,h2⟩:=yea h
   exact ⟨j+1,by simpa using h1,by simpa using h2⟩
theorem yhV:∀ {kvs:List (Key×V)}{ws:List (Key×Value)},KV kvs ws->ws.map (·.1)=kvs.map (·.1)/\∀ i:Nat,i<kvs.length->RelV ((kvs.map (·.2)).getD i .non) ((ws.map (·.2)).getD i .none):=by
 intro kvs ws h
 induction h with
 | nil=>exact ⟨rfl,fun i hi=>by simp at hi⟩
 | @cons p q _ _ h1 _ ih =>
  refine ⟨by rw [map_cons,map_cons,ih.1,h1.1],fun i hi=>?_⟩
  cases i with
  | zero=>exact h1.2
  | succ i=>simpa using ih.2 i (by simpa using hi)
theorem yog {α:Type}{f:α->V}{g:α->Value}:∀ {l:List α},(∀ i∈l,RelV (f i) (g i))->Vals (l.map f) (l.map g)
 | [],_=>.nil
 | i::l,h=>.cons (h i mem_cons_self) (yog fun j hj=>h j (mem_cons_of_mem _ hj))
theorem yha (hc:X.calm=true):yfg X (.builtin "sorted") rSI:=by
 intro pins s σ H xs us Q I rr hh
 obtain ⟨r,d,kvs,ns,rfl,hr,hd,hk,h64,q⟩:=hh
 obtain ⟨u,rfl,rx⟩:=vals1 rr
 cases rx
 obtain ⟨hview,_,_⟩:=I.hok r _ hr
 obtain ⟨z,sy,ws,kv,hD⟩:=I.hok d _ hd
 obtain ⟨ep,hat⟩:=hD.dictAt
 obtain ⟨kv1,kv2⟩:=yhV kv
 have lw:ws.length=kvs.length:=by have:=congrArg length kv1;simpa using this
 have ln:ns.length=kvs.length:=by have:=congrArg length hk;simpa using this.symm
 have nd:ns.Nodup:=by
  obtain ⟨_,_,_,_,_,_,_,_,n⟩:=hD
  rw [kv1,hk] at n
  exact (List.pairwise_map.mp n).imp fun h e=>h (by rw [e])
 refine Calls.call_function_entry kind_sorted plain_sorted entry_sorted (args_sorted1 _) ?_
 unfold Builtin.«sorted»
 refine wpAny_bind (m:=checkCount "sorted" 1 1 _) (wpAny_pure ?_)
 refine wpAny_bind (PySem.W.kdx_collect (A:=X.A.in1) (knd:=ycp X.prog X.w) (kvs:=ws) (ep:=ep) (I.ok.hd hc) ⟨_,hview,rfl,rfl⟩ hat (by rw [lw];exact z) fun h' tk as keep hl hG=>wpAny_bind (wpAny_newList ?_ (by rw [length_map,hl,lw];exact z)))
 obtain ⟨ps,tp,e1,e2⟩:=ywe (h:=h') as ws ns hl (by rw [kv1,hk]) fun j a ha=>hG.pairs j a ha
 have la:as.length=ns.length:=by omega
 have above:∀ a∈as,s.heap.objs.size<a:=hG.above
 have there:∀ a∈as,a<h'.objs.size:=fun a ha=>hG.there ha
 generalize hB:h'.objs.size=B at *
 have noB:s.heap.get? B=none:=by
  cases e:s.heap.get? B with
  | none=>rfl
  | some o=>exact absurd (Heap.lt_size (keep B o e)) (by rw [hB];exact lt_irrefl _)
 have noA:∀ a∈as,s.heap.get? a=none:=fun a ha=>Heap.get?_none_of_le (le_of_lt (above a ha))
 have free:∀ b,s.heap.get? b=none->H b=none:=fun b e=>by
  cases e2:H b with
  | none=>rfl
  | some o=>obtain ⟨u,hu⟩:=yuC (I.hok b o e2);rw [e] at hu;cases hu
 have hoL:(h'.push { cls:=.type "list",data:=.seq (as.map Value.ref).toArray }).get? B=some (seqObj "list" (as.map Value.ref).toArray 0):=by rw [<- hB];exact Heap.get?_push_size _ rfl
 refine wpAny_bind (wpAny_holding (wpAny_call_entry PySem.F.slot_list_sort ⟨_,hoL,rfl⟩ PySem.F.entry_list_sort ?body (PySem.F.args_list_sort_1 _)))
 case body =>
  refine yuB (s:={ s with heap:=h'.push { cls:=.type "list",data:=.seq (as.map Value.ref).toArray },toks:=tk }) (ps:=ps) hoL (tp.mono fun b o _ e=>Heap.get?_push_of_some _ e) (fun z=>?_) (by rw [e1];exact nd) (by rw [length_map];omega) fun qa z1 z2=>?_
  .obtain ⟨a,ha,e⟩:=List.mem_map.mp z
   cases e
   exact absurd (there B ha) (lt_irrefl _)
  refine ⟨_,rfl,wpAny_pure ⟨_,rfl,?_⟩⟩
  have lq:qa.toList.length=ns.length:=by have:=z1.size_eq;simpa [la] using this
  have pq:qa.toList.Perm (List.range ns.length):=by have:=Array.perm_iff_toList_perm.mp z1;simpa [la] using this
  have inq:∀ i∈qa.toList,i<ns.length:=fun i hi=>by have:=pq.mem_iff.mp hi;simpa using this
  have nda:as.Nodup:=hG.rise.imp fun h=>ne_of_lt h
  have ndq:qa.toList.Nodup:=pq.nodup_iff.mpr List.nodup_range
  generalize hS:sortedHeap (h'.push { cls:=.type "list",data:=.seq (as.map Value.ref).toArray }) B (as.map Value.ref) (toArray (qa.toList.map fun i=>(as.map Value.ref).getD i Value.none))=S
  have hFa:∀ b o,b≠B->h'.get? b=some o->S.get? b=some o:=fun b o hb e=>by
   rw [<- hS]
   unfold sortedHeap
   exact (Heap.get?_update_other _ _ (Ne.symm hb)).trans (Heap.get?_push_of_some _ (Heap.get?_push_of_some _ ((Heap.get?_update_other _ _ (Ne.symm hb)).trans (Heap.get?_push_of_some _ e))))
  have hFB:∃ c,S.get? B=some (seqObj "list" (toArray (qa.toList.map fun i=>(as.map Value.ref).getD i Value.none)) c):=by
   rw [<- hS]
   unfold sortedHeap
   exact ⟨_,get?_update_seq (Heap.get?_push_of_some _ (Heap.get?_push_of_some _ (get?_update_seq hoL _))) _⟩
  have hF:∀ b o,s.heap.get? b=some o->S.get? b=some o:=fun b o e=>hFa b o (fun z=>by rw [z,noB] at e;cases e) (keep b o e)
  have aget:∀ i,i<ns.length->∃ a,as[i]?=some a/\as.getD i 0=a/\a∈as:=fun i hi=>by
   have h1:i<as.length:=by omega
   exact ⟨as[i],List.getElem?_eq_getElem h1,by simp [getD,List.getElem?_eq_getElem h1],getElem_mem h1⟩
  have mem:∀ a∈(qa.toList.map fun i=>as.getD i 0),a∈as:=fun a ha=>by
   obtain ⟨i,hi,rfl⟩:=List.mem_map.mp ha
   obtain ⟨a,_,e,m⟩:=aget i (inq i hi)
   rw [e];exact m
  have neB:∀ a∈as,a≠B:=fun a ha=>ne_of_lt (there a ha)
  have kat:∀ i,yfn ps i=ns.getD i 0:=fun i=>by
   unfold yfn
   rw [<- e1]
   simp [getD]
  refine ⟨.ref B,yCA H B (qa.toList.map fun i=>as.getD i 0) (qa.toList.map fun i=>[V.int (ns.getD i 0),(kvs.map (·.2)).getD i .non]),?_,rfl,q B _ qa.toList pq ?_ nd (by simp) ?_ ?_⟩
  .show L2.Inv X pins σ _ { s with heap:=S,toks:=tk }
   refine yye I hF (fun b o e=>?_) fun b o e e2=>?_
   .unfold yCA upd ynS
    rw [if_neg fun z=>by rw [z,free _ noB] at e;cases e]
    cases e3:List.lookup b ((qa.toList.map fun i=>as.getD i 0).zip (qa.toList.map fun i=>[V.int (ns.getD i 0),(kvs.map (·.2)).getD i .non])) with
    | none=>exact e
    | some t =>
     obtain ⟨j,g1,_⟩:=yea e3
     rw [free _ (noA b (mem b (mem_of_getElem? g1)))] at e
     cases e
   .unfold yCA upd ynS at e2
    split at e2
    .rename_i hb
     subst hb
     cases e2
     obtain ⟨c,hc⟩:=hFB
     refine ⟨noB,by simp [lq];rw [ln];exact z,_,c,?_,hc⟩
     rw [map_map]
     refine yog fun i hi=>?_
     obtain ⟨a,f1,f2,_⟩:=aget i (inq i hi)
     show RelV (V.ref (as.getD i 0)) _
     rw [f2]
     simp [getD,f1]
     rfl
    .split at e2
     .rename_i t e3
      cases e2
      obtain ⟨j,g1,g2⟩:=yea e3
      rw [getElem?_map] at g1 g2
      cases e4:qa.toList[j]? with
      | none=>rw [e4] at g1;cases g1
      | some i =>
       rw [e4] at g1 g2
       have hi:=inq i (mem_of_getElem? e4)
       obtain ⟨a,f1,f2,f3⟩:=aget i hi
       simp only [map_some,Option.some.injEq] at g1 g2
       rw [f2] at g1
       subst g1
       subst g2
       obtain ⟨key,k,x,w1,w2,w3⟩:=hG.pairs i a f1
       have wk:k=Sum.inl (ns.getD i 0):=by
        have h1:(ws.map (·.1))[i]?=some k:=by rw [getElem?_map,w1];rfl
        rw [kv1,hk,getElem?_map] at h1
        rw [List.getElem?_eq_getElem hi] at h1
        simp [getD,List.getElem?_eq_getElem hi] at h1 ⊢
        exact h1.symm
       obtain ⟨tk2,rfl⟩:∃ tk,key=Value.int (ns.getD i 0) tk:=by
        rcases yU w2 with ⟨j,tk,g1,g2⟩|⟨y,tk,g1,g2⟩
        .rw [wk] at g1;cases g1;exact ⟨tk,g2⟩
        .rw [wk] at g1;cases g1
       have wx:(ws.map (·.2)).getD i .none=x:=by simp [getD,w1]
       refine ⟨noA a f3,by simp [sizeLine_eq],[_,x],.cons ⟨_,rfl⟩ (.cons ?_ .nil),_,hFa a _ (neB a f3) w3,rfl,_,rfl⟩
       rw [<- wx]
       exact kv2 i (by omega)
     .rw [e] at e2;cases e2
  .refine List.pairwise_iff_getElem.mpr fun i j hi hj hij=>?_
   have:=z2 i j (le_of_lt hij) (by simpa [la,lq] using hj)
   unfold Kp at this
   rw [kat,kat] at this
   have hi':i<qa.size:=by simpa using hi
   have hj':j<qa.size:=by simpa using hj
   rw [Array.getElem?_eq_getElem hi',Array.getElem?_eq_getElem hj'] at this
   simpa using this
  .intro a ha
   rcases mem_cons.mp ha with rfl|ha
   .exact free _ noB
   .exact free _ (noA a (mem a ha))
  .refine List.nodup_cons.mpr ⟨fun h=>neB _ (mem _ h) rfl,?_⟩
   refine List.pairwise_map.mpr (ndq.imp_of_mem fun {i j} hi hj hij e=>hij ?_)
   obtain ⟨a,f1,f2,_⟩:=aget i (inq i hi)
   obtain ⟨b,g1,g2,_⟩:=aget j (inq j hj)
   rw [f2,g2] at e
   subst e
   exact (List.getElem?_inj (by have:=inq i hi;omega) nda).mp (f1.trans g1.symm)
variable {A:Nat->Addr}{o:Expr}{xa:XE}{pos p apos cpos:Pos}{x:Str}
theorem z_sortI (ho:ZE X A o xa) (hm:X.mg x=none) (hc:X.calm=true:=by rfl) (m:Nm x:=by exact ⟨by rfl',by rfl',by rfl'⟩) (hg:Gl X x:=by rfl) (hv:bootBuiltins x=some (.builtin "sorted"):=by rfl') (hbase:attributeBase o "items" X.env (eval o X.env)=eval o X.env:=by rfl) (hline:(apos.endLine == cpos.line)=true:=by rfl) (he:starEach [.Call (.Attribute o "items" apos) [] [] cpos] X.env=(false,eval (.Call (.Attribute o "items" apos) [] [] cpos) X.env)::starEach [] X.env:=by rfl) (hpl:(backTo pos (starEach [] X.env)).any (·.1)=false:=by rfl) :
  ZO X A (.Call (.Name x p) [.Call (.Attribute o "items" apos) [] [] cpos] [] pos) (yfE xa) :=
 wO (yjw (yha hc) hg hm hv (ygd (yqg plainAttrs_dict PySem.F.slot_dict_items PySem.F.type_dict_items yof ho.of hbase hline) ykA he) m.n m.d he hpl) (yrc (K:=ckX X A) sE)
end
end PXS
namespace PX
open PySem L2 PySem.Spec PyProof.Rows
section
variable {X:Cx}{A:Nat->Addr}{tg a:Expr}{p pos:Pos}{xa:XE}
theorem yyf {rest:List Stmt}{s:XS}{y:XG}(hi:ZE X A a xa) (hg:ZG X A tg y) (hb:ZSs X A rest s) (hp:PassesOwn (model X.prog X.w) X.A X.env X.xe:=by exact PassesOwn.never) (hc:X.calm=true:=by rfl) (hs:∀ x,foldedSetIterable a X.env x=pure x:=by exact fun _=>rfl):ZS X A (.For tg a rest [] pos) (yrd false xa y s) :=
 wS (ypO hp hc (ylZ hi.of) hg.of hb.of hs) (yus (K:=ckX X A) sE sG sS)
end
end PX
namespace PX
open PySem L2 PySem.Spec PyProof.Rows
section
variable {X:Cx}{A:Nat->Addr}{a o:Expr}{xa xb:XE}{pos apos cpos:Pos}
theorem yBl:MtM X "dict.update" yFK:=by
 intro pins s σ H x vs v us Q I rx rv h
 obtain ⟨d,b,kvs,more,rfl,rfl,hne,hH,hB,hz,q⟩:=h
 cases rx
 obtain ⟨u,rfl,ru⟩:=rv.one
 cases ru
 obtain ⟨z,hd,vs,rel,dd⟩:=yxJ I.hok hH
 obtain ⟨z2,hd2,vs2,rel2,dd2⟩:=yxJ I.hok hB
 refine call_meetsIn PySem.F.slot_dict_update dd.typeIs PySem.F.entry_dict_update (PySem.F.args_dict_update_2 _ _) (meets_dict_update (ycp X.prog X.w) d b hne hd2) ⟨vs,vs2,dd,dd2,by rw [<- rel.length,<- rel2.length];exact hz,fun h' dd' _ hs=>?_⟩
 have he:∃ q,h'.get? d=some q:=let ⟨q,_,_,hq,_⟩:=dd';⟨q,hq⟩
 refine ⟨.non,_,ymF (t':=s.toks) I (by rw [hH];exact True.intro) hs he (yvU ?_ hd (rel2.merge rel) dd'),rfl,q⟩
 exact Nat.le_trans (yfC more kvs) hz
end
end PX
namespace PX
open PySem L2 PySem.Spec PyProof.Rows
variable {X:Cx}{A:Nat->Addr}{x:Str}
end PX
namespace PX
open PySem L2 PySem.Spec PyProof.Rows
variable {X:Cx}{A:Nat->Addr}{x y:Str}{py spos:Pos}{iy:Nat}
theorem yuD {elt iter:Expr}{px:Pos}{scope:Scope}{cpos:Pos}{it:XA}{xe:XE}{ix:List Nat}(fr:List Str) (hi:ZI X A (.Name x px) iter it) (he:∀ (cl:List (Str×Addr)) (C:Addr) (s₃:Shared) (H₃:Hp) (fp:List Addr) (pins:List (Addr×Obj)),ZE (cxC X scope cl C (x::fr) s₃ H₃ fp pins) A elt xe) (hc:X.calm=true:=by rfl) (hfr:FrOk X scope ix fr:=by repeat' first|exact True.intro|exact rfl|refine And.intro ?_ ?_) (hnd:(x::fr).Nodup:=by rfl') (hkind:scope.kind=.function:=by rfl) (hcell:∀ y∈scope.names,y.2≠.cell:=by rfl') (hnames:∀ y∈scope.names,y.2=.local->scope.names.lookup y.1=some .local:=by rfl') (hfree0:∀ y∈scope.names,y.2=.free->y.1∈fr:=by rfl') (hx:scope.names.lookup x=some .local:=by rfl) (hs:∀ v,foldedSetIterable iter X.env v=pure v:=by exact fun _=>rfl) (hN:X.N.Nodup:=by exact nd) (hyi:X.N[iy]?=some y:=by rfl) (hyx:Loc X.env.scope y:=by first|exact Or.inl rfl|exact Or.inr rfl) (hyf:X.fn y=true\/X.env.scope.names.lookup y=some .local:=by exact Or.inl rfl) (hsw:swapsWith (.ListComp elt [⟨.Name x px,iter,[],0⟩] scope cpos) (some (.Name y py)) spos.line X.env=pure true:=by rfl):ZS X A (.Assign [.Name y py] (.ListComp elt [⟨.Name x px,iter,[],0⟩] scope cpos) spos) (ycg (yhy (yfj it ix xe)) (yu iy)) :=
 wS (yEn (yux ix fr hc hi.of hfr (te:=cE (ckX X A) xe) (fun cl C s₃ H₃ fp pins=>(he cl C s₃ H₃ fp pins).of) (fun _ _ _ _ _ _=>.nil) hnd hkind hcell hnames hfree0 hx hs hN hyi hyx hyf hsw)) (yqA (yqv (ynD (K:=ckX X A) ix sI sE)) (yhB iy))
theorem yyg {k lv:Nat}{f:Addr}{fd:FuncData}{ps:List Str}{p pos:Pos}{fi} (M:Mk X.K (A k) f) (F:FnOk X.prog X.w X.K X.mg X.base CX0 lv f fd ps (spI (ckX X A) 0 k fi)) (hm:X.mg x=some (.ref (A k))) (hb:Binds X.K fd ps []) (hr:Room (lv+1) X.A:=by exact hr.mono (by omega)) (m:Nm x:=by exact ⟨by rfl',by rfl',by rfl'⟩) (hg:Gl X x:=by rfl):ZO X A (.Call (.Name x p) [] [] pos) (ygV fi yh) :=
 wO (yto M F hr hg hm hb .nil ykJ m.d) (ynG (K:=ckX X A) (k:=k) yjJ ymw)
end PX
namespace PX
open PySem L2 PySem.Spec PyProof.Rows KasS PXS
section
variable {X:Cx}{A:Nat->Addr}
theorem yhw {vs:List Value}{ns:List Int}(h:IntsAre vs ns):Vals (ns.map V.int) vs:=by
 induction h with
 | nil=>exact .nil
 | cons n t _ ih=>exact .cons ⟨t,rfl⟩ ih
variable {a:Expr}{xa:XE}{aa:XA}{pos p:Pos}{x:Str}{n:Nat}
end
end PX
namespace PX
open PySem L2 PySem.Spec PyProof.Rows KasS PXS
section
def NF (X:Cx) (a:Addr):Prop:=∀ o u,X.H₀ a≠some (.frz o u)
theorem yCE {X:Cx}{pins:List (Addr×Obj)}{σ:L2.St}{H:Hp}{s:Shared}{d:Addr}{u0 u1:HO}(I:L2.Inv X pins σ H s) (hd:H d=some u0) (nt:∀ xs,u0≠.tup xs) (no:∀ y,u0≠.own y) (nb:∀ ps,u0≠.tbl ps) (nf:NF X d)
  (ok:ObjOk X.prog X.w H s.heap d u0->ObjOk X.prog X.w H s.heap d u1):L2.Inv X pins σ (upd H d u1) s:=by
 have ne:∀ {b:Addr},H b=none->upd H d u1 b=none:=fun {b} e=>(yw fun z=>by subst z;rw [hd] at e;cases e).trans e
 refine ⟨I.ok,I.os,I.bare,⟨I.base.keep,I.base.slot,fun b o e n hx=>ne (I.base.free b o e n hx),I.base.there,fun b xs e=>?_,fun b o u e=>?_,fun b ps e=>?_⟩,I.loc,I.cell,ne I.free,fun x c e=>ne (I.freeC x c e),fun p hp=>?_,fun b u e=>?_,I.len⟩
 .have:=I.base.tups b xs e
  exact (yw fun z=>by subst z;rw [hd] at this;cases this;exact nt _ rfl).trans this
 .have:=I.base.frzs b o u e
  exact (yw fun z=>by subst z;exact nf o u e).trans this
 .obtain ⟨more,this⟩:=I.base.tbls b ps e
  exact ⟨more,(yw fun z=>by subst z;rw [hd] at this;cases this;exact nb _ rfl).trans this⟩
 .obtain ⟨h1,h2,h3⟩:=I.pin p hp
  exact ⟨h1,ne h2,h3⟩
 .have ho:∀ c y,H c=some (.own y)->upd H d u1 c=some (.own y):=fun c y q=>(yw fun z=>by subst z;rw [hd] at q;cases q;exact no _ rfl).trans q
  have ht:∀ c xs,H c=some (.tup xs)->upd H d u1 c=some (.tup xs):=fun c xs q=>(yw fun z=>by subst z;rw [hd] at q;cases q;exact nt _ rfl).trans q
  by_cases hb:b=d
  .subst hb
   rw [yn] at e
   cases e
   exact (ok (I.hok b u0 hd)).stay (fun _ _ _ q=>q) (fun c q=>ho c b q) ht
  .rw [yw hb] at e
   exact (I.hok b u e).stay (fun _ _ _ q=>q) (fun c q=>ho c b q) ht
theorem yrH {P:Program}{w:World}{K:PySem.W.Frag}{tg:Expr}(d it:Addr) (ob:Obj) (kvs:List (Key×V)) {es:Array DictEntry}{ep:Nat}(hdat:ob.data=.dict es ep):Turn P w K tg (ItD d ob kvs) [it] it (fun i h=>h.IsKeyIter it d i kvs.length ep) where
 mem:=by simp
 obj:=fun i h st b hb=>by
  have e:b=it:=by simpa using hb
  subst e
  obtain ⟨o,e,c,q⟩:=st
  exact ⟨o,e,fun v z=>by rw [q] at z;cases z⟩
 keep:=fun i h h' st k=>st.at fun o e=>k it (by simp) o e
 item:=by
  intro X hP hw hK hc i pins s σ H E I hf st hg
  subst hP hw hK
  obtain ⟨hi,hH⟩:=hg
  obtain ⟨hob,z,sy,ws,kv,hD⟩:=I.hok d _ hH
  obtain ⟨ep',hat⟩:=hD.dictAt
  obtain ⟨o',es',ho',hx1,hx2,hx3⟩:=id hat
  rw [hob] at ho';cases ho'
  rw [hdat] at hx2;cases hx2
  obtain ⟨kv1,kv2⟩:=yhV kv
  have lw:ws.length=kvs.length:=by have:=congrArg length kv1;simpa using this
  have hiw:i<ws.length:=by omega
  obtain ⟨f0,f1,f2,f3,f4,f5⟩:=hf it (by simp)
  rw [<- lw] at st
  refine wpAny_pyNext_dict_item st hat (k:=ws[i].1) (v:=ws[i].2) (List.getElem?_eq_getElem hiw) fun key h' hkey st' sb=>?_
  have I1:L2.Inv X pins σ H { s with heap:=h' }:=I.turned (t':=s.toks) (fun b o hb e=>(sb.2 b hb).trans e) f0 f1 f3 f4 f5
  obtain ⟨o,e,c,q⟩:=id st'
  rw [lw] at st'
  have hk:(kvs[i]'hi).1=ws[i].1:=by
   have h1:(ws.map (·.1))[i]?=(kvs.map (·.1))[i]?:=by rw [kv1]
   rw [getElem?_map,getElem?_map,List.getElem?_eq_getElem hiw,List.getElem?_eq_getElem hi] at h1
   exact (Option.some.inj h1).symm
  have rel:RelV (kV (kvs[i]'hi).1) key:=by
   rw [hk]
   rcases yU hkey with ⟨i,tk,g1,g2⟩|⟨y,tk,g1,g2⟩
   .rw [g1,g2];exact ⟨tk,rfl⟩
   .rw [g1,g2];exact ⟨tk,rfl⟩
  exact ⟨key,rfl,ypK (s:={ s with heap:=h' }) e c q (by decide) ⟨kV (kvs[i]'hi).1,H,I1,rel,⟨rfl,_,List.getElem?_eq_getElem hi,rfl⟩,st',fun b hb=>(hf b hb).1⟩⟩
 done:=by
  intro X hP hw hK hc i pins s σ H E I hf st hg
  subst hP hw hK
  obtain ⟨hi,hH⟩:=hg
  subst hi
  obtain ⟨hob,z,sy,ws,kv,hD⟩:=I.hok d _ hH
  obtain ⟨ep',hat⟩:=hD.dictAt
  obtain ⟨o',es',ho',hx1,hx2,hx3⟩:=id hat
  rw [hob] at ho';cases ho'
  rw [hdat] at hx2;cases hx2
  obtain ⟨kv1,kv2⟩:=yhV kv
  have lw:ws.length=kvs.length:=by have:=congrArg length kv1;simpa using this
  obtain ⟨f0,f1,f2,f3,f4,f5⟩:=hf it (by simp)
  rw [<- lw] at st
  exact wpAny_pyNext_dict_end (I.ok.hd hc) st hat (by simp) fun h' eb=>⟨rfl,I.turned (t':=s.toks) (fun b o hb e=>eb b o hb e) f0 f1 f3 f4 f5⟩
 self:=fun _ _ _ _ _ st h=>wpAny_pyIter_keyiter st h
variable {X:Cx}{A:Nat->Addr}{tg a:Expr}{p pos:Pos}{xa:XE}
theorem yyh {ta:TE}(ha:PE X a ta):PI X tg a (yAY (NF X) ta):=by
 intro pins s σ H R I h
 refine thn (ha pins s σ H _ I h) fun v s1 ⟨x,H1,I1,r1,q1⟩=>?_
 obtain ⟨d,kvs,e,hd,q⟩:=q1
 subst e
 cases r1
 have nf:NF X d:=fun o u z=>by have:=I1.base.frzs d o u z;rw [hd] at this;cases this
 obtain ⟨z,sy,ws,kv,hD⟩:=id (I1.hok d _ hd)
 obtain ⟨ep,hat⟩:=hD.dictAt
 obtain ⟨ob,es,ho,hx1,hx2,hx3⟩:=id hat
 obtain ⟨kv1,kv2⟩:=yhV kv
 have lw:ws.length=kvs.length:=by have:=congrArg length kv1;simpa using this
 have I2:=yCE (u1:=.frz ob (.dK kvs)) I1 hd (fun _ z=>by cases z) (fun _ z=>by cases z) (fun _ z=>by cases z) nf fun x=>⟨ho,x⟩
 refine wpAny_pyIter_dict sy hat ?_
 refine ⟨s1.heap.objs.size,[s1.heap.objs.size],_,_,_,rfl,I2.kept (t':=s1.toks) fun b o e=>Heap.get?_push_of_some _ e,yrH d _ ob kvs hx2,⟨_,Heap.get?_push_size _ rfl,rfl,by rw [lw];rfl⟩,fun b hb=>?_,q ob nf⟩
 have e:b=s1.heap.objs.size:=by simpa using hb
 subst e
 exact I2.fpOk (Nat.le_refl _) (I2.hok.fresh (Nat.le_refl _))
end
end PX
namespace PX
open PySem L2 PySem.Spec PyProof.Rows
section
variable {X:Cx}{A:Nat->Addr}
theorem yyi:MtR X "str.find" yqm:=by
 intro pins s σ H x xs v us Q I rx rv h
 obtain ⟨z,c,rfl,rfl,hz,hm,q⟩:=h
 obtain ⟨t,rfl⟩:=rx
 obtain ⟨u,rfl,tu,rfl⟩:=vals1 rv
 rcases yqn z c with ⟨_,h2⟩|⟨r,h1,_⟩
 .exact absurd hm h2
 .refine SC.find ?_
  have e:(Txt.find z ⟨#[c]⟩:Int)=((z.cps.toList.idxOf c:Nat):Int):=by
   unfold Txt.find
   rw [h1]
  rw [e]
  exact ⟨.int _,H,I.tok _,⟨_,rfl⟩,q⟩
variable {pos p apos:Pos}{x m:Str}{e:Expr}{es:List Expr}{aa:XA}{n:Nat}
structure yuE (K:PySem.W.Frag) (C:Addr) (m:Str) (f:Addr):Prop where
 rd:PySem.W.readsIn K C (.type "type")=true
 fc:PySem.W.findCls K (.ref C) (.type "type") m=some (.val (.ref f))
 sp:PySem.W.specialIn K (.ref C) "__getattribute__" = some (some (.builtin "type.__getattribute__"))
 kp:keepIn K (.ref f)=true
theorem yyj {C f:Addr}{k:Nat}{fd:FuncData}{ps:List Str}{sp:Sp}{E:XK}{t:TA}{pl:Sem Bool}{CX:CXT}(c:yuE X.K C m f) (hg:Gl X x) (hm:X.mg x=some (.ref C)) (F:FnOk X.prog X.w X.K X.mg X.base CX k f fd ps sp) (hr:Room k X.A) (hb:Binds X.K fd ps []) (hx:yfy CX X E) (ha:PA X (e::es) t)
  (hd:(x == ("__debug__":Str))=false)
  (hst:starEach (e::es) X.env=(false,eval e X.env)::starEach es X.env) (hpl:(backTo pos (starEach es X.env)).any (·.1)=false)
  (ht:eval (.Call (.Attribute (.Name x p) m apos) (e::es) [] pos) X.env=(do
   let ov <- eval (.Name x p) X.env
   standAt apos.atName
   let (f,first) <- holding [ov] (getMethod ov m pl)
   callWith pos f first (backTo pos (starEach (e::es) X.env)) (backToKw pos (keywordEach [] X.env)))) :
  PE X (.Call (.Attribute (.Name x p) m apos) (e::es) [] pos) (ytl sp [] E t):=by
 intro pins s σ H Q I h
 refine PySem.W.methodCall_KW (pl:=pl) (thn (yqq (X:=X) hg hm hd pins s σ H (fun v H1=>v=.ref C/\H1=H) I ⟨rfl,rfl⟩) fun u s1 ⟨v,H1,I1,rx,ex,eh⟩=>?_) ht
 subst ex eh
 obtain rfl:u=Value.ref C:=rx
 refine PySem.W.method_cls I1.kIn c.sp (PySem.W.cls_value I1.kIn c.rd c.fc rfl ?_)
 have I1:=I1.tok (s1.toks+1)
 refine PySem.W.callWith_K (first:=[]) (h₀:=X.base) I.ok.mod.kin c.kp (thn (ha pos pins _ σ H1 _ I1 h) fun us s2 ⟨vs,H2,I2,r,q2⟩=>⟨I2.kIn,?_⟩) hst hpl
 exact ykB (us:=us) (vs:=vs) F hr hb .nil hx I2 r q2
theorem yyk {C f:Addr}{lv k:Nat}{fd:FuncData}{ps:List Str}{fi} {pl:Sem Bool}{o:Expr}{sp:Pos}(c:yuE X.K C m f) (hm:X.mg x=some (.ref C)) (F:FnOk X.prog X.w X.K X.mg X.base CX0 lv f fd ps (spJ (ckX X A) n k fi)) (hb:Binds X.K fd ps []) (ha:ZA X A es n aa) (nm:Nm x:=by exact ⟨by rfl',by rfl',by rfl'⟩) (hg:Gl X x:=by rfl) (hr:Room lv X.A:=by exact hr.mono (by omega)) (ho:PE X o (ypA 0):=by exact yiP rfl (by first|exact Or.inl rfl|exact Or.inr (Or.inl rfl)) (by rfl') (by rfl')) (hst:starEach (o::es) X.env=(false,eval o X.env)::starEach es X.env:=by rfl) (hpl:(backTo pos (starEach es X.env)).any (·.1)=false:=by rfl) (ht:eval (.Call (.Attribute (.Name x p) m apos) (o::es) [] pos) X.env=(do
   let ov <- eval (.Name x p) X.env
   standAt apos.atName
   let (f,first) <- holding [ov] (getMethod ov m pl)
   callWith pos f first (backTo pos (starEach (o::es) X.env)) (backToKw pos (keywordEach [] X.env))):=by rfl) (hq:swapsWith (.Call (.Attribute (.Name x p) m apos) (o::es) [] pos) none sp.line X.env=pure false:=by rfl):ZF X A (.Expr (.Call (.Attribute (.Name x p) m apos) (o::es) [] pos) sp) (xBI k fi aa) :=
 wF (yjs (yyj (E:=fun _ _ _=>False) c hg hm F hr hb ykJ (ygd ho ha.of hst) nm.d hst hpl ht) hq) (yxT (K:=ckX X A) sA ha.len)
end
section
variable {P:Program}{w:World}{K:PySem.W.Frag}{mg:Str->Option Value}{base:Heap}{A:Nat->Addr}
theorem yGl {x qual:Str}{st:Stmt}{f:Addr}{fd:FuncData}{N ps:List Str}{k kc n:Nat}{s:XS}(F:Fun K x qual st f fd) (S:ydV N ps (ybv st)) (hn:ps.length=n+1) (hN:n+1<=N.length)
  (h:∀ (cdv:Value) (Ar:Around) (outer:List Env) (sh:Shared) (H:Hp) (E:XK),Room k (Ar.deeper (envOfC qual (ybv st) sh.heap.objs.size f cdv))->ZFs (ytp CX0 P w K mg base N qual (ybv st) f cdv Ar outer sh H E).nox A (yfh st) s) :
  FnOk P w K mg base CX0 (k+1) f fd ps (spJ ⟨K,A⟩ n kc (ypc N.length kc s)) :=
 F.ok S (fun _ _ _ _ h=>(yxS h).trans hn.symm) fun cdv Ar outer sh H vs Q E hr hq=>⟨_,(h cdv Ar outer sh H E hr).of,yri (K:=⟨K,A⟩) hN sF hq⟩
end
end PX
namespace PX
open PySem L2 PySem.Spec PyProof.Rows
section
variable {X:Cx}{A:Nat->Addr}
end
end PX
namespace PX
open PySem L2 PySem.Spec PyProof.Rows
section
variable {prog:Program}{w:World}{A:Around}{E:Value->Shared->Prop}{s:Shared}
theorem yfo {t sl:Addr}{items:Array Value}{vl vu:Value}{lo hi:Option Int}{Q:Value->Shared->Prop}(ht:IsTup s.heap t items) (hs:s.heap.IsSliceOf sl vl vu .none) (pl:IsPart vl lo) (pu:IsPart vu hi)
  (hw:HT.sIx items.size 0 lo=0/\HT.sIx items.size items.size hi=items.size) (h:Q (.ref t) s):wpAny (model prog w) A (getItem (.ref t) (.ref sl)) Q E s:=by
 obtain ⟨os,hos,hcs,hds⟩:=id hs
 have hTs:s.TypeIs (.ref sl) "slice":=⟨os,hos,hcs⟩
 unfold getItem
 try with_reducible refine wpAny_holding ?_
 first|refine wpAny_bind (wpAny_pure ?_)|skip
 refine wpAny_bind (wpAny_sequenceKey ht.typeIs (by decide) ?_)
 refine wpAny_bind (wpAny_callSpecial?_slot (name:=Str.ofString "__getitem__") ht.typeIs PyProof.Rows.slot_tuple_getitem
  (wpAny_call_entry PyProof.Rows.slot_tuple_getitem ht.typeIs entry_tuple_getitem ?_ (args_tuple_getitem _ _)))
 show wpAny _ _ (Builtin.Tuple.tupleItemsOf (.ref t) >>= _) _ _ s
 refine wpAny_bind (tupleItemsOf_ ht ?_)
 refine wpAny_bind (wpAny_typeOf hTs ?_)
 rw [if_pos (by decide)]
 refine wpAny_bind (HT.sliceApplied_gen hs pl pu ?_)
 show wpAny _ _ (if (((HT.sIx items.size 0 lo:Nat):Int) == 0 && (1:Int) == 1 && (HT.sIx items.size items.size hi-HT.sIx items.size 0 lo) == items.size)=true then _ else _) _ _ s
 rw [if_pos (by rw [hw.1,hw.2];simp)]
 unfold Builtin.Tuple.tupleIsExact
 refine wpAny_bind (wpAny_bind (wpAny_typeOf ht.typeIs (wpAny_pure ?_)))
 rw [if_pos (by decide)]
 refine wpAny_bind (wpAny_rule ?_)
 exact wpAny_pure ⟨_,rfl,wpAny_pure h⟩
end
section
variable {X:Cx}{A:Nat->Addr}
theorem yuF:SlR X (yFL X.K):=by
 intro pins s σ H x v vl vu lo hi sl Q I rx hs pl pu h
 obtain ⟨a,xs,rfl,hx,hw,q⟩:=h
 cases rx
 obtain ⟨its,r,ht,hz⟩:=I.tuple hx
 have hlen:its.toArray.size=xs.length:=by rw [size_toArray];exact r.length.symm
 exact ⟨"tuple",_,PyProof.Rows.slot_tuple_getitem.lookup,ht.typeIs,yfo ht hs pl pu (by rw [hlen];exact hw) ⟨.ref a,H,I,rfl,q⟩⟩
theorem yyl:SlR X (yBb X.K):=SlR.or yzV yuF
end
end PX
namespace PX
open PySem L2 PySem.Spec PyProof.Rows
open Builtin Builtin.Str in
section
variable {prog:Program}{w:World}{A:Around}{E:Value->Shared->Prop}{s:Shared}
theorem ypl {x y:Str}{t u:Tok}{Q:Value->Shared->Prop}(hy:(y.length == 0)=false) (hz:x.length+2<=sizeLine)
  (h:∀ (l:List (Str×Tok)) (k:Nat),l.map (·.1)=Txt.split x y->Q (.ref s.heap.objs.size) { s with heap:=s.heap.push { cls:=.type "list",data:=.seq (strValues l).toArray },toks:=k }) :
  wpAny (model prog w) A (call (.builtin "str.split") [.str x t,.str y u]) Q E s:=by
 have h2:(partsBetween x (occurrences x y 0 x.length (x.length+1)) y.length).length<=sizeLine:=by
  have:=StrLaws.occ_length_le x y 0 x.length (x.length+1)
  rw [length_partsBetween]
  omega
 by_cases c1:(decide (x.length<y.length) || decide (strKind x<strKind y))=true
 .exact call_meets F.slot_str_split (typeIs_str _ _ _) F.entry_str_split (F.args_str_split_2 _ _) (meets_str_split_cannot_occur x y t u c1) (h [(x,t)] s.toks (if_pos c1).symm)
 .have c1':(decide (x.length<y.length) || decide (strKind x<strKind y))=false:=by simpa using c1
  by_cases c2:(occurrences x y 0 x.length (x.length+1)).isEmpty=true
  .exact call_meets F.slot_str_split (typeIs_str _ _ _) F.entry_str_split (F.args_str_split_2 _ _) (meets_str_split_not_found x y t u c1' hy c2) (h [(x,t)] s.toks ((if_neg c1).trans (if_pos c2)).symm)
  .refine call_meets F.slot_str_split (typeIs_str _ _ _) F.entry_str_split (F.args_str_split_2 _ _) (meets_str_split_sep x y t u c1' hy (by simpa using c2) (by omega) h2) ?_
   show wants Q E _ { s with toks:=_,heap:=s.heap.push { cls:=.type "list",data:=.seq (strsFrom s.toks (partsBetween x (occurrences x y 0 x.length (x.length+1)) y.length)).toArray } }
   rw [strsFrom_eq]
   exact h _ _ ((numbered_texts _ _).trans ((if_neg c1).trans (if_neg c2)).symm)
end
theorem yoh (z:Str):Txt.split z " " = yrk z:=by
 have e:(" ":Str)=⟨#[32]⟩:=by rfl'
 have h:=yhK (Txt.split z " ") (fun q=>by have:=split_pos z " ";rw [q] at this;simp at this) (by rw [e];exact StrLaws.split_free z 32)
 rw [StrLaws.join_split] at h
 exact h.symm
theorem ylv:∀ (l:List (Str×Tok)),Vals ((l.map (·.1)).map V.str) (strValues l)
 | []=>.nil
 | (_,t)::l=>.cons ⟨t,rfl⟩ (ylv l)
section
variable {X:Cx}{A:Nat->Addr}
theorem yuG:MtR X "str.split" yvZ:=by
 intro pins s σ H x xs v us Q I rx rv h
 obtain ⟨z,rfl,rfl,hz,q⟩:=h
 obtain ⟨t,rfl⟩:=rx
 obtain ⟨u,rfl,ru⟩:=vals1 rv
 obtain ⟨t',rfl⟩:=ru
 have hs:z.length+2<=sizeLine:=by simp only [PySem.sizeLine_eq];omega
 refine ypl (by decide) hs fun l k e=>?_
 have e2:l.map (·.1)=yrk z:=e.trans (yoh z)
 have e3:=split_le z " "
 rw [yoh] at e3
 refine ⟨.ref s.heap.objs.size,_,I.laid (t':=k) (o:=.lst ((yrk z).map V.str)) (fun b o e=>Heap.get?_push_of_some _ e) (Nat.le_refl _) ?_,rfl,q _ (I.hok.fresh (Nat.le_refl _))⟩
 exact ⟨by rw [length_map];exact Nat.le_trans e3 hs,strValues l,0,e2 ▸ ylv l,Heap.get?_push_size _ rfl⟩
end
section
variable {X:Cx}{pins:List (Addr×Obj)}{σ:L2.St}{H:Hp}{s:Shared}{h':Heap}
theorem yym {t':Nat}{fp:List Addr}(I:Inv X pins σ H s) (k:∀ b o,b∉fp->s.heap.get? b=some o->h'.get? b=some o) (hf:∀ b∈fp,yoH X pins H b):Inv X pins σ H { s with heap:=h',toks:=t' }:=by
 have nit:∀ b u,H b=some u->b∉fp:=fun b u e z=>by rw [(hf b z).1] at e;cases e
 refine I.step (g':=s.gens) (d':=s.drawn) (ch:=fp) (fun b hb=>?_) (fun b o _ _ hc e _=>k b o hc e) (fun b o _ _ hc e _=>⟨o.slots,k b o hc e⟩) (fun _ _ _ _ n=>n)
  (fun b o hc e=>⟨o,k b o hc e⟩) (fun _ _ e=>e) (fun _ _ _ e=>e) (fun b ps e=>⟨#[],by rw [e];simp⟩) (fun m hm=>?_) (fun b u e=>?_) I.bare
 .obtain ⟨f0,f1,f2,f3,f4,f5⟩:=hf b hb
  exact ⟨f3,f1,f4,f5⟩
 .obtain ⟨o,es,ep,ho,r⟩:=hm
  exact ⟨o,es,ep,k _ o (fun z=>(hf _ z).2.1 rfl) ho,r⟩
 .refine (I.hok b u e).stay (fun c v hc q=>k c v ?_ q) (fun _ q=>q) fun _ _ q=>q
  rcases hc with z|z
  .rw [z];exact nit b u e
  .exact nit c _ z
end
section
variable {X:Cx}{A:Nat->Addr}{elts:List Expr}{x1:Nat}{tp p pos:Pos}{a b:Expr}{aa:XA}{n:Nat}
end
section
variable {X:Cx}{A:Nat->Addr}{pos:Pos}
end
end PX
namespace PX
open PySem L2 PySem.Spec PyProof.Rows
section
variable {X:Cx}{A:Nat->Addr}{a:Expr}{es:List Expr}{p pos:Pos}{x:Str}{aa:XA}{n lv:Nat}{f:Addr}{fd:FuncData}{ps:List Str}{fn:Fn}
end
end PX
namespace PX
open PySem L2 PySem.Spec PyProof.Rows
section
variable {X:Cx}{A:Nat->Addr}{tg a b c:Expr}{p pos:Pos}{aa:XA}{n:Nat}
end
end PX
namespace PX
open PySem L2 PySem.Spec PyProof.Rows
section
variable {X:Cx}{A:Nat->Addr}{tg a:Expr}{p pos:Pos}{xa:XE}{x:Str}{es:List Expr}{aa:XA}{n:Nat}
theorem yrI {f:Addr}{fd:FuncData}{ps:List Str}{lv k:Nat}{fn:Fn}(M:Mk X.K (A k) f) (F:FnOk X.prog X.w X.K X.mg X.base CX0 lv f fd ps (spE (ckX X A) (n+1+1) fn)) (hm:X.mg x=some (.ref (A k))) (hb:Binds X.K fd ps []) (ha:ZA X A (a::es) (n+1) aa) (hr:Room (lv+1) X.A:=by exact hr.mono (by omega)) (m:Nm x:=by exact ⟨by rfl',by rfl',by rfl'⟩) (hg:Gl X x:=by rfl) (he:starEach (a::es) X.env=(false,eval a X.env)::starEach es X.env:=by rfl) (hpl:(backTo pos (starEach es X.env)).any (·.1)=false:=by rfl):ZE X A (.Call (.Name x p) (a::es) [] pos) (yhL k fn aa) :=
 wE (ypZ M F hr hg hm hb .nil ykJ ha.of m.d he hpl) (yrm (K:=ckX X A) (k:=k) sA ha.len)
theorem yoi (hc:X.calm=true):yfg X (.builtin "any") yFM:=by
 intro pins s σ H xs us Q I r h
 obtain ⟨p,bs,rfl,hp,q⟩:=h
 obtain ⟨u,rfl,rx⟩:=vals1 r
 cases rx
 obtain ⟨its,n,rv,e,hz⟩:=I.lst hp
 have eb:=yjz rv
 subst eb
 have hl:s.heap.IsList p (bs.map Value.bool).toArray:=⟨_,e,rfl,n,rfl⟩
 have hlt:p<s.heap.objs.size:=Heap.lt_size e
 refine call_any_walk (wpAny_pyIter_list hl ?_)
 refine ⟨s.heap.objs.size,[s.heap.objs.size,p],[s.heap.objs.size],(bs.map Value.bool).toArray.size,_,_,fun i=>(bs[i]?).getD false,rfl,Walks.list (A:=X.A.in1) (I.ok.hd hc) _ p (ne_of_lt hlt) _,
  ⟨⟨_,Heap.get?_push_size _ rfl,rfl,rfl⟩,hl.push _⟩,fun i v s' Q' E' hP hQ=>?_,fun h' tk hk=>?_⟩
 .have hP:(bs.map Value.bool)[i]?=some v:=by simpa using hP
  rw [getElem?_map] at hP
  cases eb:bs[i]? with
  | none=>rw [eb] at hP;cases hP
  | some b =>
   rw [eb] at hP
   cases hP
   simp only [eb,Option.getD_some] at hQ
   exact wpAny_truthy_bool hQ
 .have ea:((List.range (bs.map Value.bool).toArray.size).any fun i=>(bs[i]?).getD false)=bs.any id:=by
   rw [size_toArray,length_map]
   exact LSm.range_any bs
  rw [ea]
  exact ⟨.bl _,H,I.kept (t':=tk) fun b o eo=>hk b o (fun hm=>by rw [List.mem_singleton.mp hm] at eo;exact absurd (Heap.lt_size eo) (lt_irrefl _)) (Heap.get?_push_of_some _ eo),rfl,q⟩
theorem yyn {elt iter:Expr}{px:Pos}{scope:Scope}{cpos:Pos}{xe:XE}{ix:List Nat}(fr:List Str) (hi:ZE X A iter xa) (he:∀ (cl:List (Str×Addr)) (C:Addr) (s₃:Shared) (H₃:Hp) (fp:List Addr) (pins:List (Addr×Obj)),ZE (cxC X scope cl C (x::fr) s₃ H₃ fp pins) A elt xe) (hc:X.calm=true:=by rfl) (hfr:FrOk X scope ix fr:=by repeat' first|exact True.intro|exact rfl|refine And.intro ?_ ?_) (hnd:(x::fr).Nodup:=by rfl') (hkind:scope.kind=.function:=by rfl) (hcell:∀ y∈scope.names,y.2≠.cell:=by rfl') (hnames:∀ y∈scope.names,y.2=.local->scope.names.lookup y.1=some .local:=by rfl') (hfree0:∀ y∈scope.names,y.2=.free->y.1∈fr:=by rfl') (hx:scope.names.lookup x=some .local:=by rfl) (hs:∀ v,foldedSetIterable iter X.env v=pure v:=by exact fun _=>rfl):ZO X A (.ListComp elt [⟨.Name x px,iter,[],0⟩] scope cpos) (ylr xa ix xe) :=
 wO (yxV (yjW ix fr hc (ylZ hi.of) hfr (te:=cE (ckX X A) xe) (fun cl C s₃ H₃ fp pins=>(he cl C s₃ H₃ fp pins).of) (fun _ _ _ _ _ _=>.nil) hnd hkind hcell hnames hfree0 hx hs)) (yrn (K:=ckX X A) ix sE sE)
end
end PX
namespace PX
open PySem L2 PySem.Spec PyProof.Rows KasS PXS
section
variable {X:Cx}{A:Nat->Addr}{xa:XE}{x:Str}
theorem yyo {elt iter:Expr}{px:Pos}{scope:Scope}{cpos:Pos}{xe:XE}{ix:List Nat}(fr:List Str) (hi:ZE X A iter xa) (he:∀ (cl:List (Str×Addr)) (C:Addr) (s₃:Shared) (H₃:Hp) (fp:List Addr) (pins:List (Addr×Obj)),ZE (cxC X scope cl C (x::fr) s₃ H₃ fp pins) A elt xe) (hc:X.calm=true:=by rfl) (hfr:FrOk X scope ix fr:=by repeat' first|exact True.intro|exact rfl|refine And.intro ?_ ?_) (hnd:(x::fr).Nodup:=by rfl') (hkind:scope.kind=.function:=by rfl) (hcell:∀ y∈scope.names,y.2≠.cell:=by rfl') (hnames:∀ y∈scope.names,y.2=.local->scope.names.lookup y.1=some .local:=by rfl') (hfree0:∀ y∈scope.names,y.2=.free->y.1∈fr:=by rfl') (hx:scope.names.lookup x=some .local:=by rfl) (hs:∀ v,foldedSetIterable iter X.env v=pure v:=by exact fun _=>rfl):ZO X A (.ListComp elt [⟨.Name x px,iter,[],0⟩] scope cpos) (yjc xa ix xe):=by
 have pe:PE X (.ListComp elt [⟨.Name x px,iter,[],0⟩] scope cpos) (ywa (NF X) (cE (ckX X A) xa) ix (cE (ckX X A) xe)):=by
  intro pins s σ H Q I h
  refine thn (yxV (yjW ix fr hc (yyh hi.of) hfr (te:=cE (ckX X A) xe) (fun cl C s₃ H₃ fp pins=>(he cl C s₃ H₃ fp pins).of) (fun _ _ _ _ _ _=>.nil) hnd hkind hcell hnames hfree0 hx hs) pins s σ H _ I h) fun v s1 ⟨y,H1,I1,r1,d,ob,kvs,nf,hd,q⟩=>?_
  exact ⟨y,_,yCE (u1:=.dK kvs) I1 hd (fun _ z=>by cases z) (fun _ z=>by cases z) (fun _ z=>by cases z) nf fun x=>x.2,r1,q⟩
 exact wO pe (yro (K:=ckX X A) ix sE sE)
end
end PX
namespace PX
open PySem L2 PySem.Spec PyProof.Rows KasS PXS
section
theorem ypm {P:Program}{w:World}{K:PySem.W.Frag}{elts:List Expr}{x1} {tp:Pos}(d it:Addr) (ob:Obj) (kvs:List (Key×V)) {es:Array DictEntry}{ep:Nat}(hdat:ob.data=.dict es ep):Turn P w K (.Tuple elts x1 tp) (yFN d ob kvs) [it] it (fun i h=>∃ ok ov,IsItemIter h it d i kvs.length ep ok ov) where
 mem:=by simp
 obj:=fun i h st b hb=>by
  have e:b=it:=by simpa using hb
  subst e
  obtain ⟨ok,ov,st⟩:=st
  exact ⟨_,st,fun v z=>by have z':Data.fields _=Data.cell v:=z;cases z'⟩
 keep:=fun i h h' ⟨ok,ov,st⟩ k=>⟨ok,ov,k it (by simp) _ st⟩
 item:=by
  intro X hP hw hK hc i pins s σ H E I hf st hg
  subst hP hw hK
  obtain ⟨hi,hH⟩:=hg
  obtain ⟨ok,ov,st⟩:=st
  obtain ⟨hob,z,sy,ws,kv,hD⟩:=I.hok d _ hH
  obtain ⟨ep',hat⟩:=hD.dictAt
  obtain ⟨o',es',ho',hx1,hx2,hx3⟩:=id hat
  rw [hob] at ho';cases ho'
  rw [hdat] at hx2;cases hx2
  obtain ⟨kv1,kv2⟩:=yhV kv
  have lw:ws.length=kvs.length:=by have:=congrArg length kv1;simpa using this
  have hiw:i<ws.length:=by omega
  obtain ⟨f0,f1,f2,f3,f4,f5⟩:=hf it (by simp)
  rw [<- lw] at st
  refine wpAny_pyNext_items_item st hat (k:=ws[i].1) (v:=ws[i].2) (List.getElem?_eq_getElem hiw) fun key h' hkey st' ht hz kk=>⟨_,rfl,?_⟩
  refine wpAny_letOwnedTupleGo_items (s:={ s with heap:=h' }) st' fun h'' d1 sb=>?_
  have fr:H s.heap.objs.size=none:=I.hok.fresh (Nat.le_refl _)
  have itn:it≠s.heap.objs.size:=ne_of_lt (Heap.lt_size st)
  have hk:(kvs[i]'hi).1=ws[i].1:=by
   have h1:(ws.map (·.1))[i]?=(kvs.map (·.1))[i]?:=by rw [kv1]
   rw [getElem?_map,getElem?_map,List.getElem?_eq_getElem hiw,List.getElem?_eq_getElem hi] at h1
   exact (Option.some.inj h1).symm
  have rel:RelV (kV (kvs[i]'hi).1) key:=by
   rw [hk]
   rcases yU hkey with ⟨i,tk,g1,g2⟩|⟨y,tk,g1,g2⟩
   .rw [g1,g2];exact ⟨tk,rfl⟩
   .rw [g1,g2];exact ⟨tk,rfl⟩
  have rel2:RelV (kvs[i]'hi).2 ws[i].2:=by
   have:=kv2 i hi
   rw [getD_eq_getElem?_getD,getD_eq_getElem?_getD,getElem?_map,getElem?_map,List.getElem?_eq_getElem hiw,List.getElem?_eq_getElem hi] at this
   exact this
  have I1:Inv X pins σ (upd H s.heap.objs.size (.tup [kV (kvs[i]'hi).1,(kvs[i]'hi).2])) { s with heap:=s.heap.push { cls:=.type "tuple",data:=.seq #[key,ws[i].2] } } :=
   I.laid (t':=s.toks) (fun b o e=>Heap.get?_push_of_some _ e) (Nat.le_refl _) ⟨le_of_lt (yhx (show [kV (kvs[i]'hi).1,(kvs[i]'hi).2].length<=1000 by simp)),[key,ws[i].2],.cons rel (.cons rel2 .nil),⟨_,Heap.get?_push_size _ rfl,rfl,_,rfl⟩⟩
  have hf':∀ c∈[it],yoH X pins (upd H s.heap.objs.size (.tup [kV (kvs[i]'hi).1,(kvs[i]'hi).2])) c:=fun c hc=>by
   have e:c=it:=by simpa using hc
   subst e
   exact ⟨by rw [yw itn];exact (hf c (by simp)).1,(hf c (by simp)).2⟩
  have I2:Inv X pins σ (upd H s.heap.objs.size (.tup [kV (kvs[i]'hi).1,(kvs[i]'hi).2])) { s with heap:=h'' }:=yym (s:={ s with heap:=s.heap.push { cls:=.type "tuple",data:=.seq #[key,ws[i].2] } }) (t':=s.toks) I1 (fun c o hc e=>by
   have hc':c≠it:=by simpa using hc
   rw [sb.2 c hc']
   by_cases q:c=s.heap.objs.size
   .subst q
    rw [show (s.heap.push { cls:=.type "tuple",data:=.seq #[key,ws[i].2] }).get? s.heap.objs.size=_ from Heap.get?_push_size _ rfl] at e
    cases e
    exact ht
   .have hlt:=Heap.lt_size e
    have hlt:c<s.heap.objs.size:=by
     have:c<(s.heap.push { cls:=.type "tuple",data:=.seq #[key,ws[i].2] }).objs.size:=hlt
     rw [Heap.size_push] at this
     exact Nat.lt_of_le_of_ne (Nat.le_of_lt_succ this) q
    refine kk c o hc' ?_
    obtain ⟨e1,e2⟩:=Heap.get?_some_iff.mp e
    refine Heap.get?_some_iff.mpr ⟨?_,e2⟩
    have hne:=ne_of_lt hlt
    revert e1
    cases hs:s.heap
    rw [hs] at hne
    simp [Heap.push,Array.getElem?_push,hne]) hf'
  rw [lw] at d1
  exact ⟨.ref s.heap.objs.size,_,I2,rfl,⟨_,kvs[i]'hi,fr,rfl,rfl,List.getElem?_eq_getElem hi⟩,⟨_,_,d1⟩,fun c hc=>(hf' c hc).1⟩
 done:=by
  intro X hP hw hK hc i pins s σ H E I hf st hg
  subst hP hw hK
  obtain ⟨hi,hH⟩:=hg
  subst hi
  obtain ⟨ok,ov,st⟩:=st
  obtain ⟨hob,z,sy,ws,kv,hD⟩:=I.hok d _ hH
  obtain ⟨ep',hat⟩:=hD.dictAt
  obtain ⟨o',es',ho',hx1,hx2,hx3⟩:=id hat
  rw [hob] at ho';cases ho'
  rw [hdat] at hx2;cases hx2
  obtain ⟨kv1,kv2⟩:=yhV kv
  have lw:ws.length=kvs.length:=by have:=congrArg length kv1;simpa using this
  obtain ⟨f0,f1,f2,f3,f4,f5⟩:=hf it (by simp)
  rw [<- lw] at st
  exact wpAny_pyNext_items_end (I.ok.hd hc) st hat (by simp) fun h' eb=>⟨rfl,I.turned (t':=s.toks) (fun b o hb e=>eb b o hb e) f0 f1 f3 f4 f5⟩
 self:=fun _ _ _ _ _ ⟨_,_,st⟩ h=>PySem.W.kcp_self st h
variable {X:Cx}{A:Nat->Addr}{elts:List Expr}{x1:Nat}{tp pos apos cpos:Pos}{a:Expr}{xa:XE}
theorem yuH {ta:TE}(ha:PE X a ta) (hbase:attributeBase a "items" X.env (eval a X.env)=eval a X.env) (hline:(apos.endLine == cpos.line)=true):PI X (.Tuple elts x1 tp) (.Call (.Attribute a "items" apos) [] [] cpos) (yrp X.K (NF X) ta):=by
 intro pins s σ H R I h
 refine thn (yqg plainAttrs_dict PySem.F.slot_dict_items PySem.F.type_dict_items yof ha hbase hline pins s σ H _ I h) fun v s1 ⟨x,H1,I1,r1,q1⟩=>?_
 obtain ⟨r,d,kvs,e,hr,hd,q⟩:=q1
 subst e
 cases r1
 have nf:NF X d:=fun o u z=>by have:=I1.base.frzs d o u z;rw [hd] at this;cases this
 obtain ⟨hview,_,_⟩:=I1.hok r _ hr
 obtain ⟨z,sy,ws,kv,hD⟩:=id (I1.hok d _ hd)
 obtain ⟨ep,hat⟩:=hD.dictAt
 obtain ⟨ob,es,ho,hx1,hx2,hx3⟩:=id hat
 obtain ⟨kv1,kv2⟩:=yhV kv
 have lw:ws.length=kvs.length:=by have:=congrArg length kv1;simpa using this
 have I2:=yCE (u1:=.frz ob (.dK kvs)) I1 hd (fun _ z=>by cases z) (fun _ z=>by cases z) (fun _ z=>by cases z) nf fun x=>⟨ho,x⟩
 refine wpAny_pyIter_items (v:=r) ⟨_,hview,rfl,rfl⟩ hat ?_
 refine ⟨s1.heap.objs.size,[s1.heap.objs.size],_,_,_,rfl,I2.kept (t':=s1.toks) fun b o e=>Heap.get?_push_of_some _ e,ypm d _ ob kvs hx2,⟨_,_,by rw [<- lw];exact Heap.get?_push_size _ rfl⟩,fun b hb=>?_,q ob nf⟩
 have e:b=s1.heap.objs.size:=by simpa using hb
 subst e
 exact I2.fpOk (Nat.le_refl _) (I2.hok.fresh (Nat.le_refl _))
theorem yyp {rest:List Stmt}{ta:TE}{g:TG}{tb:TS}(hp:PassesOwn (model X.prog X.w) X.A X.env X.xe) (hc:X.calm=true) (hi:PI X (.Tuple elts x1 tp) (.Call (.Attribute a "items" apos) [] [] cpos) (yrp X.K (NF X) ta)) (hg:PG X (.Tuple elts x1 tp) g) (hb:PSs X rest tb) (hs:∀ x,foldedSetIterable (.Call (.Attribute a "items" apos) [] [] cpos) X.env x=pure x):PS X (.For (.Tuple elts x1 tp) (.Call (.Attribute a "items" apos) [] [] cpos) rest [] pos) (yBd X.K (NF X) ta g tb):=by
 intro pins s σ H D I h
 refine thn (ypO hp hc hi hg hb hs pins s σ H (yAZ (NF X) D) I h) fun f s' q=>?_
 cases f with
 | next =>
  obtain ⟨σ',H',I',d,ob,kvs,nf,hd,q⟩:=q
  exact ⟨σ',_,yCE (u1:=.dK kvs) I' hd (fun _ z=>by cases z) (fun _ z=>by cases z) (fun _ z=>by cases z) nf fun x=>x.2,q⟩
 | brk=>exact q
 | cont=>exact q
 | ret u=>exact q
theorem yyq {rest:List Stmt}{s:XS}{y:XG}(hi:ZE X A a xa) (hg:ZG X A (.Tuple elts x1 tp) y) (hb:ZSs X A rest s) (hp:PassesOwn (model X.prog X.w) X.A X.env X.xe:=by exact PassesOwn.never) (hc:X.calm=true:=by rfl) (hbase:attributeBase a "items" X.env (eval a X.env)=eval a X.env:=by rfl) (hline:(apos.endLine == cpos.line)=true:=by rfl) (hs:∀ x,foldedSetIterable (.Call (.Attribute a "items" apos) [] [] cpos) X.env x=pure x:=by exact fun _=>rfl):ZS X A (.For (.Tuple elts x1 tp) (.Call (.Attribute a "items" apos) [] [] cpos) rest [] pos) (yrr xa y s) :=
 wS (yyp hp hc (yuH hi.of hbase hline) hg.of hb.of hs) (yuw (K:=ckX X A) sE sG sS)
end
end PX
namespace My
open PySem L2 PX
theorem yFO:("":Str).length=0:=by rfl'
theorem yFP:(" ":Str).length=1:=by rfl'
theorem yBm:(" ) on low c ( throw low c )":Str).length=27:=by rfl'
theorem yBn:(" ) or ( wait )":Str).length=14:=by rfl'
theorem yFQ:(" ; ":Str).length=3:=by rfl'
theorem yBo:(" ; let b ":Str).length=9:=by rfl'
theorem yBp:(" ; put a b":Str).length=10:=by rfl'
theorem yBq:(" ; throw low b ) on low c ( )":Str).length=29:=by rfl'
theorem yBr:(" ; throw low b ) or ( ) ) on low c ( )":Str).length=38:=by rfl'
theorem yBs:(" ; wait ) or ( )":Str).length=16:=by rfl'
theorem yEq:("(":Str).length=1:=by rfl'
theorem yEr:(")":Str).length=1:=by rfl'
theorem yyr:("abcdefgh":Str).length=8:=by rfl'
theorem yEs:("either":Str).length=6:=by rfl'
theorem yys:("either ( ":Str).length=9:=by rfl'
theorem yEt:("let":Str).length=3:=by rfl'
theorem yyt:("let a ":Str).length=6:=by rfl'
theorem yEu:("on":Str).length=2:=by rfl'
theorem yEv:("or":Str).length=2:=by rfl'
theorem yEw:("put":Str).length=3:=by rfl'
theorem yEx:("throw":Str).length=5:=by rfl'
theorem yEy:("try":Str).length=3:=by rfl'
theorem yyu:("try ( ":Str).length=6:=by rfl'
theorem yyv:("try ( either ( ":Str).length=15:=by rfl'
theorem yEz:("wait":Str).length=4:=by rfl'
theorem yyw {v0 v1:PV}{f:Nat->Fn}{h:AH}:yiF "long" f (.ins 1 ["slot","number"] [v0,v1]) h=f 1 [.ins 1 ["slot","number"] [v0,v1]] h:=ydt (by rfl')
theorem yyx {v0 v1:PV}{f:Nat->Fn}{h:AH}:yiF "long" f (.ins 4 ["place","slot"] [v0,v1]) h=f 4 [.ins 4 ["place","slot"] [v0,v1]] h:=ydt (by rfl')
theorem yhW {v0 v1:PV}{h:AH}:ydU [6,7] "parts" (.ins 6 ["parts","others"] [v0,v1]) h=some (v0,h):=ygh (by decide) (by rfl') (by rw [show idxOf ("parts":Str) ["parts","others"]=0 by rfl'];rfl)
theorem yhb {v0 v1:PV}{h:AH}:ydU [6,7] "others" (.ins 6 ["parts","others"] [v0,v1]) h=some (v1,h):=ygh (by decide) (by rfl') (by rw [show idxOf ("others":Str) ["parts","others"]=1 by rfl'];rfl)
theorem ysV {v0 v1:PV}{f:Nat->Fn}{h:AH}:yiF "long" f (.ins 6 ["parts","others"] [v0,v1]) h=f 6 [.ins 6 ["parts","others"] [v0,v1]] h:=ydt (by rfl')
theorem ylw {v0 v1 v2 v3:PV}{h:AH}:ydU [6,7] "parts" (.ins 7 ["parts","name","slot","others"] [v0,v1,v2,v3]) h=some (v0,h):=ygh (by decide) (by rfl') (by rw [show idxOf ("parts":Str) ["parts","name","slot","others"]=0 by rfl'];rfl)
theorem ykf {v0 v1 v2 v3:PV}{h:AH}:ydU [6,7] "others" (.ins 7 ["parts","name","slot","others"] [v0,v1,v2,v3]) h=some (v3,h):=ygh (by decide) (by rfl') (by rw [show idxOf ("others":Str) ["parts","name","slot","others"]=3 by rfl'];rfl)
theorem yyy {v0 v1 v2 v3:PV}{f:Nat->Fn}{h:AH}:yiF "long" f (.ins 7 ["parts","name","slot","others"] [v0,v1,v2,v3]) h=f 7 [.ins 7 ["parts","name","slot","others"] [v0,v1,v2,v3]] h:=ydt (by rfl')
theorem yuI {v0 v1:PV}{f:Nat->Fn}{h:AH}:yiF "long" f (.ins 8 ["name","slot"] [v0,v1]) h=f 8 [.ins 8 ["name","slot"] [v0,v1]] h:=ydt (by rfl')
theorem ywf {f:Nat->Fn}{h:AH}:yiF "long" f (.ins 9 [] []) h=f 9 [.ins 9 [] []] h:=ydt (by rfl')
theorem yrJ {v0 v1:PV}{h:AH}:ydU [10] "words" (.ins 10 ["words","at"] [v0,v1]) h=some (v0,h):=ygh (by decide) (by rfl') (by rw [show idxOf ("words":Str) ["words","at"]=0 by rfl'];rfl)
theorem ywg {v0 v1:PV}{h:AH}:ydU [10,12] "at" (.ins 10 ["words","at"] [v0,v1]) h=some (v1,h):=ygh (by decide) (by rfl') (by rw [show idxOf ("at":Str) ["words","at"]=1 by rfl'];rfl)
section
def sl_ (s:String):Array (Lean.TSyntax `Lean.Parser.Tactic.simpLemma):=(s.splitOn " ").toArray.map fun s=>⟨Lean.mkNode `Lean.Parser.Tactic.simpLemma #[Lean.mkNullNode,Lean.mkNullNode,Lean.mkIdent s.toName]⟩
local macro_rules | `(tactic| simp_all? only [$ls,*])=>`(tactic| simp only [$(sl_ "ybK yDl yDm yvQ yAA x_c yDo yDp yGc yGd yxC yAB yAC yDq yGe yDr yGf yxD yAD yDs yDt yCw yDu yDv yDw x_call yGg yDx yAE yxE yAF yxF yAG ypd yDy yDz ynI ytZ yDA yua yAH yAI yDB yDC yDD yDE yDF yDG yDH yDI x_i yGh ymE yvR ynJ yAK yDJ yDK yDL yDM yDN yDO yAL yAM yDP yDQ yDR yDS yDT yDU yDV yDW yGi yDX yAN yub yAO yAP yAQ yvS yxG yvT yDn bind_some Option.bind_none List.set_cons_zero List.set_cons_succ length_cons length_nil decide_eq_true_eq Bool.not_eq_true' decide_eq_false_iff_not if_true if_false ite_true ite_false and_self Int.reducePow Int.reduceToNat Int.reduceLT Int.reduceLE Int.reduceNeg Int.reduceAdd Int.reduceSub Nat.reduceLT Nat.reduceLeDiff Nat.reduceAdd true_and and_true reduceIte Nat.reduceEqDiff eq_self yEf yFG yFH yEb yEc yEd yEe Int.reduceEq Bool.not_true Bool.not_false yBm yBn yBo yBp yBq yBr yBs yyr yys yyt yyu yyv yhW yhb ylw ykf"),*,$ls,*])
local macro_rules | `(tactic| symm)=>`(tactic| simp_all? only [ybK])
def tbO (cs:List Nat):List (Nat×Nat×Bool):=cs.flatMap fun i=>cs.map fun j=>(i,j,i == j)
def ydC:List (Nat×Nat×Bool):=tbO [1,2,3,4,5,6,7,8,9]
def yfd:List PV->AH->Option (Nd×AH):=ypc 1 11 (ym (ycU [11] 0 "stack" (yhy (yfi (yc (yhy (ylk)) (yh))))) (ycU [11] 0 "last_seen" (yhy (ylk))))
def yeb:Fn:=ybA 4 (ym (ycg (xOp (ycj) (ybm [11] "stack" (yf 0)) (xUn yzj (xC (.int 1)))) (yu 3)) (ymI (yf 3) (yf 1) (yf 2)))
def yec:Fn:=ybA 1 (ybD (xBM ygi (yiG) (ybm [11] "stack" (yf 0)) (yc (yhy (ylk)) (yh))))
def ydu:Fn:=ybA 3 (ym (ycg (xBM ygi (ygW) (ybm [11] "stack" (yf 0)) (yh)) (yu 1)) (ym (ycg (xOp (ycj) (ybm [11] "stack" (yf 0)) (xUn yzj (xC (.int 1)))) (yu 2)) (ybD (xBM ypi (yzn) (yf 2) (yc (yf 1) (yh))))))
def yeT:Fn:=ybA 1 (ybD (xBM ygi (ygW) (ybm [11] "stack" (yf 0)) (yh)))
def yfG:Fn:=ybA 1 (yO (xFz (yfE (ybm [11] "last_seen" (yf 0)))))
def yed:Fn:=ybA 2 (ym (ycg (xOp (ycj) (ybm [11] "stack" (yf 0)) (xC (.int 0))) (yu 1)) (yO (xFz (yfE (yf 1)))))
def ydL:Fn:=ybA 1 (yO (yjF (xCB (yiA ydC) (yc (yf 0) (yc (xC (.ty "int")) (yh)))) (ywU (xCB (yiA ydC) (yc (yf 0) (yc (xC (.ty "bool")) (yh)))))))
def ycJ:Fn:=ybA 1 (yO (yjF (yM ydL (yc (yf 0) (yh))) (yeZ (oLe) (oLt) (xC (.int 0)) (yf 0) (xC (.int 18446744073709551616)))))
def ycO:Fn:=ybA 2 (yO (xCB (yvP) (yc (xFz (yfj (xIS (yf 0)) [1] (xOp (yAq) (yf 0) (yf 1)))) (yh))))
def yee:Fn:=ybA 2 (ym (ybF (xOr (yiV (yo (yeZ (oLe) (oLe) (xC (.int 1)) (xCB (ymB) (yc (yf 0) (yh))) (xC (.int 20))))) (yiV (yo (yM ycO (yc (yf 0) (yc (xC (.str "0123456789")) (yh))))))) (yO (xC .non)) (yI)) (ym (ybF (ywV (yo (xOp (oEq) (xOp (yAs) (yf 0) (xC (.int 0))) (xC (.str "0")))) (yo (xOp (oNe) (yf 0) (xC (.str "0"))))) (yO (xC .non)) (yI)) (ym (ycg (xCB (yqJ) (yc (yf 0) (yh))) (yu 1)) (yO (xIf (yo (xOp (oLt) (yf 1) (xC (.int 18446744073709551616)))) (yf 1) (xC .non))))))
def yfH:Fn:=ybA 1 (yO (yjF (xOp (oEq) (xCB (ymB) (yc (yf 0) (yh))) (xC (.int 1))) (xOp (yAq) (yf 0) (xC (.str "abcdefgh")))))
def ydv:Fn:=ybA 1 (yO (xBM isStr (ymD) (xC (.str "abcdefgh")) (yc (yf 0) (yh))))
def yfI:Fn:=ybA 1 (yO (yjF (yeZ (oLe) (oLe) (xC (.int 1)) (xCB (ymB) (yc (yf 0) (yh))) (xC (.int 8))) (yM ycO (yc (yf 0) (yc (xC (.str "abcdefghijklmnopqrstuvwxyz")) (yh))))))
def yex:List PV->AH->Option (Nd×AH):=ypc 3 12 (ym (ycU [12] 0 "held" (yhy (yiz (yR) (yc (yf 1) (yh))))) (ym (ycU [12,14] 0 "width" (yf 2)) (ycU [12] 0 "log" (yhy (ygV yfd (yh))))))
def ybM:Fn:=ybA 2 (yO (xOp (ycj) (ybm [12] "held" (yf 0)) (yM ydv (yc (yf 1) (yh)))))
def ycK:Fn:=ybA 3 (ygj (ybm [12] "held" (yf 0)) (yM ydv (yc (yf 1) (yh))) (yf 2))
def ydb:Fn:=ybA 2 (yO (xOp oMod (yj 12 "held_in" ybM (yf 0) (yc (yf 1) (yh))) (ybm [12,14] "width" (yf 0))))
def ycA:Fn:=ybA 3 (ybD (yj 11 "write" yeb (ybm [12] "log" (yf 0)) (yc (yj 12 "box_at" ydb (yf 0) (yc (yf 1) (yh))) (yc (yj 12 "held_in" ybM (yf 0) (yc (yf 2) (yh))) (yh)))))
def yhX:Fn:=ybA 2 (ym (ybF (yo (xOp (oEq) (xOp (yce) (yf 1) (xC (.int 0))) (xC (.str "wait")))) (yO (xOp (oEq) (xOp (yce) (yf 0) (xC (.int 0))) (xC (.str "either")))) (yI)) (yO (yjF (xOp (oEq) (xOp (yce) (yf 0) (xC (.int 0))) (xC (.str "guard"))) (xOp (oEq) (xOp (yce) (yf 0) (xC (.int 1))) (xOp (yce) (yf 1) (xC (.int 1)))))))
def ydD:List PV->AH->Option (Nd×AH):=ypc 4 12 (ym (xBI 12 yex (yc (yf 2) (yc (yf 3) (yh)))) (ym (ycU [12] 0 "rows" (yf 1)) (ym (ycU [10,12] 0 "at" (xC (.int 0))) (ym (ycU [12] 0 "seen_stamps" (yhy (ylk))) (ycU [12] 0 "sides" (yhy (yfi (yh))))))))
def ydM:Fn:=ybA 1 (yO (xOp (ycj) (ybm [12] "rows" (yf 0)) (ybm [10,12] "at" (yf 0))))
def yck:Fn:=ybA 2 (yO (xCB (yuu) (yc (xFz (yjc (ybm [12] "seen_stamps" (yf 0)) [1,0] (xOp (oNe) (xOp (ycj) (yf 1) (yf 0)) (ymH (ybm [12] "seen_stamps" (yf 2)) (yf 0))))) (yh))))
def yV:Fn:=ybA 3 (ym (ycg (xCB (ybP) (yc (ybm [12] "sides" (yf 0)) (yh))) (yu 2)) (ym (yfa 1000 (ywV (yo (xOp (oGt) (yf 2) (xC (.int 0)))) (yiV (yo (yM yhX (yc (xOp (yce) (xOp (ycj) (ybm [12] "sides" (yf 0)) (xOp ytO (yf 2) (xC (.int 1)))) (xC (.int 0))) (yc (yf 1) (yh))))))) (ycg (xOp ytO (yf 2) (xC (.int 1))) (yu 2))) (yO (yf 2))))
def loB:XS:=(ym (ybF (yo (xOp (oEq) (xOp (yce) (yf 1) (xC (.int 0))) (xC (.str "take")))) (ybT) (yI)) (ym (ybF (xOr (yo (xOp (oEq) (xOp (yce) (yf 1) (xC (.int 0))) (xC (.str "wait")))) (yo (xOp (oEq) (xOp (yce) (yf 1) (xC (.int 0))) (xC (.str "throw"))))) (yO (xOp (oEq) (yj 12 "taker_layer" yV (yf 0) (yc (yf 1) (yh))) (xC (.int 0)))) (yI)) (yO (xOp (oEq) (xOp (yce) (yf 1) (xC (.int 0))) (xC (.str "lay"))))))
def ybe:Fn:=ybA 2 (ym (ycg (yj 12 "row" ydM (yf 0) (yh)) (yu 1)) loB)
def yP:Fn:=ybA 2 (ybF (yo (xOp (oEq) (xOp (yce) (yf 1) (xC (.int 0))) (xC (.str "let")))) (ybD (yj 12 "hold" ycK (yf 0) (yc (xOp (yce) (yf 1) (xC (.int 1))) (yc (xOp (yce) (yf 1) (xC (.int 2))) (yh))))) (ybF (yo (xOp (oEq) (xOp (yce) (yf 1) (xC (.int 0))) (xC (.str "take")))) (ybT) (ybF (yo (xOp (oEq) (xOp (yce) (yf 1) (xC (.int 0))) (xC (.str "put")))) (ybD (yj 12 "do_put" ycA (yf 0) (yc (xOp (yce) (yf 1) (xC (.int 1))) (yc (xOp (yce) (yf 1) (xC (.int 2))) (yh))))) (ybT))))
def yde:Fn:=ybA 2 (ybF (yo (xOp (oEq) (xOp (yce) (yf 1) (xC (.int 0))) (xC (.str "jump")))) (ydh [10,12] "at" (yf 0) (xOp (yce) (yf 1) (xC (.int 1)))) (ybT))
abbrev lvC:XT:=(yo (xOp (oGe) (xCB (ybP) (yc (ybm [12] "sides" (yf 0)) (yh))) (yf 2)))
abbrev lvB:XS:=(ym (ybD (xBM ygi (ygW) (ybm [12] "sides" (yf 0)) (yh))) (ybD (yj 11 "drop" yeT (ybm [12] "log" (yf 0)) (yh))))
def ybW:Fn:=ybA 5 (ym (ycg (yj 12 "taker_layer" yV (yf 0) (yc (yf 1) (yh))) (yu 2)) (ym (ycg (xOp (ycj) (ybm [12] "sides" (yf 0)) (xOp ytO (yf 2) (xC (.int 1)))) (yu 3)) (ym (yfa 1000 lvC lvB) (ym (ycg (xOp (yce) (yf 3) (xC (.int 0))) (yu 4)) (ym (ydh [12] "held" (yf 0) (yhy (yiz (yR) (yc (xOp (yce) (yf 3) (xC (.int 1))) (yh))))) (ym (ydh [10,12] "at" (yf 0) (xOp (yce) (yf 4) (xUn yzj (xC (.int 1))))) (yO (yf 4))))))))
def ycs:Fn:=ybA 4 (ym (ycg (yj 12 "held_in" ybM (yf 0) (yc (xOp (yce) (yf 1) (xC (.int 2))) (yh))) (yu 2)) (ym (ycg (yj 12 "leave" ybW (yf 0) (yc (yf 1) (yh))) (yu 3)) (ybD (yj 12 "hold" ycK (yf 0) (yc (xOp (yce) (yf 3) (xC (.int 2))) (yc (yf 2) (yh)))))))
def goS:XS:=(ym (ybD (xBM ygi (ygW) (ybm [12] "sides" (yf 0)) (yh))) (ybD (yj 11 "settle" ydu (ybm [12] "log" (yf 0)) (yh))))
def goE:XS:=(ym (ybD (xBM ygi (yiG) (ybm [12] "sides" (yf 0)) (yc (yiy (yc (yf 1) (yc (xFz (yiz (yR) (yc (ybm [12] "held" (yf 0)) (yh)))) (yh)))) (yh)))) (ybD (yj 11 "begin" yec (ybm [12] "log" (yf 0)) (yh))))
def goB:XS:=(ybF (yo (xOp (oEq) (xOp (yce) (yf 1) (xC (.int 0))) (xC (.str "wait")))) (ybD (yj 12 "leave" ybW (yf 0) (yc (yf 1) (yh)))) (ybF (yo (xOp (oEq) (xOp (yce) (yf 1) (xC (.int 0))) (xC (.str "throw")))) (ybD (yj 12 "throw" ycs (yf 0) (yc (yf 1) (yh)))) (ybF (xOr (yo (xOp (oEq) (xOp (yce) (yf 1) (xC (.int 0))) (xC (.str "jump")))) (yo (xOp (oEq) (xOp (yce) (yf 1) (xC (.int 0))) (xC (.str "unless"))))) (ybD (yj 12 "lead" yde (yf 0) (yc (yf 1) (yh)))) (ybF (xOr (yo (xOp (oEq) (xOp (yce) (yf 1) (xC (.int 0))) (xC (.str "either")))) (yo (xOp (oEq) (xOp (yce) (yf 1) (xC (.int 0))) (xC (.str "guard"))))) goE (ybF (yo (xOp (oEq) (xOp (yce) (yf 1) (xC (.int 0))) (xC (.str "settle")))) goS (ybD (yj 12 "go_plain" yP (yf 0) (yc (yf 1) (yh)))))))))
def ycB:Fn:=ybA 2 (ym (ycg (yj 12 "row" ydM (yf 0) (yh)) (yu 1)) (ym (ydh [10,12] "at" (yf 0) (xOp yhk (ybm [10,12] "at" (yf 0)) (xC (.int 1)))) goB))
def ybX:Fn:=ybA 1 (ym (ybF (yo (xOp (oEq) (ybm [14] "nth" (yf 0)) (xCB (ybP) (yc (ybm [14] "deeds" (yf 0)) (yh))))) (yO (xC (.str "ended"))) (yI)) (yO (xIf (yo (ybm [14] "sleeps" (yf 0))) (xC (.str "asleep")) (xC (.str "awake")))))
def ycl:Fn:=ybA 2 (ym (ycg (xIf (yo (xOp (oLt) (ybm [14] "nth" (yf 0)) (xCB (ybP) (yc (ybm [14] "deeds" (yf 0)) (yh))))) (xOp (ycj) (ybm [14] "deeds" (yf 0)) (ybm [14] "nth" (yf 0))) (xFz (yfi (yh)))) (yu 1)) (yO (yhy (ygV ydD (yc (yf 1) (yc (ybm [14] "before" (yf 0)) (yc (ybm [12,14] "width" (yf 0)) (yh))))))))
def ydw:Fn:=ybA 2 (ym (ydh [14] "nth" (yf 0) (xOp yhk (ybm [14] "nth" (yf 0)) (xC (.int 1)))) (ym (ydh [14] "before" (yf 0) (xFz (yiz (yR) (yc (yf 1) (yh))))) (ydh [14] "run" (yf 0) (yj 14 "new_run" ycl (yf 0) (yh)))))
def ybn:Fn:=ybA 3 (ym (ydh [14] "deeds" (yf 0) (xFz (yiz (yR) (yc (yf 1) (yh))))) (ym (ydh [12,14] "width" (yf 0) (yf 2)) (ym (ydh [14] "nth" (yf 0) (xC (.int 0))) (ym (ydh [14] "sleeps" (yf 0) (xC (.bl false))) (ym (ydh [14] "before" (yf 0) (xFz (ysP yxy (xFz (yfi (yc (xC (.int 0)) (yh)))) (xCB (ymB) (yc (xC (.str "abcdefgh")) (yh)))))) (ydh [14] "run" (yf 0) (yj 14 "new_run" ycl (yf 0) (yh))))))))
def ydE:List PV->AH->Option (Nd×AH):=ypc 3 1 (ym (ycU [1,3,4,7,8] 0 "slot" (yf 1)) (ycU [1] 0 "number" (yf 2)))
def ydF:List PV->AH->Option (Nd×AH):=ypc 3 4 (ym (ycU [3,4] 0 "place" (yf 1)) (ycU [1,3,4,7,8] 0 "slot" (yf 2)))
def ycL:List PV->AH->Option (Nd×AH):=ypc 3 6 (ym (ycU [6,7] 0 "parts" (xFz (yiz (yR) (yc (yf 1) (yh))))) (ycU [6,7] 0 "others" (xFz (yiz (yR) (yc (yf 2) (yh))))))
def ydG:List PV->AH->Option (Nd×AH):=ypc 5 7 (ym (ycU [6,7] 0 "parts" (xFz (yiz (yR) (yc (yf 1) (yh))))) (ym (ycU [7,8] 0 "name" (yf 2)) (ym (ycU [1,3,4,7,8] 0 "slot" (yf 3)) (ycU [6,7] 0 "others" (xFz (yiz (yR) (yc (yf 4) (yh))))))))
def ycW:List PV->AH->Option (Nd×AH):=ypc 3 8 (ym (ycU [7,8] 0 "name" (yf 1)) (ycU [1,3,4,7,8] 0 "slot" (yf 2)))
def yjd:Fn:=ybA 1 (yO (xC (.int 1)))
def yje:Fn:=ybA 1 (yO (xC (.int 1)))
def ygG:Fn:=ybA 1 (yO (xC (.int 1)))
def yhY:Fn:=ybA 1 (yO (xC (.int 1)))
mutual
noncomputable def yfJ:Nat->Nat->Fn
 | 0,_=>fun _ _=>none
 | n+1,k=>match k with|1=>yjd|4=>yje|6=>ydc n|7=>yeU n|8=>ygG|9=>yhY|_=>fun _ _=>none
noncomputable def ybH:Nat->Fn
 | 0=>fun _ _=>none
 | n+1=>ybA 1 (yO (xCB (yAw) (yc (xFz (yfj (xIL (yf 0)) [] (yiE "long" (yfJ n) (yf 0)))) (yh))))
noncomputable def ydc:Nat->Fn
 | 0=>fun _ _=>none
 | n+1=>ybA 1 (yO (xOp yhk (xOp yhk (xC (.int 3)) (yM (ybH n) (yc (ybm [6,7] "parts" (yf 0)) (yh)))) (yM (ybH n) (yc (ybm [6,7] "others" (yf 0)) (yh)))))
noncomputable def yeU:Nat->Fn
 | 0=>fun _ _=>none
 | n+1=>ybA 1 (yO (xOp yhk (xOp yhk (xC (.int 3)) (yM (ybH n) (yc (ybm [6,7] "parts" (yf 0)) (yh)))) (yM (ybH n) (yc (ybm [6,7] "others" (yf 0)) (yh)))))
end
def ygH:Fn:=ybA 1 (ym (ybF (yo (xCB (yiA ydC) (yc (yf 0) (yc (xC (.cls 1)) (yh))))) (yO (xFz (yfi (yc (yiy (yc (xC (.str "let")) (yc (ybm [1,3,4,7,8] "slot" (yf 0)) (yc (ybm [1] "number" (yf 0)) (yh))))) (yh))))) (yI)) (ym (ybF (yo (xCB (yiA ydC) (yc (yf 0) (yc (xC (.cls 2)) (yh))))) (ybT) (yI)) (ym (ybF (yo (xCB (yiA ydC) (yc (yf 0) (yc (xC (.cls 3)) (yh))))) (ybT) (yI)) (ym (ybF (yo (xCB (yiA ydC) (yc (yf 0) (yc (xC (.cls 4)) (yh))))) (yO (xFz (yfi (yc (yiy (yc (xC (.str "put")) (yc (ybm [3,4] "place" (yf 0)) (yc (ybm [1,3,4,7,8] "slot" (yf 0)) (yh))))) (yh))))) (yI)) (ym (ybF (yo (xCB (yiA ydC) (yc (yf 0) (yc (xC (.cls 8)) (yh))))) (yO (xFz (yfi (yc (yiy (yc (xC (.str "throw")) (yc (ybm [7,8] "name" (yf 0)) (yc (ybm [1,3,4,7,8] "slot" (yf 0)) (yh))))) (yh))))) (yI)) (ym (ybF (yo (xCB (yiA ydC) (yc (yf 0) (yc (xC (.cls 9)) (yh))))) (yO (xFz (yfi (yc (yiy (yc (xC (.str "wait")) (yh))) (yh))))) (yI)) (yO (xFz (yfi (yh))))))))))
def yhZ:Fn:=ybA 2 (ym (ybF (yo (xCB (yiA ydC) (yc (yf 0) (yc (xC (.cls 5)) (yh))))) (ybT) (yI)) (ym (ybF (yo (xCB (yiA ydC) (yc (yf 0) (yc (xC (.cls 6)) (yh))))) (yO (yiy (yc (xC (.str "either")) (yc (yf 1) (yh))))) (yI)) (yO (yiy (yc (xC (.str "guard")) (yc (ybm [7,8] "name" (yf 0)) (yc (ybm [1,3,4,7,8] "slot" (yf 0)) (yc (yf 1) (yh)))))))))
def yfe:Fn:=ybA 2 (ym (ybF (yo (xCB (yiA ydC) (yc (yf 0) (yc (xC (.cls 5)) (yh))))) (ybT) (yI)) (yO (xFz (yfi (yc (yiy (yc (xC (.str "settle")) (yh))) (yc (yiy (yc (xC (.str "jump")) (yc (yf 1) (yh)))) (yh)))))))
mutual
noncomputable def ycM:Nat->Fn
 | 0=>fun _ _=>none
 | n+1=>ybA 4 (ym (ymx (yfi (yh)) 2) (ym (ymz (xIL (yf 0)) (yu 3) (ype 2 (yM (ybo n) (yc (yf 3) (yc (xOp yhk (yf 1) (yhG 2)) (yh)))))) (yoX 2 (yO (yf 2)))))
noncomputable def ybo:Nat->Fn
 | 0=>fun _ _=>none
 | n+1=>ybA 2 (ym (ybF (xOr (yo (xCB (yiA ydC) (yc (yf 0) (yc (xC (.cls 5)) (yh))))) (xOr (yo (xCB (yiA ydC) (yc (yf 0) (yc (xC (.cls 6)) (yh))))) (yo (xCB (yiA ydC) (yc (yf 0) (yc (xC (.cls 7)) (yh))))))) (yO (yM (ygI n) (yc (yf 0) (yc (yf 1) (yh))))) (yI)) (yO (yM ygH (yc (yf 0) (yh)))))
noncomputable def ygI:Nat->Fn
 | 0=>fun _ _=>none
 | n+1=>ybA 6 (ym (ycg (xOp yhk (yf 1) (yiE "long" (yfJ 45) (yf 0))) (yu 2)) (ym (ycg (xOp ytO (yf 2) (yM (ybH 45) (yc (ybm [6,7] "others" (yf 0)) (yh)))) (yu 3)) (ym (ycg (yM (ycM n) (yc (ybm [6,7] "parts" (yf 0)) (yc (xOp yhk (yf 1) (xC (.int 1))) (yh)))) (yu 4)) (ym (ycg (yM (ycM n) (yc (ybm [6,7] "others" (yf 0)) (yc (yf 3) (yh)))) (yu 5)) (yO (xFz (ysP yxx (xFz (ysP yxx (xFz (ysP yxx (xFz (yfi (yc (yM yhZ (yc (yf 0) (yc (yf 3) (yh)))) (yh)))) (yf 4))) (yM yfe (yc (yf 0) (yc (yf 2) (yh)))))) (yf 5))))))))
end
def ydN:Fn:=ybA 1 (yO (xFz (ysP yxx (yM (ycM 45) (yc (yf 0) (yc (xC (.int 0)) (yh)))) (xFz (yfi (yc (yiy (yc (xC (.str "lay")) (yh))) (yh)))))))
def ycN:List PV->AH->Option (Nd×AH):=ypc 2 10 (ym (ycU [10] 0 "words" (xFz (yiz (yR) (yc (yf 1) (yh))))) (ycU [10,12] 0 "at" (xC (.int 0))))
def yeV:Fn:=ybA 1 (ym (ybF (yo (xOp (oEq) (yf 0) (xC (.str "")))) (yO (xFz (yfi (yh)))) (yI)) (yO (xBM isStr (ylq) (yf 0) (yc (xC (.str " ")) (yh)))))
def yQ:Fn:=ybA 1 (ym (ybF (yo (xOp (oLt) (ybm [10,12] "at" (yf 0)) (xCB (ybP) (yc (ybm [10] "words" (yf 0)) (yh))))) (yO (xOp (ycj) (ybm [10] "words" (yf 0)) (ybm [10,12] "at" (yf 0)))) (yI)) (yO (xC .non)))
def ybj:Fn:=ybA 2 (ym (ycg (yj 10 "ahead" yQ (yf 0) (yh)) (yu 1)) (ym (ybF (yo (xOp (yzl) (yf 1) (xC .non))) (ybT) (yI)) (ym (ydh [10,12] "at" (yf 0) (xOp yhk (ybm [10,12] "at" (yf 0)) (xC (.int 1)))) (yO (yf 1)))))
def yF:Fn:=ybA 3 (ym (ycg (yj 10 "taken" ybj (yf 0) (yh)) (yu 2)) (ybF (yo (xOp (oNe) (yf 2) (yf 1))) (ybT) (yI)))
def yB:Fn:=ybA 2 (ym (ycg (yj 10 "taken" ybj (yf 0) (yh)) (yu 1)) (ym (ybF (yiV (yo (yM yfH (yc (yf 1) (yh))))) (ybT) (yI)) (yO (yf 1))))
def ybp:Fn:=ybA 2 (ym (ycg (yj 10 "taken" ybj (yf 0) (yh)) (yu 1)) (ym (ybF (yiV (yo (yM yfI (yc (yf 1) (yh))))) (ybT) (yI)) (yO (yf 1))))
def yby:Fn:=ybA 3 (ym (ycg (yj 10 "taken" ybj (yf 0) (yh)) (yu 1)) (ym (ycg (yM yee (yc (yf 1) (yh))) (yu 2)) (ym (ybF (yo (xOp (yzl) (yf 2) (xC .non))) (ybT) (yI)) (yO (yf 2)))))
def ybB:Fn:=ybA 5 (ym (ybF (yo (xOp (oEq) (yf 1) (xC (.str "let")))) (ym (ycg (yj 10 "slot_taken" yB (yf 0) (yh)) (yu 2)) (yO (xFz (ygV ydE (yc (yf 2) (yc (yj 10 "number_taken" yby (yf 0) (yh)) (yh))))))) (yI)) (ym (ybF (yo (xOp (oEq) (yf 1) (xC (.str "take")))) (ym (ycg (yj 10 "slot_taken" yB (yf 0) (yh)) (yu 2)) (ybT)) (yI)) (ym (ybF (yo (xOp (oEq) (yf 1) (xC (.str "put")))) (ym (ycg (yj 10 "slot_taken" yB (yf 0) (yh)) (yu 3)) (yO (xFz (ygV ydF (yc (yf 3) (yc (yj 10 "slot_taken" yB (yf 0) (yh)) (yh))))))) (yI)) (ym (ybF (yo (xOp (oEq) (yf 1) (xC (.str "throw")))) (ym (ycg (yj 10 "name_taken" ybp (yf 0) (yh)) (yu 4)) (yO (xFz (ygV ycW (yc (yf 4) (yc (yj 10 "slot_taken" yB (yf 0) (yh)) (yh))))))) (yI)) (ym (ybF (yo (xOp (oEq) (yf 1) (xC (.str "wait")))) (yO (xFz (ynH 9))) (yI)) (ym (ybT) (ybT)))))))
def yiH:XT:=yo (xOp (oEq) (yj 10 "ahead" yQ (yf 0) (yh)) (xC (.str ";")))
mutual
noncomputable def ybq:Nat->Fn
 | 0=>fun _ _=>none
 | n+1=>ybA 3 (ym (ybF (xOr (yo (xOp (yzl) (yj 10 "ahead" yQ (yf 0) (yh)) (xC .non))) (yo (xOp (oEq) (yj 10 "ahead" yQ (yf 0) (yh)) (xC (.str ")"))))) (yO (xFz (yfi (yh)))) (yI)) (ym (ymx (yfi (yc (yj 10 "part_taken" (yC n) (yf 0) (yc (yf 1) (yh))) (yh))) 2) (ym (yfa 100 (yiH) (ym (ybD (yj 10 "pass_over" yF (yf 0) (yc (xC (.str ";")) (yh)))) (yfA 2 (yj 10 "part_taken" (yC n) (yf 0) (yc (yf 1) (yh)))))) (yoX 2 (yO (yf 2))))))
noncomputable def yL:Nat->Fn
 | 0=>fun _ _=>none
 | n+1=>ybA 3 (ym (ybD (yj 10 "pass_over" yF (yf 0) (yc (xC (.str "(")) (yh)))) (ym (ycg (yj 10 "list_taken" (ybq n) (yf 0) (yc (yf 1) (yh))) (yu 2)) (ym (ybD (yj 10 "pass_over" yF (yf 0) (yc (xC (.str ")")) (yh)))) (yO (yf 2)))))
noncomputable def yC:Nat->Fn
 | 0=>fun _ _=>none
 | n+1=>ybA 3 (ym (ybF (yo (xOp (oGt) (yf 1) (xC (.int 8)))) (ybT) (yI)) (ym (ycg (yj 10 "taken" ybj (yf 0) (yh)) (yu 2)) (ym (ybF (yo (xOp (oEq) (yf 2) (xC (.str "if")))) (ybT) (yI)) (ym (ybF (yo (xOp (oEq) (yf 2) (xC (.str "either")))) (yO (yj 10 "either_taken" (ybz n) (yf 0) (yc (xOp yhk (yf 1) (xC (.int 1))) (yh)))) (yI)) (ym (ybF (yo (xOp (oEq) (yf 2) (xC (.str "try")))) (yO (yj 10 "try_taken" (ybS n) (yf 0) (yc (xOp yhk (yf 1) (xC (.int 1))) (yh)))) (yI)) (yO (yj 10 "plain_taken" ybB (yf 0) (yc (yf 2) (yh)))))))))
noncomputable def ybz:Nat->Fn
 | 0=>fun _ _=>none
 | n+1=>ybA 4 (ym (ycg (yj 10 "side_taken" (yL n) (yf 0) (yc (yf 1) (yh))) (yu 2)) (ym (ybD (yj 10 "pass_over" yF (yf 0) (yc (xC (.str "or")) (yh)))) (ym (ycg (yj 10 "side_taken" (yL n) (yf 0) (yc (yf 1) (yh))) (yu 3)) (yO (xFz (ygV ycL (yc (yf 2) (yc (yf 3) (yh)))))))))
noncomputable def ybS:Nat->Fn
 | 0=>fun _ _=>none
 | n+1=>ybA 6 (ym (ycg (yj 10 "side_taken" (yL n) (yf 0) (yc (yf 1) (yh))) (yu 2)) (ym (ybD (yj 10 "pass_over" yF (yf 0) (yc (xC (.str "on")) (yh)))) (ym (ycg (yj 10 "name_taken" ybp (yf 0) (yh)) (yu 3)) (ym (ycg (yj 10 "slot_taken" yB (yf 0) (yh)) (yu 4)) (ym (ycg (yj 10 "side_taken" (yL n) (yf 0) (yc (yf 1) (yh))) (yu 5)) (yO (xFz (ygV ydG (yc (yf 2) (yc (yf 3) (yc (yf 4) (yc (yf 5) (yh)))))))))))))
end
def yjf:Fn:=ybA 3 (ym (ycg (yhy (ygV ycN (yc (yM yeV (yc (yf 0) (yh))) (yh)))) (yu 1)) (ym (ycg (yj 10 "list_taken" (ybq 45) (yf 1) (yc (xC (.int 0)) (yh))) (yu 2)) (ym (ybF (yo (xOp (ytS) (yj 10 "ahead" yQ (yf 1) (yh)) (xC .non))) (ybT) (yI)) (ym (ybF (yo (xOp (oGt) (xOp yhk (yM (ybH 45) (yc (yf 2) (yh))) (xC (.int 1))) (xC (.int 80)))) (ybT) (yI)) (yO (yf 2))))))
def ydd:Fn:=ybA 1 (ym (ybF (yiV (yo (yeZ (oLe) (oLe) (xC (.int 1)) (xCB (ybP) (yc (yf 0) (yh))) (xC (.int 16))))) (ybT) (yI)) (ybF (yiV (yo (xCB (yvP) (yc (xFz (yfj (xIL (yf 0)) [] (yM ycJ (yc (yf 0) (yh))))) (yh))))) (ybT) (yI)))
def ybr:Fn:=ybA 1 (yO (xFz (yfj (xIL (yf 0)) [] (yM ydN (yc (yM yjf (yc (yf 0) (yh))) (yh))))))
def ybY:Fn:=ybA 1 (ym (ybF (yiV (yo (yeZ (oLe) (oLe) (xC (.int 1)) (xCB (ybP) (yc (yf 0) (yh))) (xC (.int 8))))) (ybT) (yI)) (ym (ybF (yo (xCB (yuu) (yc (xFz (yfj (xIL (yf 0)) [] (xOp (oGt) (xCB (ybP) (yc (yf 0) (yh))) (xC (.int 6))))) (yh)))) (ybT) (yI)) (yO (xFz (yfj (xIL (yf 0)) [] (yM ybr (yc (yf 0) (yh))))))))
def ybZ:Fn:=ybA 3 (ym (ybD (yM ydd (yc (yf 1) (yh)))) (ym (ydh [15] "numbers" (yf 0) (yhy (yiz (yR) (yc (yf 1) (yh))))) (ym (ydh [15] "marks" (yf 0) (yhy (ysP yxy (xFz (yfi (yc (xC (.int 0)) (yh)))) (xCB (ybP) (yc (yf 1) (yh)))))) (ym (ydh [15] "crew" (yf 0) (yhy (yfj (xIL (yM ybY (yc (yf 2) (yh)))) [1] (yhL 14 ybn (yc (yf 0) (yc (xCB (ybP) (yc (yf 1) (yh))) (yh))))))) (ydh [15] "entries" (yf 0) (yhy (yfi (yh))))))))
def ycP:Fn:=ybA 1 (yO (xFz (yiz (yR) (yc (ybm [15] "numbers" (yf 0)) (yh)))))
def ycC:Fn:=ybA 1 (yO (xFz (yiz (yR) (yc (ybm [15] "marks" (yf 0)) (yh)))))
def ybN:Fn:=ybA 2 (ym (ybF (xOr (yiV (yo (yM ydL (yc (yf 1) (yh))))) (yiV (yo (yeZ (oLe) (oLt) (xC (.int 0)) (yf 1) (xCB (ybP) (yc (ybm [15] "crew" (yf 0)) (yh))))))) (ybT) (yI)) (yO (xOp (ycj) (ybm [15] "crew" (yf 0)) (yf 1))))
def ycQ:Fn:=ybA 2 (yO (yj 14 "state" ybX (yj 15 "hand_at" ybN (yf 0) (yc (yf 1) (yh))) (yh)))
def ycm:Fn:=ybA 1 (yO (xFz (ylr (ybm [15] "entries" (yf 0)) [] (yiy (yc (xOp (yce) (yf 0) (xC (.int 0))) (yc (xOp (yce) (yf 0) (xC (.int 1))) (yc (xOp (yce) (yf 0) (xC (.int 2))) (yc (xFz (yiz (yR) (yc (xOp (yce) (yf 0) (xC (.int 3))) (yh)))) (yc (xFz (yiz (yR) (yc (xOp (yce) (yf 0) (xC (.int 4))) (yh)))) (yc (xFz (yiz (yR) (yc (xOp (yce) (yf 0) (xC (.int 5))) (yh)))) (yh)))))))))))
def wkB:XS:=(ybF (ywV (yo (xOp (oEq) (yj 14 "state" ybX (yf 1) (yh)) (xC (.str "asleep")))) (yo (yj 12 "is_stale" yck (ybm [14] "run" (yf 1)) (yc (ybm [15] "marks" (yf 0)) (yh))))) (ybT) (yI))
def ybl:Fn:=ybA 2 (yrd false (ybm [15] "crew" (yf 0)) (yu 1) wkB)
def ycD:Fn:=ybA 6 (ym (ycg (xOp (ycj) (ybm [15] "crew" (yf 0)) (yf 1)) (yu 5)) (ym (ybD (xBM ygi (yiG) (ybm [15] "entries" (yf 0)) (yc (yiy (yc (yf 1) (yc (ybm [14] "nth" (yf 5)) (yc (yf 2) (yc (yj 11 "saw" yfG (ybm [12] "log" (ybm [14] "run" (yf 5))) (yh)) (yc (yf 3) (yc (xFz (yiz (yR) (yc (yf 4) (yh)))) (yh)))))))) (yh)))) (ybD (yj 14 "go_on" ydw (yf 5) (yc (yf 4) (yh))))))
def ldB:XS:=(ym (ycg (xOp (yce) (yf 4) (xC (.int 0))) (yu 5)) (ym (ygj (ybm [15] "numbers" (yf 0)) (yf 5) (xOp (yce) (yf 4) (xC (.int 1)))) (ygj (ybm [15] "marks" (yf 0)) (yf 5) (xOp yhk (xOp (ycj) (ybm [15] "marks" (yf 0)) (yf 5)) (xC (.int 1))))))
def ycE:Fn:=ybA 6 (ym (ycg (ybm [14] "run" (xOp (ycj) (ybm [15] "crew" (yf 0)) (yf 1))) (yu 2)) (ym (ycg (yj 11 "wrote" yed (ybm [12] "log" (yf 2)) (yh)) (yu 3)) (ym (ymz (xIL (yf 3)) (yu 4) ldB) (ym (ybD (yj 15 "end_deed" ycD (yf 0) (yc (yf 1) (yc (yiy (yc (xC (.str "done")) (yh))) (yc (yf 3) (yc (ybm [12] "held" (yf 2)) (yh))))))) (ybD (yj 15 "wake_stale" ybl (yf 0) (yh)))))))
def ybh:Fn:=ybA 6 (ym (ycg (xOp (ycj) (ybm [15] "crew" (yf 0)) (yf 1)) (yu 3)) (ym (ycg (yj 12 "row" ydM (ybm [14] "run" (yf 3)) (yh)) (yu 4)) (ym (ybF (yo (xOp (oEq) (xOp (yce) (yf 4) (xC (.int 0))) (xC (.str "take")))) (ym (ybT) (ybT)) (yI)) (ym (ybF (yo (xOp (oEq) (xOp (yce) (yf 4) (xC (.int 0))) (xC (.str "wait")))) (ym (ybT) (ybT)) (yI)) (ym (ybF (yo (xOp (oEq) (xOp (yce) (yf 4) (xC (.int 0))) (xC (.str "throw")))) (ym (ybT) (ybT)) (yI)) (ym (ybD (yj 15 "lay_down" ycE (yf 0) (yc (yf 1) (yh)))) (yO (yiy (yc (xC (.str "done")) (yc (yf 2) (yh)))))))))))
def ybs:Fn:=ybA 4 (ym (ycg (yj 15 "hand_at" ybN (yf 0) (yc (yf 1) (yh))) (yu 2)) (ym (ybF (yo (xOp (oNe) (yj 14 "state" ybX (yf 2) (yh)) (xC (.str "awake")))) (yO (yiy (yc (xC (.str "idle")) (yh)))) (yI)) (ym (ycg (ybm [10,12] "at" (ybm [14] "run" (yf 2))) (yu 3)) (ym (ybF (yiV (yo (yj 12 "is_looked_over" ybe (ybm [14] "run" (yf 2)) (yh)))) (ym (ybD (yj 12 "go" ycB (ybm [14] "run" (yf 2)) (yh))) (yO (yiy (yc (xC (.str "gone")) (yc (yf 3) (yh)))))) (yI)) (ym (ybF (yo (yj 12 "is_stale" yck (ybm [14] "run" (yf 2)) (yc (ybm [15] "marks" (yf 0)) (yh)))) (ym (ybT) (ybT)) (yI)) (yO (yj 15 "looked_over_told" ybh (yf 0) (yc (yf 1) (yc (yf 3) (yh))))))))))
def yX:Fn:=ybA 2 (ym (ybF (yo (xOp (oLt) (yf 1) (xCB (ybP) (yc (yf 0) (yh))))) (yO (xOp (ycj) (yf 0) (yf 1))) (yI)) (yO (xC (.int 0))))
def ybL:Fn:=ybA 2 (ym (ycg (xOp oDiv (yf 0) (xC (.int 3))) (yu 1)) (ym (ybF (yo (xOp (oEq) (xOp oMod (yf 0) (xC (.int 3))) (xC (.int 1)))) (yO (xOp oMod (yf 1) (xC (.int 5)))) (yI)) (ym (ybF (yo (xOp (oEq) (xOp oMod (yf 0) (xC (.int 3))) (xC (.int 2)))) (yO (xOp ytO (xOp ytO (xOp yDi (xC (.int 2)) (xC (.int 64))) (xC (.int 1))) (xOp oMod (yf 1) (xC (.int 5))))) (yI)) (yO (xOp oMod (yf 1) (xOp yDi (xC (.int 2)) (xC (.int 64))))))))
def yca:Fn:=ybA 4 (ym (ycg (xOp yer (xOp yer (xOp yer (xOp yer (xC (.str "let a ")) (xCB (ypa) (yc (yf 1) (yh)))) (xC (.str " ; let b "))) (xCB (ypa) (yc (yf 2) (yh)))) (xC (.str " ; put a b"))) (yu 3)) (ym (ybF (yo (xOp (oEq) (yf 0) (xC (.int 0)))) (yO (xOp yer (xOp yer (xC (.str "either ( ")) (yf 3)) (xC (.str " ) or ( wait )")))) (yI)) (ym (ybF (yo (xOp (oEq) (yf 0) (xC (.int 1)))) (yO (xOp yer (xOp yer (xC (.str "either ( ")) (yf 3)) (xC (.str " ; wait ) or ( )")))) (yI)) (ym (ybF (yo (xOp (oEq) (yf 0) (xC (.int 2)))) (yO (xOp yer (xOp yer (xC (.str "try ( ")) (yf 3)) (xC (.str " ) on low c ( throw low c )")))) (yI)) (ym (ybF (yo (xOp (oEq) (yf 0) (xC (.int 3)))) (yO (xOp yer (xOp yer (xC (.str "try ( ")) (yf 3)) (xC (.str " ; throw low b ) on low c ( )")))) (yI)) (ym (ybF (yo (xOp (oEq) (yf 0) (xC (.int 4)))) (yO (xOp yer (xOp yer (xC (.str "try ( either ( ")) (yf 3)) (xC (.str " ; throw low b ) or ( ) ) on low c ( )")))) (yI)) (yO (yf 3))))))))
def deB:XS:=(ym (ycg (xOp oMod (xOp yCu (yf 4) (xC (.int 48271))) (xC (.int 2147483647))) (yu 5)) (ym (ycg (xOp oMod (yf 5) (xC (.int 8))) (yu 6)) (ym (ycg (xOp oMod (xOp oDiv (yf 5) (xC (.int 8))) (xCB (ybP) (yc (yf 1) (yh)))) (yu 7)) (ym (ycg (yM ybL (yc (yf 4) (yh))) (yu 8)) (ym (ybF (yo (xOp (oEq) (xOp oMod (xOp oDiv (yf 5) (xC (.int 200))) (xC (.int 3))) (xC (.int 0)))) (ycg (xOp (ycj) (yf 1) (yf 7)) (yu 8)) (yI)) (ym (yfA 2 (yM yca (yc (yf 6) (yc (yf 7) (yc (yf 8) (yh)))))) (ybF (yo (xOp (yCy true) (yf 6) (xFz (yfi (yc (xC (.int 1)) (yc (xC (.int 3)) (yc (xC (.int 4)) (yh)))))))) (ymI (yf 3) (yf 7) (yf 8)) (yI))))))))
def ybt:Fn:=ybA 9 (ym (ymx (yfi (yh)) 2) (ym (ycg (yhy (ylk)) (yu 3)) (ym (ymz (xIL (yf 0)) (yu 4) deB) (yoX 2 (yO (yiy (yc (xBM isStr (ypb) (xC (.str " ; ")) (yc (yf 2) (yh))) (yc (yf 3) (yh)))))))))
def gsB:XS:=(ym (ycg (yj 15 "turn" ybs (yf 0) (yc (xC (.int 0)) (yh))) (yu 4)) (ym (ybF (yo (xOp (oEq) (xOp (yce) (yf 4) (xC (.int 0))) (xC (.str "done")))) (yO (xC (.bl true))) (yI)) (ybF (xOr (yo (xOp (oNe) (xOp (yce) (yf 4) (xC (.int 0))) (xC (.str "gone")))) (xOr (yo (xOp (ypB) (yj 15 "boxes" ycP (yf 0) (yh)) (yf 1))) (yo (xOp (ypB) (yj 15 "stamps" ycC (yf 0) (yh)) (yf 2))))) (yO (xC (.bl false))) (yI))))
def yef:Fn:=ybA 5 (ym (ymz (yqC (yc (xC (.int 80)) (yh))) (yu 3) gsB) (yO (xC (.bl false))))
def whB:XS:=(ybF (xOr (yiV (yo (xCB (yiA ydC) (yc (xOp (ycj) (yf 0) (yf 2)) (yc (xC (.ty "int")) (yh)))))) (xOr (yo (xCB (yiA ydC) (yc (xOp (ycj) (yf 0) (yf 2)) (yc (xC (.ty "bool")) (yh))))) (yo (xOp (oNe) (xOp (ycj) (yf 0) (yf 2)) (xOp (ycj) (yf 1) (yf 2)))))) (yO (xC (.bl false))) (yI))
def ycR:Fn:=ybA 3 (ym (ybF (xOr (yiV (yo (xCB (yiA ydC) (yc (yf 0) (yc (xC (.ty "list")) (yh)))))) (yo (xOp (oNe) (xCB (ybP) (yc (yf 0) (yh))) (xCB (ybP) (yc (yf 1) (yh)))))) (yO (xC (.bl false))) (yI)) (ym (ymz (yqC (yc (xCB (ybP) (yc (yf 1) (yh))) (yh))) (yu 2) whB) (yO (xC (.bl true)))))
def fiB:XS:=(ym (ygj (yf 2) (yf 9) (yf 10)) (ygj (yf 8) (yf 9) (xOp yhk (xOp (ycj) (yf 8) (yf 9)) (xC (.int 1)))))
def bxE:XE:=(yM ybL (yc (xOp yhk (yM yX (yc (yf 1) (yc (xC (.int 1)) (yh)))) (xOp yCu (xOp yCu (xC (.int 31)) (yf 0)) (yf 0))) (yh)))
def dsB:XS:=(ybF (yo (xOp (oLt) (yhG 5) (xC (.int 6)))) (yfA 5 (yM ybt (yc (xFz (ywW yxw (yf 3) (ygT (yf 6)) (ygT (xOp yhk (yf 6) (yf 4))))) (yc (yf 2) (yh))))) (yI))
def yEA:XS:=(yoX 5 (yO (yjF (xOp (oEq) (yj 15 "state" ycQ (yf 7) (yc (xC (.int 0)) (yh))) (xC (.str "ended"))) (xOp (oEq) (xCB (ybP) (yc (yj 15 "journal" ycm (yf 7) (yh)) (yh))) (xCB (ybP) (yc (yf 5) (yh)))))))
def mlR:XS:=(ym (ybF (xOr (yiV (yo (yM ycR (yc (yj 15 "boxes" ycP (yf 7) (yh)) (yc (yf 2) (yh)))))) (yiV (yo (yM ycR (yc (yj 15 "stamps" ycC (yf 7) (yh)) (yc (yf 8) (yh))))))) (yO (xC (.bl false))) (yI)) (ym (ycg (xOp (ycj) (yj 15 "journal" ycm (yf 7) (yh)) (xUn yzj (xC (.int 1)))) (yu 11)) (yoX 5 (ybF (xOr (yo (xOp (ypB) (xSl yCB (yf 11) (yjG) (ygT (xC (.int 4)))) (yiy (yc (xC (.int 0)) (yc (yf 6) (yc (yiy (yc (xC (.str "done")) (yh))) (yc (xFz (yfi (yh))) (yh)))))))) (yo (xOp (ypB) (xOp (yce) (yf 11) (xC (.int 4))) (xFz (yfE (xOp (yce) (xOp (ycj) (yf 5) (yf 6)) (xC (.int 1)))))))) (yO (xC (.bl false))) (yI)))))
def mlB:XS:=(ym (ybF (yiV (yo (yM yef (yc (yf 7) (yc (yf 2) (yc (yf 8) (yh))))))) (yO (xC (.bl false))) (yI)) (yoX 5 (ym (yrr (xOp (yce) (xOp (ycj) (yf 5) (yf 6)) (xC (.int 1))) (yzi 2 (ylf (yu 9) (ylf (yu 10) (yAm)))) fiB) mlR)))
def laU:XS:=(ym (ycg (yhL 15 ybZ (yc (xFz (yiz (yR) (yc (yf 2) (yh)))) (yc (xFz (yfi (yc (xFz (yfj (xIL (yf 5)) [] (xOp (yce) (yf 0) (xC (.int 0))))) (yh)))) (yh)))) (yu 7)) (ym (ycg (yhy (ysP yxy (xFz (yfi (yc (xC (.int 0)) (yh)))) (yf 1))) (yu 8)) (yoX 5 (ym (ymz (yqC (yc (xCB (ybP) (yc (yf 5) (yh))) (yh))) (yu 6) mlB) yEA))))
def yuJ:Fn:=ybA 12 (ym (ycg (xOp yhk (xC (.int 1)) (xOp oMod (yM yX (yc (yf 0) (yc (xC (.int 0)) (yh)))) (xC (.int 16)))) (yu 1)) (ym (ycg (yhy (yfj (yqC (yc (yf 1) (yh))) [0] bxE)) (yu 2)) (ym (ycg (xFz (yiz (yR) (yc (xFz (ywW yxw (yf 0) (ygT (xC (.int 2))) (ygT (xC (.int 50))))) (yh)))) (yu 3)) (ym (ycg (xOp yhk (xC (.int 1)) (xOp oMod (xOp oDiv (yM yX (yc (yf 0) (yc (xC (.int 1)) (yh)))) (xC (.int 7))) (xC (.int 7)))) (yu 4)) (ym (ymx (yfi (yh)) 5) (ym (ymz (yAV (yc (xC (.int 0)) (yc (xCB (ybP) (yc (yf 3) (yh))) (yc (yf 4) (yh))))) (yu 6) dsB) (ym (ybF (yo (xOp (oEq) (yhG 5) (xC (.int 0)))) (yfA 5 (yM ybt (yc (xFz (yfi (yc (xC (.int 5)) (yh)))) (yc (yf 2) (yh))))) (yI)) (yoX 5 laU))))))))
abbrev B64:Int:=18446744073709551616
inductive T where
 | let_ (r:Str) (n:Int)
 | put (s t:Str)
 | either (a b:List T)
 | try_ (a:List T) (nm r:Str) (b:List T)
 | throw (nm r:Str)
 | wait
def kd:T->Nat
 | .let_ ..=>1|.put ..=>4|.either ..=>6|.try_ ..=>7|.throw ..=>8|.wait=>9
def ydO (inner:Str):Str:=if inner = "" then "( )" else Str.join " " ["(",inner,")"]
mutual
noncomputable def yey:T->Str
 | .let_ r n=>Str.join " " ["let",r,(toString n:String)]
 | .put s t=>Str.join " " ["put",s,t]
 | .either a b=>Str.join " " ["either",ydO (Str.join " ; " (yN a)),"or",ydO (Str.join " ; " (yN b))]
 | .try_ a nm r b=>Str.join " " ["try",ydO (Str.join " ; " (yN a)),"on",nm,r,ydO (Str.join " ; " (yN b))]
 | .throw nm r=>Str.join " " ["throw",nm,r]
 | .wait=>"wait"
noncomputable def yN:List T->List Str
 | []=>[]
 | t::r=>yey t::yN r
end
mutual
noncomputable def ygn:T->Int
 | .either a b=>3+(ybU a).sum+(ybU b).sum
 | .try_ a _ _ b=>3+(ybU a).sum+(ybU b).sum
 | _=>1
noncomputable def ybU:List T->List Int
 | []=>[]
 | t::r=>ygn t::ybU r
end
mutual
noncomputable def ypC:T->Nat
 | .either a b=>1+max (yeq a) (yeq b)
 | .try_ a _ _ b=>1+max (yeq a) (yeq b)
 | _=>0
noncomputable def yeq:List T->Nat
 | []=>0
 | t::r=>max (ypC t) (yeq r)
end
mutual
noncomputable def wT:T->Nat
 | .let_ r n=>10+r.length+(Str.ofString (toString n)).length
 | .put s t=>10+s.length+t.length
 | .either a b=>40+wL a+wL b
 | .try_ a nm r b=>40+nm.length+r.length+wL a+wL b
 | .throw nm r=>10+nm.length+r.length
 | .wait=>10
noncomputable def wL:List T->Nat
 | []=>0
 | t::r=>5+wT t+wL r
end
def yia (c:Int):Int:=c*48271%2147483647
theorem yez (a b:Str):(a++b).length=a.length+b.length:=by
 show (a.cps++b.cps).size=_
 simp [Str.length]
theorem ydx (sep:Str):∀ l:List Str,(Str.join sep l).length<=(l.map (·.length)).sum+sep.length*l.length
 | []=>zero_le _
 | [x]=>by simp [Str.join]
 | x::y::r=>by
  have ih:=ydx sep (y::r)
  show (x++sep++Str.join sep (y::r)).length<=_
  rw [yez,yez]
  simp only [map_cons,List.sum_cons,length_cons] at *
  have e:sep.length*(r.length+1+1)=sep.length*(r.length+1)+sep.length:=by rw [Nat.mul_succ]
  omega
theorem yhm (x:Str):(ydO x).length<=x.length+10:=by
 unfold ydO
 split
 .exact Nat.le_trans (show ("( )":Str).length<=10 by rfl') (Nat.le_add_left _ _)
 .have:=ydx " " ["(",x,")"]
  have e1:(" ":Str).length=1:=by rfl'
  have e2:("(":Str).length=1:=by rfl'
  have e3:(")":Str).length=1:=by rfl'
  simp only [map_cons,map_nil,List.sum_cons,List.sum_nil,length_cons,length_nil,e1,e2,e3] at this
  omega
theorem l1:(" ":Str).length=1:=by rfl'
theorem l3:(" ; ":Str).length=3:=by rfl'
theorem lk (s:Str) (h:s.length<=6):s.length<=6:=h
theorem yEB:("let":Str).length=3:=by rfl'
theorem yEC:("put":Str).length=3:=by rfl'
theorem yuK:("either":Str).length=6:=by rfl'
theorem yED:("or":Str).length=2:=by rfl'
theorem yEE:("try":Str).length=3:=by rfl'
theorem yEF:("on":Str).length=2:=by rfl'
theorem yyz:("throw":Str).length=5:=by rfl'
theorem yBt:("wait":Str).length=4:=by rfl'
theorem yBu:("":Str).length=0:=by rfl'
mutual
theorem yrK:∀ t:T,(yey t).length<=wT t
 | .let_ r n=>by
  have:=ydx " " ["let",r,(toString n:String)]
  simp only [map_cons,map_nil,List.sum_cons,List.sum_nil,length_cons,length_nil,l1,yEB] at this
  show (Str.join " " ["let",r,(toString n:String)]).length<=10+r.length+(Str.ofString (toString n)).length
  omega
 | .put s t=>by
  have:=ydx " " ["put",s,t]
  simp only [map_cons,map_nil,List.sum_cons,List.sum_nil,length_cons,length_nil,l1,yEC] at this
  show (Str.join " " ["put",s,t]).length<=10+s.length+t.length
  omega
 | .either a b=>by
  have ha:=ydP a
  have hb:=ydP b
  have h1:=yhm (Str.join " ; " (yN a))
  have h2:=yhm (Str.join " ; " (yN b))
  have:=ydx " " ["either",ydO (Str.join " ; " (yN a)),"or",ydO (Str.join " ; " (yN b))]
  simp only [map_cons,map_nil,List.sum_cons,List.sum_nil,length_cons,length_nil,l1,yuK,yED] at this
  show (Str.join " " ["either",ydO (Str.join " ; " (yN a)),"or",ydO (Str.join " ; " (yN b))]).length<=40+wL a+wL b
  omega
 | .try_ a nm r b=>by
  have ha:=ydP a
  have hb:=ydP b
  have h1:=yhm (Str.join " ; " (yN a))
  have h2:=yhm (Str.join " ; " (yN b))
  have:=ydx " " ["try",ydO (Str.join " ; " (yN a)),"on",nm,r,ydO (Str.join " ; " (yN b))]
  simp only [map_cons,map_nil,List.sum_cons,List.sum_nil,length_cons,length_nil,l1,yEE,yEF] at this
  show (Str.join " " ["try",ydO (Str.join " ; " (yN a)),"on",nm,r,ydO (Str.join " ; " (yN b))]).length<=40+nm.length+r.length+wL a+wL b
  omega
 | .throw nm r=>by
  have:=ydx " " ["throw",nm,r]
  simp only [map_cons,map_nil,List.sum_cons,List.sum_nil,length_cons,length_nil,l1,yyz] at this
  show (Str.join " " ["throw",nm,r]).length<=10+nm.length+r.length
  omega
 | .wait=>by show ("wait":Str).length<=10;rw [yBt];omega
theorem yjg:∀ ts:List T,((yN ts).map (·.length)).sum+5*ts.length<=wL ts/\(yN ts).length=ts.length
 | []=>⟨Nat.le_refl _,rfl⟩
 | t::r=>by
  have h1:=yrK t
  have h2:=yjg r
  refine ⟨?_,?_⟩
  .show ((yey t).length::(yN r).map (·.length)).sum+5*(t::r).length<=5+wT t+wL r
   simp only [List.sum_cons,length_cons]
   omega
  .show (yey t::yN r).length=_
   simp only [length_cons]
   omega
theorem ydP:∀ ts:List T,(Str.join " ; " (yN ts)).length<=wL ts:=fun ts=>by
 have h:=yjg ts
 have j:=ydx " ; " (yN ts)
 rw [l3,h.2] at j
 omega
end
theorem yrL:∀ {ts:List T}{t:T},t∈ts->ypC t<=yeq ts
 | u::r,t,h=>by
  show ypC t<=max (ypC u) (yeq r)
  rcases mem_cons.mp h with rfl|h
  .omega
  .have:=yrL h
   omega
theorem yBv:∀ {ts:List T}{t:T},t∈ts->wT t<=wL ts
 | u::r,t,h=>by
  show wT t<=5+wT u+wL r
  rcases mem_cons.mp h with rfl|h
  .omega
  .have:=yBv h
   omega
theorem w_count:∀ ts:List T,5*ts.length<=wL ts
 | []=>Nat.le_refl _
 | t::r=>by
  have:=w_count r
  show 5*(r.length+1)<=5+wT t+wL r
  omega
theorem yfK (a b c:Str):a++b++c=a++(b++c):=by
 show (⟨(a.cps++b.cps)++c.cps⟩:Str)=⟨a.cps++(b.cps++c.cps)⟩
 rw [Array.append_assoc]
theorem yrM:B64<10 ^ 20:=by decide
def plain:T->Prop
 | .either ..=>False
 | .try_ ..=>False
 | _=>True
theorem yuL (sep x:Str) (r:List Str) (h:1<=x.length):1<=(Str.join sep (x::r)).length:=by
 cases r with
 | nil=>exact h
 | cons y r =>
  show 1<=(x++sep++Str.join sep (y::r)).length
  rw [yez,yez];omega
mutual
noncomputable def ybf:T->PV
 | .let_ r n=>.ins 1 ["slot","number"] [.str r,.int n]
 | .put s t=>.ins 4 ["place","slot"] [.str s,.str t]
 | .either a b=>.ins 6 ["parts","others"] [.lst (ycn a),.lst (ycn b)]
 | .try_ a nm r b=>.ins 7 ["parts","name","slot","others"] [.lst (ycn a),.str nm,.str r,.lst (ycn b)]
 | .throw nm r=>.ins 8 ["name","slot"] [.str nm,.str r]
 | .wait=>.ins 9 [] []
noncomputable def ycn:List T->List PV
 | []=>[]
 | t::r=>ybf t::ycn r
end
theorem ygo:∀ ts:List T,ycn ts=ts.map ybf
 | []=>rfl
 | t::r=>by show ybf t::ycn r=_;rw [ygo r];rfl
section
variable {h:AH}
theorem yBw {sep:Str}{xs:List PV}{ts:List Str}(e:strsOf xs=some ts) (hs:sep.length<=16) (hl:(ts.map (·.length)).sum+ts.length<=1048576):ypb (.str sep) [.lst xs] h=some (.str (Str.join sep ts),h):=by
 unfold ypb ybw
 simp only [e]
 exact if_pos ⟨hs,hl⟩
theorem j1:(" ":Str).length<=16:=by rfl'
theorem ymR {i:Nat}{ρ:PSt}{xs:List PV}(e:yf i ρ h=some (.lst xs,h)):xIL (yf i) ρ h=some (xs,h):=yGj e
theorem ypn (t:T):∃ ns xs,ybf t=.ins (kd t) ns xs/\("shown":Str)∉ns/\("long":Str)∉ns:=by
 cases t
 all_goals exact ⟨_,_,rfl,by rfl',by rfl'⟩
theorem yrN {m:Str}{f:Nat->Fn}(t:T) (hm:m = "shown"\/m = "long"):yiF m f (ybf t) h=f (kd t) [ybf t] h:=by
 obtain ⟨ns,xs,e,h1,h2⟩:=ypn t
 rw [e]
 rcases hm with rfl|rfl
 .exact ydt h1
 .exact ydt h2
def yoj (n:Nat):Prop:=∀ (h:AH) (t:T),3*ypC t+1<=n->wT t<=100000->yfJ n (kd t) [ybf t] h=some (.int (ygn t),h)
theorem ycS {n:Nat}(G:yoj n) {ts:List T}(hd:3*yeq ts+1<=n) (hw:wL ts<=100000):ybH (n+1) [.lst (ycn ts)] h=some (.int (ybU ts).sum,h):=by
 unfold ybH
 rw [yp]
 show ob (yO _ [.val (.lst (ycn ts))] h) fnK=_
 have wc:=w_count ts
 symm
 rw [ymR rfl,ybK,ygo]
 rw [if_pos (by rw [length_map];omega)]
 have e:yhA (yiE "long" (yfJ n) (yf 0)) (yfb [] [PVar.val (PV.lst (ts.map ybf))]) (ts.map ybf) h=some ((ybU ts).map PV.int,h):=by
  have:∀ us:List T,(∀ t∈us,t∈ts)->yhA (yiE "long" (yfJ n) (yf 0)) (yfb [] [PVar.val (PV.lst (ts.map ybf))]) (us.map ybf) h=some ((ybU us).map PV.int,h):=by
   intro us
   induction us with
   | nil=>intro _;rfl
   | cons t r ih =>
    intro hm
    have ht:=hm t mem_cons_self
    have e1:yiE "long" (yfJ n) (yf 0) (yfb [] [PVar.val (PV.lst (ts.map ybf))] (ybf t)) h=some (.int (ygn t),h):=by
     show yiE "long" (yfJ n) (yf 0) [.val (ybf t)] h=_
     rw [yvR,yvQ,ybK,yrN t (.inr rfl)]
     have:=yrL ht
     have:=yBv ht
     exact G h t (by omega) (by omega)
    show ob (yiE "long" (yfJ n) (yf 0) (yfb [] [PVar.val (PV.lst (ts.map ybf))] (ybf t)) h) _=_
    rw [e1,ybK,ih fun u hu=>hm u (mem_cons_of_mem _ hu)]
    rfl
  exact this ts fun _ h=>h
 rw [e]
 symm
 show ob (yAw [.lst ((ybU ts).map PV.int)] h) _=_
 unfold yAw ybw
 simp only [yiX]
 rfl
theorem ymS {n:Nat}(G:yoj n) {x y:List T}(hd:3*ypC (.either x y)+1<=n+3) (hw:wT (.either x y)<=100000):ydc (n+2) [ybf (.either x y)] h=some (.int (ygn (.either x y)),h):=by
 have hd:3*(1+max (yeq x) (yeq y))+1<=n+3:=hd
 have hw:40+wL x+wL y<=100000:=hw
 unfold ydc
 rw [yp]
 show ob (yO _ [.val (.ins 6 ["parts","others"] [.lst (ycn x),.lst (ycn y)])] h) fnK=_
 symm
 rw [ycS G (ts:=x) (by omega) (by omega)]
 symm
 rw [ycS G (ts:=y) (by omega) (by omega)]
 symm
 rfl
theorem yuM {n:Nat}(G:yoj n) {nm r:Str}{x y:List T}(hd:3*ypC (.try_ x nm r y)+1<=n+3) (hw:wT (.try_ x nm r y)<=100000):yeU (n+2) [ybf (.try_ x nm r y)] h=some (.int (ygn (.try_ x nm r y)),h):=by
 have hd:3*(1+max (yeq x) (yeq y))+1<=n+3:=hd
 have hw:40+nm.length+r.length+wL x+wL y<=100000:=hw
 unfold yeU
 rw [yp]
 show ob (yO _ [.val (.ins 7 ["parts","name","slot","others"] [.lst (ycn x),.str nm,.str r,.lst (ycn y)])] h) fnK=_
 symm
 rw [ycS G (ts:=x) (by omega) (by omega)]
 symm
 rw [ycS G (ts:=y) (by omega) (by omega)]
 symm
 rfl
theorem ymT:∀ n:Nat,yoj n
 | 0=>fun h t hd=>by omega
 | n+1=>fun h t hd hw=>by
  cases t with
  | let_ r m=>rfl
  | put r s=>rfl
  | throw nm r=>rfl
  | wait=>rfl
  | either x y =>
   have h1:3*(1+max (yeq x) (yeq y))+1<=n+1:=hd
   obtain ⟨m,rfl⟩:∃ m,n=m+2:=⟨n-2,by omega⟩
   exact ymS (ymT m) hd hw
  | try_ x nm r y =>
   have h1:3*(1+max (yeq x) (yeq y))+1<=n+1:=hd
   obtain ⟨m,rfl⟩:∃ m,n=m+2:=⟨n-2,by omega⟩
   exact yuM (ymT m) hd hw
end
def ypD (m:Nat):List Nat:=(Nat.toDigits 10 m).map Char.toNat
theorem yBx:∀ d:Nat,d<10->(Nat.digitChar d).toNat=48+d:=by
 intro d h
 have:d=0\/d=1\/d=2\/d=3\/d=4\/d=5\/d=6\/d=7\/d=8\/d=9:=by omega
 rcases this with rfl|rfl|rfl|rfl|rfl|rfl|rfl|rfl|rfl|rfl
 all_goals decide
theorem yuN (cs:List Nat) (c:Nat):ywP (cs++[c])=ywP cs*10+((c:Int)-48):=by
 unfold ywP
 rw [List.foldl_append];rfl
theorem yrO:∀ m:Nat,ypD m≠[]/\(∀ c∈ypD m,48<=c/\c<=57)/\ywP (ypD m)=m/\(m≠0->(ypD m)[0]?≠some 48)/\(m=0->ypD m=[48]):=by
 intro m
 induction m using Nat.strongRecOn with
 | ind m ih =>
  unfold ypD at *
  by_cases h:m<10
  .rw [Nat.toDigits_of_lt_base h,List.map_singleton,yBx m h]
   refine ⟨by simp,fun c hc=>?_,?_,fun hm e=>?_,fun e=>by subst e;rfl⟩
   .rw [List.mem_singleton.mp hc];omega
   .show (0:Int)*10+(((48+m:Nat):Int)-48)=m
    omega
   .have:48+m=48:=by simpa using e
    omega
  .rw [Nat.toDigits_of_base_le (by decide) (by omega),map_append,List.map_singleton,yBx (m%10) (by omega)]
   obtain ⟨h1,h2,h3,h4,h5⟩:=ih (m/10) (by omega)
   refine ⟨by simp,fun c hc=>?_,?_,fun _ e=>?_,fun e=>by omega⟩
   .rcases List.mem_append.mp hc with hc|hc
    .exact h2 c hc
    .rw [List.mem_singleton.mp hc];omega
   .rw [yuN,h3];omega
   .refine h4 (by omega) ?_
    generalize (Nat.toDigits 10 (m/10)).map Char.toNat=l at *
    cases l with
    | nil=>exact absurd rfl h1
    | cons a l=>simpa using e
theorem yrP {n:Int}(h:0<=n):(Str.ofString (toString n)).cps.toList=ypD n.toNat:=by
 obtain ⟨m,rfl⟩:∃ m:Nat,n=m:=⟨n.toNat,by omega⟩
 rw [Str.ofString_eq_toList]
 show (toString m).toList.map Char.toNat=_
 rw [Int.toNat_natCast,show (toString m)=m.repr from rfl,Nat.toList_repr];rfl
def yeA (r:Str):Prop:=∃ c:Nat,97<=c/\c<=104/\r=⟨#[c]⟩
def yjh (z:Str):Prop:=1<=z.length/\z.length<=8/\∀ c∈z.cps.toList,97<=c/\c<=122
mutual
noncomputable def gdT:T->Prop
 | .let_ r n=>yeA r/\0<=n/\n<B64
 | .put r s=>yeA r/\yeA s
 | .either a b=>gdL a/\gdL b
 | .try_ a nm r b=>yjh nm/\yeA r/\gdL a/\gdL b
 | .throw nm r=>yjh nm/\yeA r
 | .wait=>True
noncomputable def gdL:List T->Prop
 | []=>True
 | t::r=>gdT t/\gdL r
end
def wsd (l:List Str):List Str:=("(":Str)::(l++[(")":Str)])
mutual
noncomputable def wdT:T->List Str
 | .let_ r n=>["let",r,(toString n:String)]
 | .put s t=>["put",s,t]
 | .either a b=>("either":Str)::(wsd (wdL a)++("or":Str)::wsd (wdL b))
 | .try_ a nm r b=>("try":Str)::(wsd (wdL a)++("on":Str)::nm::r::wsd (wdL b))
 | .throw nm r=>["throw",nm,r]
 | .wait=>["wait"]
noncomputable def wdL:List T->List Str
 | []=>[]
 | t::r=>wdT t++wdR r
noncomputable def wdR:List T->List Str
 | []=>[]
 | t::r=>";"::(wdT t++wdR r)
end
theorem yyA:∀ {t:T},gdT t->wdT t≠[]
 | .let_ ..,_=>fun z=>by cases z
 | .put ..,_=>fun z=>by cases z
 | .either ..,_=>fun z=>by cases z
 | .try_ ..,_=>fun z=>by cases z
 | .throw ..,_=>fun z=>by cases z
 | .wait,_=>fun z=>by cases z
theorem ycF {sep:Str}:∀ {a b:List Str},a≠[]->b≠[]->Str.join sep (a++b)=Str.join sep a++sep++Str.join sep b
 | [],_,h,_=>absurd rfl h
 | [x],[],_,h=>absurd rfl h
 | [x],y::b,_,_=>rfl
 | x::y::a,b,_,hb=>by
  have ih:=ycF (sep:=sep) (a:=y::a) (b:=b) (fun z=>by cases z) hb
  show x++sep++Str.join sep ((y::a)++b)=x++sep++Str.join sep (y::a)++sep++Str.join sep b
  rw [ih];simp only [yfK]
theorem ylx {sep x:Str}{b:List Str}(h:b≠[]):Str.join sep (x::b)=x++sep++Str.join sep b:=ycF (a:=[x]) (fun z=>by cases z) h
theorem yBy:(" ; ":Str) = " "++";"++" ":=by rfl'
theorem yBz:("( )":Str) = "("++" "++")":=by rfl'
def fr (w:Str):Prop:=32∉w.cps.toList/\w.length≠0/\w.length<=20
theorem ydH {r:Str}(h:yeA r):fr r:=by
 obtain ⟨c,h1,h2,rfl⟩:=h
 refine ⟨fun z=>?_,(fun z:1=0=>by cases z),(show 1<=20 by decide)⟩
 have:32=c:=by simpa using z
 omega
theorem ykg {r:Str}(h:yjh r):fr r:=⟨fun z=>by have:=h.2.2 _ z;omega,by have:=h.1;omega,by have:=h.2.1;omega⟩
theorem yrQ {n:Int}(h:0<=n) (h2:n<B64):fr (toString n:String):=by
 have e:=yrP h
 obtain ⟨h3,h4,_⟩:=yrO n.toNat
 refine ⟨fun z=>?_,fun z=>h3 ?_,str_len h (by decide) (Int.lt_trans h2 yrM)⟩
 .rw [e] at z
  have:=h4 _ z
  omega
 .rw [<- e]
  have:(Str.ofString (toString n)).cps.size=0:=z
  exact List.eq_nil_of_length_eq_zero (by simpa using this)
theorem yrR (s:Str) (h:decide (32∉s.cps.toList/\s.length≠0/\s.length<=20)=true):fr s:=(show 32∉s.cps.toList/\s.length≠0/\s.length<=20 from of_decide_eq_true h)
def frs (l:List Str):Prop:=∀ w∈l,fr w
theorem yfp:frs []:=fun _ h=>by cases h
theorem ybi {w:Str}{l:List Str}(h:fr w) (k:frs l):frs (w::l):=fun x hx=>(mem_cons.mp hx).elim (fun e=>e ▸ h) (k x)
theorem yib {a b:List Str}(h:frs a) (k:frs b):frs (a++b):=fun x hx=>(List.mem_append.mp hx).elim (h x) (k x)
theorem yEG:fr "let":=yrR _ (by rfl')
theorem yEH:fr "put":=yrR _ (by rfl')
theorem yuO:fr "either":=yrR _ (by rfl')
theorem yGm:fr "or":=yrR _ (by rfl')
theorem yEI:fr "try":=yrR _ (by rfl')
theorem yGn:fr "on":=yrR _ (by rfl')
theorem yyB:fr "throw":=yrR _ (by rfl')
theorem yBA:fr "wait":=yrR _ (by rfl')
theorem yGo:fr "(":=yrR _ (by rfl')
theorem yGp:fr ")":=yrR _ (by rfl')
theorem yGq:fr ";":=yrR _ (by rfl')
theorem yok {l:List Str}(h:frs l):frs (wsd l):=ybi yGo (yib h (ybi yGp yfp))
mutual
theorem yBB:∀ {t:T},gdT t->frs (wdT t)
 | .let_ r n,g=>ybi yEG (ybi (ydH g.1) (ybi (yrQ g.2.1 g.2.2) yfp))
 | .put r s,g=>ybi yEH (ybi (ydH g.1) (ybi (ydH g.2) yfp))
 | .either a b,g=>ybi yuO (yib (yok (yiI g.1)) (ybi yGm (yok (yiI g.2))))
 | .try_ a nm r b,g=>ybi yEI (yib (yok (yiI g.2.2.1)) (ybi yGn (ybi (ykg g.1) (ybi (ydH g.2.1) (yok (yiI g.2.2.2))))))
 | .throw nm r,g=>ybi yyB (ybi (ykg g.1) (ybi (ydH g.2) yfp))
 | .wait,_=>ybi yBA yfp
theorem yiI:∀ {ts:List T},gdL ts->frs (wdL ts)
 | [],_=>yfp
 | _::_,g=>yib (yBB g.1) (yBC g.2)
theorem yBC:∀ {ts:List T},gdL ts->frs (wdR ts)
 | [],_=>yfp
 | _::_,g=>ybi yGq (yib (yBB g.1) (yBC g.2))
end
theorem yrS {sep:Str}{l:List Str}(h:frs l) (hl:l≠[]):Str.join sep l≠"":=by
 cases l with
 | nil=>exact absurd rfl hl
 | cons x r =>
  intro e
  have h1:=(h x mem_cons_self).2.1
  have:=yuL sep x r (by omega)
  rw [e,yBu] at this
  omega
theorem yuP (l:List Str):wsd l≠[]:=fun z=>by cases z
theorem yfL {l:List Str}(h:frs l):ydO (Str.join " " l)=Str.join " " (wsd l):=by
 unfold ydO
 by_cases e:l=[]
 .subst e
  rw [if_pos (by rfl')]
  exact yBz
 .rw [if_neg (yrS h e)]
  show "("++" "++(Str.join " " l++" "++")")=Str.join " " (("(":Str)::(l++[(")":Str)]))
  rw [ylx (by simp),ycF e (fun z=>by cases z)]
  rfl
theorem yol:∀ (t:T) (r:List T),(∀ u∈t::r,yey u=Str.join " " (wdT u))->gdL (t::r)->Str.join " ; " (yN (t::r))=Str.join " " (wdT t++wdR r)
 | t,[],h,_=>by
  show yey t=Str.join " " (wdT t++[])
  rw [append_nil];exact h t mem_cons_self
 | t,u::r,h,g=>by
  have ih:=yol u r (fun v hv=>h v (mem_cons_of_mem _ hv)) g.2
  show yey t++" ; "++Str.join " ; " (yN (u::r))=Str.join " " (wdT t++(";":Str)::(wdT u++wdR r))
  have ne:wdT u++wdR r≠[]:=fun z=>yyA g.2.1 (List.append_eq_nil_iff.mp z).1
  rw [ih,h t mem_cons_self,ycF (yyA g.1) (fun z=>by cases z),ylx ne,yBy]
  simp only [yfK]
mutual
theorem yuQ:∀ (t:T),gdT t->yey t=Str.join " " (wdT t)
 | .let_ ..,_=>rfl
 | .put ..,_=>rfl
 | .throw ..,_=>rfl
 | .wait,_=>rfl
 | .either a b,g=>by
  show Str.join " " ["either",ydO (Str.join " ; " (yN a)),"or",ydO (Str.join " ; " (yN b))]=Str.join " " ((["either"]:List Str)++(wsd (wdL a)++((["or"]:List Str)++wsd (wdL b))))
  rw [ydQ a g.1,ydQ b g.2,yfL (yiI g.1),yfL (yiI g.2),ycF (a:=["either"]) (fun z=>by cases z) (fun z=>by cases z),ycF (yuP _) (fun z=>by cases z),ycF (a:=["or"]) (fun z=>by cases z) (yuP _)]
  simp only [Str.join,yfK]
 | .try_ a nm r b,g=>by
  show Str.join " " ["try",ydO (Str.join " ; " (yN a)),"on",nm,r,ydO (Str.join " ; " (yN b))]=Str.join " " ((["try"]:List Str)++(wsd (wdL a)++((["on",nm,r]:List Str)++wsd (wdL b))))
  rw [ydQ a g.2.2.1,ydQ b g.2.2.2,yfL (yiI g.2.2.1),yfL (yiI g.2.2.2),ycF (a:=["try"]) (fun z=>by cases z) (fun z=>by cases z),ycF (yuP _) (fun z=>by cases z),ycF (a:=["on",nm,r]) (fun z=>by cases z) (yuP _)]
  simp only [Str.join,yfK]
theorem ydQ:∀ (ts:List T),gdL ts->Str.join " ; " (yN ts)=Str.join " " (wdL ts)
 | [],_=>rfl
 | t::r,g=>yol t r (yly (t::r) g) g
theorem yly:∀ (ts:List T),gdL ts->∀ u∈ts,yey u=Str.join " " (wdT u)
 | [],_,u,h=>by cases h
 | t::r,g,u,h=>by
  rcases mem_cons.mp h with e|h
  .rw [e];exact yuQ t g.1
  .exact yly r g.2 u h
end
section
variable {h:AH}
theorem yEJ {z:Str}{i:Nat}{ρ:PSt}(e:yf i ρ h=some (.str z,h)) (hl:z.length<=100000):xIS (yf i) ρ h=some (z.cps.toList.map sgn,h):=by
 unfold xIS
 rw [e,ybK]
 exact if_pos hl
theorem yji {x y:Str}(hl:x.length<=1000):ycO [.str x,.str y] h=some (.bl (x.cps.toList.all fun c=>decide (c∈y.cps.toList)),h):=by
 unfold ycO
 rw [yp]
 show ob (yO _ [.val (.str x),.val (.str y)] h) fnK=_
 have hz:x.cps.toList.length=x.length:=by simp [Str.length]
 symm
 rw [yEJ rfl (by omega),ybK]
 rw [if_pos (by rw [length_map];omega)]
 rw [ygk (f:=sgn) (g:=fun c=>.bl (decide (c∈y.cps.toList))) fun c _=>rfl]
 symm
 show ob (yvP [.lst (x.cps.toList.map fun c=>PV.bl (decide (c∈y.cps.toList)))] h) _=_
 unfold yvP ybw
 rw [show (x.cps.toList.map fun c=>PV.bl (decide (c∈y.cps.toList)))=(x.cps.toList.map fun c=>decide (c∈y.cps.toList)).map PV.bl by rw [map_map];rfl]
 simp only [ylg,List.all_map]
 rfl
theorem yrT {c:Nat}(h1:97<=c) (h2:c<=104):c∈("abcdefgh":Str).cps.toList:=by
 rw [show ("abcdefgh":Str).cps.toList=[97,98,99,100,101,102,103,104] by rfl']
 have:c=97\/c=98\/c=99\/c=100\/c=101\/c=102\/c=103\/c=104:=by omega
 rcases this with rfl|rfl|rfl|rfl|rfl|rfl|rfl|rfl
 all_goals decide
theorem ymU {c:Nat}(h1:97<=c) (h2:c<=122):c∈("abcdefghijklmnopqrstuvwxyz":Str).cps.toList:=by
 rw [show ("abcdefghijklmnopqrstuvwxyz":Str).cps.toList=(List.range 26).map (· + 97) by rfl']
 exact List.mem_map.mpr ⟨c-97,List.mem_range.mpr (by omega),by omega⟩
theorem yuR {c:Nat}(h1:48<=c) (h2:c<=57):c∈("0123456789":Str).cps.toList:=by
 rw [show ("0123456789":Str).cps.toList=(List.range 10).map (· + 48) by rfl']
 exact List.mem_map.mpr ⟨c-48,List.mem_range.mpr (by omega),by omega⟩
theorem ypo {r:Str}(g:yeA r):yfH [.str r] h=some (.bl true,h):=by
 obtain ⟨c,h1,h2,rfl⟩:=g
 unfold yfH
 rw [yp]
 show ob (yO _ [.val (.str ⟨#[c]⟩)] h) fnK=_
 symm
 rw [show (⟨#[c]⟩:Str).length=1 from rfl]
 symm
 simp only [yrT h1 h2]
 rfl
theorem ypp {r:Str}(g:yjh r):yfI [.str r] h=some (.bl true,h):=by
 obtain ⟨h1,h2,h3⟩:=g
 unfold yfI
 rw [yp]
 show ob (yO _ [.val (.str r)] h) fnK=_
 symm
 rw [yji (by omega)]
 rw [List.all_eq_true.mpr fun c hc=>decide_eq_true (ymU (h3 c hc).1 (h3 c hc).2)]
 simp only [show (1:Int)<=r.length by omega,show (r.length:Int)<=8 by omega]
 symm
 rw [if_pos (by omega)]
theorem ylz {n:Int}(h0:0<=n) (h1:n<B64):yee [.str (toString n:String)] h=some (.int n,h):=by
 obtain ⟨d1,d2,d3,d4,d5⟩:=yrO n.toNat
 have hl:=str_len h0 (k:=20) (by decide) (Int.lt_trans h1 yrM)
 have hn:(Str.ofString (toString n)).length≠0:=(yrQ h0 h1).2.1
 have e:=yrP h0
 have hz:n=0->Str.ofString (toString n) = "0":=fun z=>by subst z;rfl'
 have hat:atI (Str.ofString (toString n)).cps.toList 0=some ((ypD n.toNat).headD 0):=by
  rw [e]
  cases q:ypD n.toNat with
  | nil=>exact absurd q d1
  | cons a l=>exact yEf
 have hh:(ypD n.toNat).headD 0=48->n=0:=fun q=>Classical.byContradiction fun z=>d4 (by omega) (by
  cases q2:ypD n.toNat with
  | nil=>exact absurd q2 d1
  | cons a l=>rw [q2] at q;simpa using q)
 generalize hs:Str.ofString (toString n)=z at *
 unfold yee
 rw [yp]
 show ob (ym _ _ [.val (.str z),.no] h) fnK=_
 have ml:z.cps.toList.all (fun c=>decide (c∈("0123456789":Str).cps.toList))=true:=List.all_eq_true.mpr fun c hc=>decide_eq_true (yuR (d2 c (e ▸ hc)).1 (d2 c (e ▸ hc)).2)
 symm
 rw [if_pos (by omega:z.length<=100000)]
 simp only [show (1:Int)<=z.length by omega,show (z.length:Int)<=20 by omega]
 symm
 rw [yji (by omega),ml]
 symm
 rw [hat]
 symm
 have hb:∀ h:AH,yqJ [.str z] h=some (.int n,h):=fun h=>by
  unfold yqJ
  show (if _ then _ else _)=_
  rw [if_pos ⟨by rw [e];exact d1,by rw [e];exact d2,by omega⟩,e,d3,Int.toNat_of_nonneg h0]
 rw [if_neg (not_not_intro trivial),if_pos (by omega)]
 simp only [sgn,hb]
 symm
 rw [if_pos h1]
 split
 .rename_i q
  have q:(ypD n.toNat).headD 0=48:=by
   have q2:=congrArg (fun s:Str=>s.cps.toList) q
   rw [show ("0":Str).cps.toList=[48] by rfl'] at q2
   simpa using q2
  rw [if_neg (not_not_intro (hz (hh q)))]
 .rfl
end
theorem ykh:(("let":Str) = "if")=False:=eq_false (by rfl')
theorem yeB:(("let":Str) = "either")=False:=eq_false (by rfl')
theorem yic:(("let":Str) = "try")=False:=eq_false (by rfl')
theorem ylA:(("put":Str) = "let")=False:=eq_false (by rfl')
theorem yjj:(("put":Str) = "take")=False:=eq_false (by rfl')
theorem yki:(("put":Str) = "if")=False:=eq_false (by rfl')
theorem yeC:(("put":Str) = "either")=False:=eq_false (by rfl')
theorem yid:(("put":Str) = "try")=False:=eq_false (by rfl')
theorem yie:(("throw":Str) = "let")=False:=eq_false (by rfl')
theorem ygJ:(("throw":Str) = "take")=False:=eq_false (by rfl')
theorem yif:(("throw":Str) = "put")=False:=eq_false (by rfl')
theorem yeD:(("throw":Str) = "wait")=False:=eq_false (by rfl')
theorem ygp:(("throw":Str) = "if")=False:=eq_false (by rfl')
theorem ydI:(("throw":Str) = "either")=False:=eq_false (by rfl')
theorem yfq:(("throw":Str) = "try")=False:=eq_false (by rfl')
theorem yjk:(("wait":Str) = "let")=False:=eq_false (by rfl')
theorem yig:(("wait":Str) = "take")=False:=eq_false (by rfl')
theorem yjl:(("wait":Str) = "put")=False:=eq_false (by rfl')
theorem ygK:(("wait":Str) = "throw")=False:=eq_false (by rfl')
theorem yih:(("wait":Str) = "if")=False:=eq_false (by rfl')
theorem yeg:(("wait":Str) = "either")=False:=eq_false (by rfl')
theorem ygq:(("wait":Str) = "try")=False:=eq_false (by rfl')
theorem yfr:(("either":Str) = "if")=False:=eq_false (by rfl')
theorem ykj:(("try":Str) = "if")=False:=eq_false (by rfl')
theorem yeE:(("try":Str) = "either")=False:=eq_false (by rfl')
local macro_rules | `(tactic| walk_at "qq")=>`(tactic| simp_all? only [$(sl_ "ykh yeB yic ylA yjj yki yeC yid yie ygJ yif yeD ygp ydI yfq yjk yig yjl ygK yih yeg ygq yfr ykj yeE"),*,↓reduceIte])
local macro_rules | `(tactic| walk_at "qt")=>`(tactic| simp_all? only [$(sl_ "yEf yFG yFH ykh yeB yic ylA yjj yki yeC yid yie ygJ yif yeD ygp ydI yfq yjk yig yjl ygK yih yeg ygq yfr ykj yeE"),*,↓reduceIte])
section
def rdr (ws:List Str) (k:Nat):Nd:=.ins 10 ["words","at"] [.lst (ws.map .str),.int k]
def hR (h:AH) (o:Nat) (ws:List Str) (k:Nat):AH:=h.set o (rdr ws k)
variable {h:AH}{o:Nat}{ws:List Str}{k:Nat}
theorem yuS (ho:o<h.length):(hR h o ws k)[o]?=some (.ins 10 ["words","at"] [.lst (ws.map .str),.int k]):=getElem?_set_self ho
theorem yBD {j:Nat}:(hR h o ws k).set o (.ins 10 ["words","at"] [.lst (ws.map .str),.int j])=hR h o ws j:=by unfold hR rdr;rw [List.set_set]
theorem yom (ho:o<h.length):ydU [10] "words" (.loc o) (hR h o ws k)=some (.lst (ws.map .str),hR h o ws k):=by
 unfold ydU yeo
 simp only [yuS ho]
 rw [if_pos (by rfl'),show idxOf ("words":Str) ["words","at"]=0 by rfl']
 rfl
theorem yyC (ho:o<h.length):ydU [10,12] "at" (.loc o) (hR h o ws k)=some (.int k,hR h o ws k):=by
 unfold ydU yeo
 simp only [yuS ho]
 rw [if_pos (by rfl'),show idxOf ("at":Str) ["words","at"]=1 by rfl']
 rfl
theorem mR {m:Str}{f:Fn}{ys:List PV}{a:XE}{aa:XA}{ρ:PSt}{h0 h2:AH}(ho:o<h.length) (hm:m∉(["words","at"]:List Str)) (ea:a ρ h0=some (.loc o,hR h o ws k)) (eb:aa ρ (hR h o ws k)=some (ys,h2)):yj 10 m f a aa ρ h0=f (.loc o::ys) h2:=by
 unfold yj yeo
 rw [ea,ybK]
 simp only [yuS ho]
 rw [if_pos ⟨trivial,hm⟩,eb];rfl
theorem pR (ho:o<h.length) {j:Nat}{eo ev:XE}{ρ:PSt}(e1:ev ρ (hR h o ws k)=some (.int (j:Int),hR h o ws k)) (e2:eo ρ (hR h o ws k)=some (.loc o,hR h o ws k)):ydh [10,12] "at" eo ev ρ (hR h o ws k)=some (.nx ρ,hR h o ws j):=by
 unfold ydh
 rw [e1,ybK,e2,ybK]
 simp only [yuS ho]
 rw [if_pos ⟨by decide,by decide⟩]
 show some (Out.nx ρ,(hR h o ws k).set o (.ins 10 (putN "at" (.int j) ["words","at"] [.lst (ws.map .str),.int k]).1 (putN "at" (.int j) ["words","at"] [.lst (ws.map .str),.int k]).2))=_
 rw [show putN "at" (.int j) ["words","at"] [.lst (ws.map .str),.int k]=(([("words":Str),"at"]:List Str),[PV.lst (ws.map .str),.int j]) from rfl,yBD]
theorem ypq {w:Str}{r:List Str}(e:ws.drop k=w::r):ws[k]?=some w/\k<ws.length/\ws.drop (k+1)=r:=by
 have hk:k<ws.length:=Classical.byContradiction fun z=>by rw [List.drop_of_length_le (by omega)] at e;cases e
 rw [List.drop_eq_getElem_cons hk] at e
 cases e
 exact ⟨List.getElem?_eq_getElem hk,hk,rfl⟩
theorem yEK (e:ws.drop k=[]):ws.length<=k:=List.drop_eq_nil_iff.mp e
theorem yeh {w:Str}{r:List Str}(ho:o<h.length) (hl:ws.length<=100000) (e:ws.drop k=w::r):yQ [.loc o] (hR h o ws k)=some (.str w,hR h o ws k):=by
 obtain ⟨e1,e2,_⟩:=ypq e
 unfold yQ
 rw [yp]
 show ob (ym _ _ [.val (.loc o)] (hR h o ws k)) fnK=_
 have e3:atI (ws.map PV.str) (k:Int)=some (.str w):=ycw (by rw [getElem?_map,e1];rfl)
 simp_all? only [yom ho,yyC ho,length_map,Int.ofNat_lt,e2,e3,↓reduceIte]
theorem ykk (ho:o<h.length) (hl:ws.length<=100000) (e:ws.drop k=[]):yQ [.loc o] (hR h o ws k)=some (.non,hR h o ws k):=by
 have e2:=yEK e
 unfold yQ
 rw [yp]
 show ob (ym _ _ [.val (.loc o)] (hR h o ws k)) fnK=_
 simp_all? only [yom ho,yyC ho,length_map,Int.ofNat_lt,show ¬ k<ws.length by omega,↓reduceIte]
theorem yei {w:Str}{r:List Str}(ho:o<h.length) (hl:ws.length<=100000) (e:ws.drop k=w::r):ybj [.loc o] (hR h o ws k)=some (.str w,hR h o ws (k+1)):=by
 unfold ybj
 rw [yp]
 show ob (ym _ _ [.val (.loc o),.no] (hR h o ws k)) fnK=_
 symm
 rw [mR ho (by rfl') rfl rfl,yeh ho hl e]
 symm
 rw [if_neg (by intro z;cases z),pR (j:=k+1) ho (by symm;simp only [yyC ho];symm;rfl) rfl]
 symm
theorem yii {w:Str}{r:List Str}(ho:o<h.length) (hl:ws.length<=100000) (e:ws.drop k=w::r):yF [.loc o,.str w] (hR h o ws k)=some (.non,hR h o ws (k+1)):=by
 unfold yF
 rw [yp]
 show ob (ym _ _ [.val (.loc o),.val (.str w),.no] (hR h o ws k)) fnK=_
 symm
 rw [mR ho (by rfl') rfl rfl,yei ho hl e]
 symm
theorem ycG {w:Str}{r:List Str}(g:yeA w) (ho:o<h.length) (hl:ws.length<=100000) (e:ws.drop k=w::r):yB [.loc o] (hR h o ws k)=some (.str w,hR h o ws (k+1)):=by
 unfold yB
 rw [yp]
 show ob (ym _ _ [.val (.loc o),.no] (hR h o ws k)) fnK=_
 symm
 rw [mR ho (by rfl') rfl rfl,yei ho hl e]
 simp_all? only [ypo g]
theorem yfM {w:Str}{r:List Str}(g:yjh w) (ho:o<h.length) (hl:ws.length<=100000) (e:ws.drop k=w::r):ybp [.loc o] (hR h o ws k)=some (.str w,hR h o ws (k+1)):=by
 unfold ybp
 rw [yp]
 show ob (ym _ _ [.val (.loc o),.no] (hR h o ws k)) fnK=_
 symm
 rw [mR ho (by rfl') rfl rfl,yei ho hl e]
 simp_all? only [ypp g]
theorem yij {n:Int}{r:List Str}(h0:0<=n) (h1:n<B64) (ho:o<h.length) (hl:ws.length<=100000) (e:ws.drop k=Str.ofString (toString n)::r):yby [.loc o] (hR h o ws k)=some (.int n,hR h o ws (k+1)):=by
 unfold yby
 rw [yp]
 show ob (ym _ _ [.val (.loc o),.no,.no] (hR h o ws k)) fnK=_
 symm
 rw [mR ho (by rfl') rfl rfl,yei ho hl e]
 simp_all? only [ylz h0 h1]
 rw [if_neg (by intro z;cases z)]
theorem yEL {r:Str}{n:Int}{h:AH}:ydE [.str r,.int n] h=some (.ins 1 ["slot","number"] [.str r,.int n],h):=rfl
theorem yEM {r s:Str}{h:AH}:ydF [.str r,.str s] h=some (.ins 4 ["place","slot"] [.str r,.str s],h):=rfl
theorem yyD {r s:Str}{h:AH}:ycW [.str r,.str s] h=some (.ins 8 ["name","slot"] [.str r,.str s],h):=rfl
theorem yuT {a b:List PV}{h:AH}:ycL [.lst a,.lst b] h=some (.ins 6 ["parts","others"] [.lst a,.lst b],h):=rfl
theorem yEN {r s:Str}{a b:List PV}{h:AH}:ydG [.lst a,.str r,.str s,.lst b] h=some (.ins 7 ["parts","name","slot","others"] [.lst a,.str r,.str s,.lst b],h):=rfl
theorem yiJ {t:T}{w:Str}{tl rest:List Str}(g:gdT t) (hp:plain t) (ew:wdT t=w::tl) (ho:o<h.length) (hl:ws.length<=100000) (e:ws.drop k=tl++rest):ybB [.loc o,.str w] (hR h o ws k)=some (ybf t,hR h o ws (k+tl.length)):=by
 unfold ybB
 rw [yp]
 show ob (ym _ _ [.val (.loc o),.val (.str w),.no,.no,.no] (hR h o ws k)) fnK=_
 cases t with
 | either a b=>exact hp.elim
 | try_ a nm r b=>exact hp.elim
 | let_ r n =>
  cases ew
  have e1:=(ypq e).2.2
  walk_at "qq"
  rw [mR ho (by rfl') rfl rfl,ycG g.1 ho hl e]
  symm
  rw [mR ho (by rfl') rfl rfl,yij g.2.1 g.2.2 ho hl e1]
  simp_all? only [yEL]
  rfl
 | put r s =>
  cases ew
  have e1:=(ypq e).2.2
  walk_at "qq"
  rw [mR ho (by rfl') rfl rfl,ycG g.1 ho hl e]
  symm
  rw [mR ho (by rfl') rfl rfl,ycG g.2 ho hl e1]
  simp_all? only [yEM]
  rfl
 | throw nm r =>
  cases ew
  have e1:=(ypq e).2.2
  walk_at "qq"
  rw [mR ho (by rfl') rfl rfl,yfM g.1 ho hl e]
  symm
  rw [mR ho (by rfl') rfl rfl,ycG g.2 ho hl e1]
  simp_all? only [yyD]
  rfl
 | wait =>
  cases ew
  walk_at "qq"
  rfl
end
mutual
noncomputable def rdT:T->Int
 | .either a b=>max 0 (max (1+rdL a) (1+rdL b))
 | .try_ a _ _ b=>max 0 (max (1+rdL a) (1+rdL b))
 | _=>0
noncomputable def rdL:List T->Int
 | []=>-1
 | t::r=>max (rdT t) (rdL r)
end
mutual
noncomputable def yBE:T->Prop
 | .either a b=>yuU a/\yuU b/\a.length<=90/\b.length<=90
 | .try_ a _ _ b=>yuU a/\yuU b/\a.length<=90/\b.length<=90
 | _=>True
noncomputable def yuU:List T->Prop
 | []=>True
 | t::r=>yBE t/\yuU r
end
theorem yEO:∀ t:T,0<=rdT t
 | .let_ ..=>by show (0:Int)<=0;omega
 | .put ..=>by show (0:Int)<=0;omega
 | .throw ..=>by show (0:Int)<=0;omega
 | .wait=>by show (0:Int)<=0;omega
 | .either a b=>by show 0<=max 0 (max (1+rdL a) (1+rdL b));omega
 | .try_ a _ _ b=>by show 0<=max 0 (max (1+rdL a) (1+rdL b));omega
theorem fw:∀ {t:T},gdT t->∃ w tl,wdT t=w::tl/\w≠")"
 | .let_ ..,_=>⟨_,_,rfl,by rfl'⟩
 | .put ..,_=>⟨_,_,rfl,by rfl'⟩
 | .either ..,_=>⟨_,_,rfl,by rfl'⟩
 | .try_ ..,_=>⟨_,_,rfl,by rfl'⟩
 | .throw ..,_=>⟨_,_,rfl,by rfl'⟩
 | .wait,_=>⟨_,_,rfl,by rfl'⟩
theorem yyE:((")":Str) = ";")=False:=eq_false (by rfl')
theorem yfN {ws a b:List Str}{k:Nat}(e:ws.drop k=a++b):ws.drop (k+a.length)=b:=by
 rw [<- List.drop_drop,e,List.drop_left]
def ends (rest:List Str):Prop:=rest=[]\/∃ r,rest=(")":Str)::r
section
variable {h:AH}{o:Nat}{ws:List Str}{k:Nat}
def yjm (h:AH) (o:Nat) (ws:List Str) (n:Nat):Prop:=∀ (t:T) (k:Nat) (rest:List Str) (ar:Int),gdT t->yBE t->rdT t+ar<=8->4*ypC t+1<=n->ws.drop k=wdT t++rest->yC n [.loc o,.int ar] (hR h o ws k)=some (ybf t,hR h o ws (k+(wdT t).length))
def ymV (n:Nat):XS:=ym (ybD (yj 10 "pass_over" yF (yf 0) (yc (xC (.str ";")) (yh)))) (yfA 2 (yj 10 "part_taken" (yC n) (yf 0) (yc (yf 1) (yh))))
theorem yrU {n:Nat}(G:yjm h o ws n) (ho:o<h.length) (hl:ws.length<=100000) {rest:List Str}(hr:ends rest) {ar:Int}:∀ (r:List T) (acc:List PV) (k fu:Nat),gdL r->yuU r->rdL r+ar<=8->4*yeq r+1<=n->r.length<fu->acc.length+r.length<=1000->ws.drop k=wdR r++rest ->
  whl yiH (ymV n) fu [.val (.loc o),.val (.int ar),.own (.lst acc)] (hR h o ws k)=some (.nx [.val (.loc o),.val (.int ar),.own (.lst (acc++ycn r))],hR h o ws (k+(wdR r).length))
 | [],acc,k,fu+1,_,_,_,_,_,_,e=>by
  rw [ynP]
  have e:ws.drop k=rest:=e
  have c:yiH [.val (.loc o),.val (.int ar),.own (.lst acc)] (hR h o ws k)=some (false,hR h o ws k):=by
   unfold yiH
   symm
   rw [mR ho (by rfl') rfl rfl]
   rcases hr with rfl|⟨r,rfl⟩
   .rw [ykk ho hl e]
    symm
    rfl
   .rw [yeh ho hl e]
    simp_all? only [yyE]
  rw [c,ybK,if_neg (by intro z;cases z)]
  show _=some (Out.nx [.val (.loc o),.val (.int ar),.own (.lst (acc++[]))],hR h o ws (k+0))
  rw [append_nil];rfl
 | t::r,acc,k,fu+1,g,f,hd,hf,hu,ha,e=>by
  rw [ynP]
  have e:ws.drop k=(";":Str)::(wdT t++wdR r++rest):=e
  have hd:max (rdT t) (rdL r)+ar<=8:=hd
  have hf:4*max (ypC t) (yeq r)+1<=n:=hf
  have e1:=(ypq e).2.2
  rw [append_assoc] at e1
  have hu:r.length+1<fu+1:=hu
  have ha:acc.length+(r.length+1)<=1000:=ha
  have c:yiH [.val (.loc o),.val (.int ar),.own (.lst acc)] (hR h o ws k)=some (true,hR h o ws k):=by
   unfold yiH
   symm
   rw [mR ho (by rfl') rfl rfl,yeh ho hl e]
   symm
  have b:ymV n [.val (.loc o),.val (.int ar),.own (.lst acc)] (hR h o ws k)=some (.nx [.val (.loc o),.val (.int ar),.own (.lst (acc++[ybf t]))],hR h o ws (k+1+(wdT t).length)):=by
   unfold ymV
   symm
   rw [mR ho (by rfl') rfl rfl,yii ho hl e]
   symm
   rw [ynQ rfl,mR ho (by rfl') rfl rfl,G t (k+1) _ ar g.1 f.1 (by omega) (by omega) e1]
   symm
   rw [if_pos (by omega)]
  rw [c,ybK,if_pos rfl,b,ybK]
  show whl yiH (ymV n) fu _ _=_
  rw [yrU G ho hl hr r (acc++[ybf t]) (k+1+(wdT t).length) fu g.2 f.2 (by omega) (by omega) (by omega) (by rw [length_append,List.length_singleton];omega) (yfN e1)]
  show _=some (Out.nx [.val (.loc o),.val (.int ar),.own (.lst (acc++(ybf t::ycn r)))],hR h o ws (k+((wdT t++wdR r).length+1)))
  rw [append_assoc,length_append,List.singleton_append,show k+1+(wdT t).length+(wdR r).length=k+((wdT t).length+(wdR r).length+1) by omega]
theorem list_eq {n:Nat}(G:yjm h o ws n) (ho:o<h.length) (hl:ws.length<=100000) {rest:List Str}(hr:ends rest) {ar:Int}{ts:List T}{k:Nat}(g:gdL ts) (f:yuU ts) (hc:ts.length<=90) (hd:rdL ts+ar<=8) (hf:4*yeq ts+1<=n) (e:ws.drop k=wdL ts++rest) :
  ybq (n+1) [.loc o,.int ar] (hR h o ws k)=some (.lst (ycn ts),hR h o ws (k+(wdL ts).length)):=by
 unfold ybq
 rw [yp]
 show ob (ym _ (ym _ (ym (yfa 100 yiH (ymV n)) _)) [.val (.loc o),.val (.int ar),.no] (hR h o ws k)) fnK=_
 cases ts with
 | nil =>
  have e:ws.drop k=rest:=e
  symm
  rw [mR ho (by rfl') rfl rfl]
  rcases hr with rfl|⟨r,rfl⟩
  .rw [ykk ho hl e]
   symm
   rw [if_pos (show isN PV.non=true from rfl)];rfl
  .rw [yeh ho hl e]
   symm
   rw [if_neg (by intro z;cases z),mR ho (by rfl') rfl rfl,yeh ho hl e]
   symm
   rfl
 | cons t r =>
  have e:ws.drop k=wdT t++wdR r++rest:=e
  have hd:max (rdT t) (rdL r)+ar<=8:=hd
  have hf:4*max (ypC t) (yeq r)+1<=n:=hf
  have hc:r.length+1<=90:=hc
  obtain ⟨w,tl,ew,nw⟩:=fw g.1
  have e0:ws.drop k=w::(tl++wdR r++rest):=by rw [e,ew];rfl
  rw [append_assoc] at e
  symm
  rw [mR ho (by rfl') rfl rfl,yeh ho hl e0]
  symm
  rw [if_neg (by intro z;cases z),mR ho (by rfl') rfl rfl,yeh ho hl e0]
  simp_all? only [nw,↓reduceIte]
  rw [mR ho (by rfl') rfl rfl,G t k _ ar g.1 f.1 (by omega) (by omega) e]
  symm
  rw [show yfa 100 yiH (ymV n) [PVar.val (PV.loc o),PVar.val (PV.int ar),PVar.own (Nd.lst [ybf t])] (hR h o ws (k+(wdT t).length))=whl yiH (ymV n) 100 [PVar.val (PV.loc o),PVar.val (PV.int ar),PVar.own (Nd.lst [ybf t])] (hR h o ws (k+(wdT t).length)) from rfl,
   yrU G ho hl hr r [ybf t] (k+(wdT t).length) 100 g.2 f.2 (by omega) (by omega) (by omega) (by rw [List.length_singleton];omega) (yfN e)]
  symm
  show some (PV.lst ([ybf t]++ycn r),_)=some (PV.lst (ybf t::ycn r),hR h o ws (k+(wdT t++wdR r).length))
  rw [length_append,<- add_assoc];rfl
theorem ykl {n:Nat}(G:yjm h o ws n) (ho:o<h.length) (hl:ws.length<=100000) {rest:List Str}{ar:Int}{ts:List T}{k:Nat}(g:gdL ts) (f:yuU ts) (hc:ts.length<=90) (hd:rdL ts+ar<=8) (hf:4*yeq ts+1<=n) (e:ws.drop k=wsd (wdL ts)++rest) :
  yL (n+2) [.loc o,.int ar] (hR h o ws k)=some (.lst (ycn ts),hR h o ws (k+(wsd (wdL ts)).length)):=by
 have e:ws.drop k=("(":Str)::(wdL ts++(")":Str)::rest):=by
  rw [e];unfold wsd;simp
 have e1:=(ypq e).2.2
 have e2:=yfN e1
 unfold yL
 rw [yp]
 show ob (ym _ _ [.val (.loc o),.val (.int ar),.no] (hR h o ws k)) fnK=_
 symm
 rw [mR ho (by rfl') rfl rfl,yii ho hl e]
 symm
 rw [mR ho (by rfl') rfl rfl,list_eq G ho hl (.inr ⟨_,rfl⟩) g f hc hd hf e1]
 symm
 rw [mR ho (by rfl') rfl rfl,yii ho hl e2]
 symm
 rw [show (wsd (wdL ts)).length=(wdL ts).length+2 by unfold wsd;simp,show k+1+(wdL ts).length+1=k+((wdL ts).length+2) by omega]
theorem yrV {n:Nat}(G:yjm h o ws n) (ho:o<h.length) (hl:ws.length<=100000) {rest:List Str}{ar:Int}{a b:List T}{k:Nat}(g:gdT (.either a b)) (f:yBE (.either a b)) (hd:max (rdL a) (rdL b)+ar<=8) (hf:4*max (yeq a) (yeq b)+1<=n) (e1:ws.drop k=wsd (wdL a)++("or":Str)::(wsd (wdL b)++rest)) :
  ybz (n+3) [.loc o,.int ar] (hR h o ws k)=some (ybf (.either a b),hR h o ws (k+(wsd (wdL a)).length+1+(wsd (wdL b)).length)):=by
 have e2:=yfN e1
 have e3:=(ypq e2).2.2
 unfold ybz
 rw [yp]
 show ob (ym _ _ [.val (.loc o),.val (.int ar),.no,.no] (hR h o ws k)) fnK=_
 symm
 rw [mR ho (by rfl') rfl rfl,ykl G ho hl g.1 f.1 f.2.2.1 (by omega) (by omega) e1]
 symm
 rw [mR ho (by rfl') rfl rfl,yii ho hl e2]
 symm
 rw [mR ho (by rfl') rfl rfl,ykl G ho hl g.2 f.2.1 f.2.2.2 (by omega) (by omega) e3]
 simp_all? only [yuT]
 rfl
theorem yBF {n:Nat}(G:yjm h o ws n) (ho:o<h.length) (hl:ws.length<=100000) {rest:List Str}{ar:Int}{nm r:Str}{a b:List T}{k:Nat}(g:gdT (.try_ a nm r b)) (f:yBE (.try_ a nm r b)) (hd:max (rdL a) (rdL b)+ar<=8) (hf:4*max (yeq a) (yeq b)+1<=n) (e1:ws.drop k=wsd (wdL a)++("on":Str)::nm::r::(wsd (wdL b)++rest)) :
  ybS (n+3) [.loc o,.int ar] (hR h o ws k)=some (ybf (.try_ a nm r b),hR h o ws (k+(wsd (wdL a)).length+1+1+1+(wsd (wdL b)).length)):=by
 have e2:=yfN e1
 have e3:=(ypq e2).2.2
 have e4:=(ypq e3).2.2
 have e5:=(ypq e4).2.2
 unfold ybS
 rw [yp]
 show ob (ym _ _ [.val (.loc o),.val (.int ar),.no,.no,.no,.no] (hR h o ws k)) fnK=_
 symm
 rw [mR ho (by rfl') rfl rfl,ykl G ho hl g.2.2.1 f.1 f.2.2.1 (by omega) (by omega) e1]
 symm
 rw [mR ho (by rfl') rfl rfl,yii ho hl e2]
 symm
 rw [mR ho (by rfl') rfl rfl,yfM g.1 ho hl e3]
 symm
 rw [mR ho (by rfl') rfl rfl,ycG g.2.1 ho hl e4]
 symm
 rw [mR ho (by rfl') rfl rfl,ykl G ho hl g.2.2.2 f.2.1 f.2.2.2 (by omega) (by omega) e5]
 simp_all? only [yEN]
 rfl
theorem yeW {n:Nat}(ho:o<h.length) (hl:ws.length<=100000) {t:T}{rest:List Str}{ar:Int}(g:gdT t) (hp:plain t) (hd:ar<=8) (e:ws.drop k=wdT t++rest):yC (n+1) [.loc o,.int ar] (hR h o ws k)=some (ybf t,hR h o ws (k+(wdT t).length)):=by
 obtain ⟨w,tl,ew,_⟩:=fw g
 have e0:ws.drop k=w::(tl++rest):=by rw [e,ew];rfl
 have nw:(w = "if")=False/\(w = "either")=False/\(w = "try")=False:=by
  cases t with
  | either a b=>exact hp.elim
  | try_ a nm r b=>exact hp.elim
  | let_ r n=>cases ew;exact ⟨ykh,yeB,yic⟩
  | put r s=>cases ew;exact ⟨yki,yeC,yid⟩
  | throw r s=>cases ew;exact ⟨ygp,ydI,yfq⟩
  | wait=>cases ew;exact ⟨yih,yeg,ygq⟩
 unfold yC
 rw [yp]
 show ob (ym _ _ [.val (.loc o),.val (.int ar),.no] (hR h o ws k)) fnK=_
 simp_all? only [show (ar>8)=False from eq_false (by omega),↓reduceIte]
 rw [mR ho (by rfl') rfl rfl,yei ho hl e0]
 simp_all? only [nw.1,nw.2.1,nw.2.2,↓reduceIte]
 rw [mR ho (by rfl') rfl rfl,yiJ g hp ew ho hl (ypq e0).2.2]
 symm
 rw [ew,length_cons,show k+(tl.length+1)=k+1+tl.length by omega]
theorem ymW (ho:o<h.length) (hl:ws.length<=100000):∀ n:Nat,yjm h o ws n
 | 0=>fun t k rest ar g f hd hf=>by omega
 | n+1=>fun t k rest ar g f hd hf e=>by
  have nn:=yEO t
  cases t with
  | either a b =>
   have h1:4*(1+max (yeq a) (yeq b))+1<=n+1:=hf
   have h2:max 0 (max (1+rdL a) (1+rdL b))+ar<=8:=hd
   obtain ⟨m,rfl⟩:∃ m,n=m+3:=⟨n-3,by omega⟩
   have e:ws.drop k=("either":Str)::(wsd (wdL a)++("or":Str)::(wsd (wdL b)++rest)):=by rw [e];simp [wdT]
   unfold yC
   rw [yp]
   show ob (ym _ _ [.val (.loc o),.val (.int ar),.no] (hR h o ws k)) fnK=_
   simp_all? only [show (ar>8)=False from eq_false (by omega),↓reduceIte]
   rw [mR ho (by rfl') rfl rfl,yei ho hl e]
   simp_all? only [yfr,↓reduceIte]
   rw [mR ho (by rfl') rfl rfl,yrV (ymW ho hl m) ho hl g f (by omega) (by omega) (ypq e).2.2]
   symm
   rw [show (wdT (.either a b)).length=(wsd (wdL a)).length+(wsd (wdL b)).length+2 by simp [wdT];omega]
   rw [show k+1+(wsd (wdL a)).length+1+(wsd (wdL b)).length=k+((wsd (wdL a)).length+(wsd (wdL b)).length+2) by omega]
  | try_ a nm r b =>
   have h1:4*(1+max (yeq a) (yeq b))+1<=n+1:=hf
   have h2:max 0 (max (1+rdL a) (1+rdL b))+ar<=8:=hd
   obtain ⟨m,rfl⟩:∃ m,n=m+3:=⟨n-3,by omega⟩
   have e:ws.drop k=("try":Str)::(wsd (wdL a)++("on":Str)::nm::r::(wsd (wdL b)++rest)):=by rw [e];simp [wdT]
   unfold yC
   rw [yp]
   show ob (ym _ _ [.val (.loc o),.val (.int ar),.no] (hR h o ws k)) fnK=_
   simp_all? only [show (ar>8)=False from eq_false (by omega),↓reduceIte]
   rw [mR ho (by rfl') rfl rfl,yei ho hl e]
   simp_all? only [ykj,yeE,↓reduceIte]
   rw [mR ho (by rfl') rfl rfl,yBF (ymW ho hl m) ho hl g f (by omega) (by omega) (ypq e).2.2]
   symm
   rw [show (wdT (.try_ a nm r b)).length=(wsd (wdL a)).length+(wsd (wdL b)).length+4 by simp [wdT];omega]
   rw [show k+1+(wsd (wdL a)).length+1+1+1+(wsd (wdL b)).length=k+((wsd (wdL a)).length+(wsd (wdL b)).length+4) by omega]
  | let_ r n=>exact yeW ho hl g trivial (by omega) e
  | put r s=>exact yeW ho hl g trivial (by omega) e
  | throw r s=>exact yeW ho hl g trivial (by omega) e
  | wait=>exact yeW ho hl g trivial (by omega) e
end
mutual
theorem yon:∀ {t:T},gdT t->1<=ygn t
 | .let_ ..,_=>by show (1:Int)<=1;omega
 | .put ..,_=>by show (1:Int)<=1;omega
 | .throw ..,_=>by show (1:Int)<=1;omega
 | .wait,_=>by show (1:Int)<=1;omega
 | .either a b,g=>by
  have h1:=ycb g.1
  have h2:=ycb g.2
  show 1<=3+(ybU a).sum+(ybU b).sum
  omega
 | .try_ a nm r b,g=>by
  have h1:=ycb g.2.2.1
  have h2:=ycb g.2.2.2
  show 1<=3+(ybU a).sum+(ybU b).sum
  omega
theorem ycb:∀ {ts:List T},gdL ts->(ts.length:Int)<=(ybU ts).sum
 | [],_=>Int.le_refl _
 | t::r,g=>by
  have h1:=yon g.1
  have h2:=ycb g.2
  show ((r.length+1:Nat):Int)<=(ygn t::ybU r).sum
  rw [List.sum_cons]
  omega
end
mutual
theorem yBG:∀ {t:T},gdT t->(wT t:Int)+5<=100*ygn t
 | .let_ r n,g=>by
  have h1:=(ydH g.1).2.2
  have h2:=(yrQ g.2.1 g.2.2).2.2
  show ((10+r.length+(Str.ofString (toString n)).length:Nat):Int)+5<=100*1
  omega
 | .put r s,g=>by
  have h1:=(ydH g.1).2.2
  have h2:=(ydH g.2).2.2
  show ((10+r.length+s.length:Nat):Int)+5<=100*1
  omega
 | .throw r s,g=>by
  have h1:=(ykg g.1).2.2
  have h2:=(ydH g.2).2.2
  show ((10+r.length+s.length:Nat):Int)+5<=100*1
  omega
 | .wait,_=>by show ((10:Nat):Int)+5<=100*1;omega
 | .either a b,g=>by
  have h1:=ygr g.1
  have h2:=ygr g.2
  show ((40+wL a+wL b:Nat):Int)+5<=100*(3+(ybU a).sum+(ybU b).sum)
  omega
 | .try_ a nm r b,g=>by
  have h0:=(ydH g.2.1).2.2
  have h3:=(ykg g.1).2.2
  have h1:=ygr g.2.2.1
  have h2:=ygr g.2.2.2
  show ((40+nm.length+r.length+wL a+wL b:Nat):Int)+5<=100*(3+(ybU a).sum+(ybU b).sum)
  omega
theorem ygr:∀ {ts:List T},gdL ts->(wL ts:Int)<=100*(ybU ts).sum
 | [],_=>Int.le_refl _
 | t::r,g=>by
  have h1:=yBG g.1
  have h2:=ygr g.2
  show ((5+wT t+wL r:Nat):Int)<=100*(ygn t::ybU r).sum
  rw [List.sum_cons]
  omega
end
mutual
theorem yBH:∀ {t:T},gdT t->ygn t<=90->yBE t
 | .let_ ..,_,_=>trivial
 | .put ..,_,_=>trivial
 | .throw ..,_,_=>trivial
 | .wait,_,_=>trivial
 | .either a b,g,l=>by
  have h1:=ycb g.1
  have h2:=ycb g.2
  have l:3+(ybU a).sum+(ybU b).sum<=90:=l
  exact ⟨ygs g.1 (by omega),ygs g.2 (by omega),by omega,by omega⟩
 | .try_ a nm r b,g,l=>by
  have h1:=ycb g.2.2.1
  have h2:=ycb g.2.2.2
  have l:3+(ybU a).sum+(ybU b).sum<=90:=l
  exact ⟨ygs g.2.2.1 (by omega),ygs g.2.2.2 (by omega),by omega,by omega⟩
theorem ygs:∀ {ts:List T},gdL ts->(ybU ts).sum<=90->yuU ts
 | [],_,_=>trivial
 | t::r,g,l=>by
  have h1:=yon g.1
  have h2:=ycb g.2
  have l:(ygn t::ybU r).sum<=90:=l
  rw [List.sum_cons] at l
  exact ⟨yBH g.1 (by omega),ygs g.2 (by omega)⟩
end
mutual
theorem yBI:∀ t:T,(ypC t:Int)<=rdT t+1
 | .let_ ..=>by show (0:Int)<=0+1;omega
 | .put ..=>by show (0:Int)<=0+1;omega
 | .throw ..=>by show (0:Int)<=0+1;omega
 | .wait=>by show (0:Int)<=0+1;omega
 | .either a b=>by
  have h1:=ygt a
  have h2:=ygt b
  show ((1+max (yeq a) (yeq b):Nat):Int)<=max 0 (max (1+rdL a) (1+rdL b))+1
  omega
 | .try_ a nm r b=>by
  have h1:=ygt a
  have h2:=ygt b
  show ((1+max (yeq a) (yeq b):Nat):Int)<=max 0 (max (1+rdL a) (1+rdL b))+1
  omega
theorem ygt:∀ ts:List T,(yeq ts:Int)<=rdL ts+1
 | []=>by show (0:Int) <= -1+1;omega
 | t::r=>by
  have h1:=yBI t
  have h2:=ygt r
  show ((max (ypC t) (yeq r):Nat):Int)<=max (rdT t) (rdL r)+1
  omega
end
theorem ywh (l:List Str):(wsd l).length=l.length+2:=by unfold wsd;simp
mutual
theorem ywi:∀ t:T,(wdT t).length<=wT t
 | .let_ r n=>by show 3<=10+r.length+(Str.ofString (toString n)).length;omega
 | .put r s=>by show 3<=10+r.length+s.length;omega
 | .throw r s=>by show 3<=10+r.length+s.length;omega
 | .wait=>by show 1<=10;omega
 | .either a b=>by
  have h1:=yik a
  have h2:=yik b
  show (("either":Str)::(wsd (wdL a)++("or":Str)::wsd (wdL b))).length<=40+wL a+wL b
  simp only [length_cons,length_append,ywh]
  omega
 | .try_ a nm r b=>by
  have h1:=yik a
  have h2:=yik b
  show (("try":Str)::(wsd (wdL a)++("on":Str)::nm::r::wsd (wdL b))).length<=40+nm.length+r.length+wL a+wL b
  simp only [length_cons,length_append,ywh]
  omega
theorem yik:∀ ts:List T,(wdL ts).length<=wL ts
 | []=>Nat.le_refl _
 | t::r=>by
  have h1:=ywi t
  have h2:=yrW r
  show (wdT t++wdR r).length<=5+wT t+wL r
  rw [length_append]
  omega
theorem yrW:∀ ts:List T,(wdR ts).length<=wL ts
 | []=>Nat.le_refl _
 | t::r=>by
  have h1:=ywi t
  have h2:=yrW r
  show (wdT t++wdR r).length+1<=5+wT t+wL r
  rw [length_append]
  omega
end
structure OkL (ts:List T):Prop where
 gd:gdL ts
 rd:rdL ts<=8
 lg:(ybU ts).sum<=79
theorem OkL.len {ts:List T}(g:OkL ts):ts.length<=79:=by have:=ycb g.gd;have:=g.lg;omega
theorem OkL.w {ts:List T}(g:OkL ts):wL ts<=7900:=by have:=ygr g.gd;have:=g.lg;omega
theorem OkL.dep {ts:List T}(g:OkL ts):yeq ts<=9:=by have:=ygt ts;have:=g.rd;omega
def ygL (ts:List T):Str:=Str.join " ; " (yN ts)
section
variable {h:AH}
theorem ymX {ts:List T}(g:OkL ts):yeV [.str (ygL ts)] h=some (.lst ((wdL ts).map .str),h):=by
 have hl:=ydP ts
 have hw:=g.w
 have et:ygL ts=Str.join " " (wdL ts):=ydQ ts g.gd
 unfold yeV
 rw [yp]
 show ob (ym _ _ [.val (.str (ygL ts))] h) fnK=_
 symm
 cases ts with
 | nil =>
  rw [if_pos (show ygL [] = "" by rfl')]
  rfl
 | cons t r =>
  have ne:wdL (t::r)≠[]:=fun z=>yyA g.gd.1 (List.append_eq_nil_iff.mp z).1
  rw [if_neg (by rw [et];exact yrS (yiI g.gd) ne),yxU (by unfold ygL;omega)]
  symm
  rw [et,yhK _ ne fun w hw=>(yiI g.gd w hw).1]
theorem yyF {ts:List T}(g:OkL ts):yjf [.str (ygL ts)] h=some (.lst (ycn ts),hR (h++[rdr (wdL ts) 0]) h.length (wdL ts) (0+(wdL ts).length)):=by
 have hw:=g.w
 have hwl:=yik ts
 have hd:=g.dep
 have hl:=g.lg
 unfold yjf
 rw [yp]
 show ob (ym _ _ [.val (.str (ygL ts)),.no,.no] h) fnK=_
 symm
 rw [ymX g]
 symm
 rw [show ycN [PV.lst (List.map PV.str (wdL ts))] h=some (rdr (wdL ts) 0,h) from rfl]
 symm
 have ho:h.length<(h++[rdr (wdL ts) 0]).length:=by simp
 have e0:h++[rdr (wdL ts) 0]=hR (h++[rdr (wdL ts) 0]) h.length (wdL ts) 0:=by unfold hR;simp
 generalize hG:h++[rdr (wdL ts) 0]=G at *
 have e1:(wdL ts).drop 0=wdL ts++[]:=by simp
 have hdr:(wdL ts).drop (0+(wdL ts).length)=[]:=by simp
 have rd:=g.rd
 rw [mR (ws:=wdL ts) (k:=0) ho (by rfl') (by rw [<- e0];rfl) rfl,list_eq (n:=44) (ymW ho (by omega) 44) ho (by omega) (.inl rfl) g.gd (ygs g.gd (by omega)) (by have:=g.len;omega) (by omega) (by omega) e1]
 symm
 rw [mR ho (by rfl') rfl rfl,ykk ho (by omega) hdr]
 symm
 rw [if_neg (by intro z;cases z),ycS (n:=44) (ymT 44) (by omega) (by omega)]
 symm
 rw [if_neg (by omega)]
end
inductive Rw where
 | let_ (r:Str) (n:Int)|put (p s:Str)|throw (nm r:Str)|wait|either (k:Int)|guard (nm r:Str) (k:Int)|settle|jump (k:Int)|lay
noncomputable def yW:Rw->PV
 | .let_ r n=>.tup [.str "let",.str r,.int n]
 | .put p s=>.tup [.str "put",.str p,.str s]
 | .throw nm r=>.tup [.str "throw",.str nm,.str r]
 | .wait=>.tup [.str "wait"]
 | .either k=>.tup [.str "either",.int k]
 | .guard nm r k=>.tup [.str "guard",.str nm,.str r,.int k]
 | .settle=>.tup [.str "settle"]
 | .jump k=>.tup [.str "jump",.int k]
 | .lay=>.tup [.str "lay"]
section
variable {h:AH}
noncomputable def Stk (h:AH):List Nat->List (List Key×List PV)->Prop
 | [],[]=>True
 | l::ls,d::ds=>h[l]?=some (.dct d.1 d.2)/\Stk h ls ds
 | _,_=>False
structure LG (h:AH) (o s b:Nat) (ls:List Nat) (ds:List (List Key×List PV)) (ks:List Key) (xs:List PV):Prop where
 ob:h[o]?=some (.ins 11 ["stack","last_seen"] [.loc s,.loc b])
 st:h[s]?=some (.lst (ls.map .loc))
 sn:h[b]?=some (.dct ks xs)
 dl:Stk h ls ds
theorem ygu {o s b:Nat}(e:h[o]?=some (.ins 11 ["stack","last_seen"] [.loc s,.loc b])):ydU [11] "stack" (.loc o) h=some (.loc s,h):=by
 unfold ydU yeo
 simp only [e]
 rw [if_pos (by rfl'),show idxOf ("stack":Str) ["stack","last_seen"]=0 by rfl']
 rfl
theorem yyG {o s b:Nat}(e:h[o]?=some (.ins 11 ["stack","last_seen"] [.loc s,.loc b])):ydU [11] "last_seen" (.loc o) h=some (.loc b,h):=by
 unfold ydU yeo
 simp only [e]
 rw [if_pos (by rfl'),show idxOf ("last_seen":Str) ["stack","last_seen"]=1 by rfl']
 rfl
theorem yrX {n:Nat}{l:List Nat}{t:Nat}(e:h[n]?=some (.lst ((l++[t]).map PV.loc))):ycj (.loc n) (.int (-1)) h=some (.loc t,h):=by
 unfold ycj
 simp only [e]
 have:atI ((l++[t]).map PV.loc) (-1)=some (.loc t):=by
  unfold atI ixN
  simp
  rw [if_pos (by omega),bind_some,show (-1+((l.length:Int)+1)).toNat=l.length by omega]
  simp
 rw [this]
theorem yoo {n:Nat}{ks:List Key}{xs:List PV}{i:Int}{x:PV}{ed ek ev:XE}{ρ:PSt}(ev':ev ρ h=some (x,h)) (ed':ed ρ h=some (.loc n,h)) (ek':ek ρ h=some (.int i,h)) (e:h[n]?=some (.dct ks xs)) (hl:ks.length<1000) :
  ymI ed ek ev ρ h=some (.nx ρ,h.set n (.dct (ych ks xs (.inl i) x).1 (ych ks xs (.inl i) x).2)):=by
 unfold ymI
 rw [ev',ybK,ed',ybK,ek',ybK]
 simp only [e,keyOf]
 rw [if_pos hl]
end
section
variable {h:AH}{o s b:Nat}{ls:List Nat}{ds:List (List Key×List PV)}{ks:List Key}{xs:List PV}
theorem yuV {i:Int}{v:PV}{t:Nat}{d:List Key×List PV}(g:LG h o s b (ls++[t]) ds ks xs) (ht:h[t]?=some (.dct d.1 d.2)) (hl:d.1.length<1000):yeb [.loc o,.int i,v] h=some (.non,h.set t (.dct (ych d.1 d.2 (.inl i) v).1 (ych d.1 d.2 (.inl i) v).2)):=by
 unfold yeb
 rw [yp,ypd,yua,yDo,ymE,show yf 0 ([PV.loc o,.int i,v].map .val++replicate (4-[PV.loc o,.int i,v].length) .no) h=some (.loc o,h) from rfl,ybK,ygu g.ob,ybK]
 show ob (ob (ob (ycj (.loc s) (.int (-1)) h) _) _) _=_
 rw [yrX g.st,ybK]
 show ob (ymI (yf 3) (yf 1) (yf 2) [.val (.loc o),.val (.int i),.val v,.val (.loc t)] h) fnK=_
 rw [yoo (n:=t) (i:=i) (x:=v) rfl rfl rfl ht hl,ybK]
 rfl
theorem yuW (g:LG h o s b ls ds ks xs) (hl:ls.length<1000):yec [.loc o] h=some (.non,(h++[Nd.dct [] []]).set s (.lst ((ls++[h.length]).map .loc))):=by
 have hs:(h++[Nd.dct [] []])[s]?=some (.lst (ls.map .loc)):=by rw [getElem?_append_left (List.getElem?_eq_some_iff.mp g.st).1];exact g.st
 unfold yec
 rw [yp,ynI,yAE,ymE,show yf 0 ([PV.loc o].map .val++replicate (1-[PV.loc o].length) .no) h=some (.loc o,h) from rfl,ybK,ygu g.ob,ybK,if_pos (ydg g.st)]
 show ob (ob (yiG (.loc s) [.loc h.length] (h++[Nd.dct [] []])) _) fnK=_
 rw [ymL hs (by rw [length_map];omega),ybK,ybK,map_append]
 rfl
theorem yrY {n:Nat}{l:List Nat}{t:Nat}(e:h[n]?=some (.lst ((l++[t]).map PV.loc))):ygW (.loc n) [] h=some (.loc t,h.set n (.lst (l.map .loc))):=by
 unfold ygW
 simp only [e]
 have:((l++[t]).map PV.loc)[((l++[t]).map PV.loc).length-1]?=some (.loc t):=by simp
 rw [this]
 simp
theorem yyH {t:Nat}(g:LG h o s b (ls++[t]) ds ks xs):yeT [.loc o] h=some (.non,h.set s (.lst (ls.map .loc))):=by
 unfold yeT
 rw [yp,ynI,yAE,ymE,show yf 0 ([PV.loc o].map .val++replicate (1-[PV.loc o].length) .no) h=some (.loc o,h) from rfl,ybK,ygu g.ob,ybK,if_pos (ydg g.st),yxD,ybK,yrY g.st,ybK,ybK]
 rfl
end
section
variable {h:AH}{o s b:Nat}{ls:List Nat}{ds:List (List Key×List PV)}{ks:List Key}{xs:List PV}
theorem yrZ {t u:Nat}{dt du:List Key×List PV}(g:LG h o s b (ls++[u]++[t]) ds ks xs) (ho:o≠s) (hus:u≠s) (hts:t≠s) (hut:u≠t) (eu:h[u]?=some (.dct du.1 du.2)) (et:h[t]?=some (.dct dt.1 dt.2)) (hl:du.1.length+dt.1.length<1000) :
  ydu [.loc o] h=some (.non,(h.set s (.lst ((ls++[u]).map .loc))).set u (.dct (yjV dt.1 dt.2 du.1 du.2).1 (yjV dt.1 dt.2 du.1 du.2).2)):=by
 have hs:s<h.length:=(List.getElem?_eq_some_iff.mp g.st).1
 have e1:(h.set s (.lst ((ls++[u]).map PV.loc)))[s]?=some (.lst ((ls++[u]).map PV.loc)):=getElem?_set_self hs
 have e2:(h.set s (.lst ((ls++[u]).map PV.loc)))[o]?=some (.ins 11 ["stack","last_seen"] [.loc s,.loc b]):=(getElem?_set_ne (Ne.symm ho)).trans g.ob
 have e3:(h.set s (.lst ((ls++[u]).map PV.loc)))[u]?=some (.dct du.1 du.2):=(getElem?_set_ne (Ne.symm hus)).trans eu
 have e4:(h.set s (.lst ((ls++[u]).map PV.loc)))[t]?=some (.dct dt.1 dt.2):=(getElem?_set_ne (Ne.symm hts)).trans et
 unfold ydu
 rw [yp,ypd,yua,yAE,ymE,show yf 0 ([PV.loc o].map .val++replicate (3-[PV.loc o].length) .no) h=some (.loc o,h) from rfl,ybK,ygu g.ob,ybK,if_pos (ydg g.st),yxD,ybK,yrY g.st,ybK]
 generalize hh:h.set s (.lst ((ls++[u]).map PV.loc))=h1 at *
 show ob (ym _ _ [.val (.loc o),.val (.loc t),.no] h1) fnK=_
 rw [ypd,yua,yDo,ymE,show yf 0 [PVar.val (.loc o),.val (.loc t),.no] h1=some (.loc o,h1) from rfl,ybK,ygu e2,ybK]
 show ob (ob (ob (ycj (.loc s) (.int (-1)) h1) _) _) _=_
 rw [yrX e1,ybK]
 show ob (ybD (xBM ypi yzn (yf 2) (yc (yf 1) yh)) [.val (.loc o),.val (.loc t),.val (.loc u)] h1) fnK=_
 rw [ynI,yAE]
 show ob (ob (if ypi (.loc u) h1=true then yzn (.loc u) [.loc t] h1 else none) _) fnK=_
 rw [if_pos (by unfold ypi yjQ;simp only [e3];rfl)]
 unfold yzn
 simp only [e3,e4]
 rw [if_pos ⟨hut,hl⟩,ybK,ybK]
 rfl
end
def At (h:AH) (m:List (Nat×Nd)):Prop:=(m.map (·.1)).Nodup/\∀ p∈m,h[p.1]?=some p.2
section
variable {h:AH}{m a b:List (Nat×Nd)}
theorem At.get (A:At h m) (i:Nat) {n:Nat}{d:Nd}(e:m[i]?=some (n,d)):h[n]?=some d:=A.2 _ (mem_of_getElem? e)
theorem At.lt (A:At h m) {p:Nat×Nd}(hp:p∈m):p.1<h.length:=(List.getElem?_eq_some_iff.mp (A.2 p hp)).1
theorem At.upd {n:Nat}{d:Nd}(d':Nd) (A:At h (a++(n,d)::b)):At (h.set n d') (a++(n,d')::b):=by
 have hn:n<h.length:=A.lt (p:=(n,d)) (by simp)
 refine ⟨by have:=A.1;simpa using this,fun p hp=>?_⟩
 by_cases q:p.1=n
 .have:p=(n,d'):=by
   have nd:=A.1
   rw [map_append,map_cons,List.nodup_append] at nd
   rcases List.mem_append.mp hp with z|z
   .exact absurd q (nd.2.2 _ (List.mem_map_of_mem z) _ mem_cons_self)
   .rcases mem_cons.mp z with z|z
    .exact z
    .exact absurd (show n∈b.map (·.1) by rw [<- q];exact List.mem_map_of_mem z) (List.nodup_cons.mp nd.2.1).1
  rw [this,getElem?_set_self hn]
 .rw [getElem?_set_ne (fun z=>q z.symm)]
  refine A.2 p ?_
  rcases List.mem_append.mp hp with z|z
  .exact mem_append_left _ z
  .rcases mem_cons.mp z with z|z
   .exact absurd (by rw [z]) q
   .exact mem_append_right _ (mem_cons_of_mem _ z)
theorem At.new (d:Nd) (A:At h (a++b)):At (h++[d]) (a++(h.length,d)::b):=by
 have lt:∀ p∈a++b,p.1<h.length:=fun p hp=>A.lt hp
 refine ⟨?_,fun p hp=>?_⟩
 .have nd:=A.1
  rw [map_append,List.nodup_append] at nd
  rw [map_append,map_cons,List.nodup_append]
  refine ⟨nd.1,List.nodup_cons.mpr ⟨fun z=>?_,nd.2.1⟩,fun x hx y hy=>?_⟩
  .obtain ⟨p,hp,e⟩:=List.mem_map.mp z
   have:=lt p (mem_append_right _ hp)
   omega
  .rcases mem_cons.mp hy with rfl|hy
   .obtain ⟨p,hp,e⟩:=List.mem_map.mp hx
    have:=lt p (mem_append_left _ hp)
    omega
   .exact nd.2.2 x hx y hy
 .rcases List.mem_append.mp hp with z|z
  .rw [getElem?_append_left (lt p (mem_append_left _ z))];exact A.2 p (mem_append_left _ z)
  .rcases mem_cons.mp z with z|z
   .rw [z];simp
   .rw [getElem?_append_left (lt p (mem_append_right _ z))];exact A.2 p (mem_append_right _ z)
theorem At.sub {m':List (Nat×Nd)}(A:At h m) (s:m'.Sublist m):At h m':=⟨(s.map _).nodup A.1,fun p hp=>A.2 p (s.subset hp)⟩
theorem At.perm {m':List (Nat×Nd)}(A:At h m) (s:m'.Perm m):At h m':=⟨(s.map _).nodup_iff.mpr A.1,fun p hp=>A.2 p (s.subset hp)⟩
theorem fl {n k:Nat}{ns:List Str}{xs:List PV}(i:Nat) {cs:List Nat}{f:Str}{y:PV}(e:h[n]?=some (.ins k ns xs)) (hk:k∈cs) (hi:(decide (f∈ns) && ns.idxOf f == i)=true) (hy:xs[i]?=some y):ydU cs f (.loc n) h=some (y,h):=by
 obtain ⟨h1,h2⟩:=Bool.and_eq_true_iff.mp hi
 have h2:=eq_of_beq h2
 unfold ydU yeo
 simp only [e]
 rw [if_pos ⟨hk,of_decide_eq_true h1⟩,h2,hy]
def ypr (nu ma cr en:Nat):Nd:=.ins 15 ["numbers","marks","crew","entries"] [.loc nu,.loc ma,.loc cr,.loc en]
noncomputable def ydR (ds:List PV) (w nth:Int) (sl:Bool) (bf:List Int) (rn:Nat):Nd:=.ins 14 ["deeds","width","nth","sleeps","before","run"] [.lst ds,.int w,.int nth,.bl sl,.lst (bf.map .int),.loc rn]
noncomputable def ykm (hl:Nat) (w:Int) (lg:Nat) (rows:List PV) (t:Int) (sn sd:Nat):Nd:=.ins 12 ["held","width","log","rows","at","seen_stamps","sides"] [.loc hl,.int w,.loc lg,.lst rows,.int t,.loc sn,.loc sd]
theorem yeF {n nu ma cr en:Nat}(e:h[n]?=some (ypr nu ma cr en)):ydU [15] "numbers" (.loc n) h=some (.loc nu,h)/\ydU [15] "marks" (.loc n) h=some (.loc ma,h)/\ydU [15] "crew" (.loc n) h=some (.loc cr,h)/\ydU [15] "entries" (.loc n) h=some (.loc en,h) :=
 ⟨fl 0 e (by decide) (by rfl') rfl,fl 1 e (by decide) (by rfl') rfl,fl 2 e (by decide) (by rfl') rfl,fl 3 e (by decide) (by rfl') rfl⟩
theorem ygM {n:Nat}{ds:List PV}{w nth:Int}{sl:Bool}{bf:List Int}{rn:Nat}(e:h[n]?=some (ydR ds w nth sl bf rn)):ydU [14] "deeds" (.loc n) h=some (.lst ds,h)/\ydU [12,14] "width" (.loc n) h=some (.int w,h)/\ydU [14] "nth" (.loc n) h=some (.int nth,h)/\ydU [14] "sleeps" (.loc n) h=some (.bl sl,h)/\ydU [14] "before" (.loc n) h=some (.lst (bf.map .int),h)/\ydU [14] "run" (.loc n) h=some (.loc rn,h) :=
 ⟨fl 0 e (by decide) (by rfl') rfl,fl 1 e (by decide) (by rfl') rfl,fl 2 e (by decide) (by rfl') rfl,fl 3 e (by decide) (by rfl') rfl,fl 4 e (by decide) (by rfl') rfl,fl 5 e (by decide) (by rfl') rfl⟩
theorem ydo {n hl:Nat}{w:Int}{lg:Nat}{rows:List PV}{t:Int}{sn sd:Nat}(e:h[n]?=some (ykm hl w lg rows t sn sd)):ydU [12] "held" (.loc n) h=some (.loc hl,h)/\ydU [12,14] "width" (.loc n) h=some (.int w,h)/\ydU [12] "log" (.loc n) h=some (.loc lg,h)/\ydU [12] "rows" (.loc n) h=some (.lst rows,h)/\ydU [10,12] "at" (.loc n) h=some (.int t,h)/\ydU [12] "seen_stamps" (.loc n) h=some (.loc sn,h)/\ydU [12] "sides" (.loc n) h=some (.loc sd,h) :=
 ⟨fl 0 e (by decide) (by rfl') rfl,fl 1 e (by decide) (by rfl') rfl,fl 2 e (by decide) (by rfl') rfl,fl 3 e (by decide) (by rfl') rfl,fl 4 e (by decide) (by rfl') rfl,fl 5 e (by decide) (by rfl') rfl,fl 6 e (by decide) (by rfl') rfl⟩
end
def mK (k:Nat) (m:Str) (f:Fn) (as:XA) (ρ:PSt) (x:PV) (h1:AH):Option (PV×AH):=match yeo x h1 with
 | some (k',ns,_)=>if k'=k/\m∉ns then ob (as ρ h1) fun ys h2=>f (x::ys) h2 else none
 | none=>none
def fL (cs:List Nat) (f:Str) (ρ:PSt) (y x:PV) (h2:AH):Option (Out×AH):=match x with
 | .loc n=>(match h2[n]? with|some (.ins k ns xs)=>if k∈cs/\ns.length<1000 then some (.nx ρ,h2.set n (.ins k (putN f y ns xs).1 (putN f y ns xs).2)) else none|_=>none)
 | _=>none
section
variable {h:AH}{ρ:PSt}
theorem yhn {k:Nat}{m:Str}{f:Fn}{e:XE}{as:XA}:yj k m f e as ρ h=ob (e ρ h) fun x h1=>mK k m f as ρ x h1:=id rfl
theorem yyI {cs:List Nat}{f:Str}{eo ev:XE}:ydh cs f eo ev ρ h=ob (ev ρ h) fun y h1=>ob (eo ρ h1) fun x h2=>fL cs f ρ y x h2:=id rfl
theorem yY {n k:Nat}{ns:List Str}{xs:List PV}{m:Str}{f:Fn}{as:XA}(e:h[n]?=some (.ins k ns xs)) (hm:decide (m∈ns)=false):mK k m f as ρ (.loc n) h=ob (as ρ h) fun ys h2=>f (.loc n::ys) h2:=by
 unfold mK yeo
 simp only [e]
 rw [if_pos ⟨trivial,of_decide_eq_false hm⟩]
theorem yfs {n k:Nat}{ns ns':List Str}{xs xs':List PV}{cs:List Nat}{f:Str}{y:PV}(e:h[n]?=some (.ins k ns xs)) (hk:(decide (k∈cs) && decide (ns.length<1000))=true) (hp:putN f y ns xs=(ns',xs')):fL cs f ρ y (.loc n) h=some (.nx ρ,h.set n (.ins k ns' xs')):=by
 obtain ⟨h1,h2⟩:=Bool.and_eq_true_iff.mp hk
 unfold fL
 simp only [e]
 rw [if_pos ⟨of_decide_eq_true h1,of_decide_eq_true h2⟩,hp]
end
def SL:List Str:=["a","b","c","d","e","f","g","h"]
def sx (r:Str):Nat:=SL.idxOf r
section
variable {h:AH}{n hl lg sn sd:Nat}{w t:Int}{rows:List PV}{hs:List Int}{r:Str}
theorem yfO (hr:r∈SL):ydv [.str r] h=some (.int (sx r),h):=by
 unfold SL at hr
 simp only [mem_cons,not_mem_nil,or_false] at hr
 rcases hr with rfl|rfl|rfl|rfl|rfl|rfl|rfl|rfl<;>kernel_rfl!
theorem yBJ (hr:r∈SL):sx r<8:=List.idxOf_lt_length_of_mem hr
theorem ygv {n:Nat}{xs:List Int}{i:Nat}(e:h[n]?=some (.lst (xs.map .int))) (hi:i<xs.length):ycj (.loc n) (.int i) h=some (.int (xs.getD i 0),h):=by
 unfold ycj
 simp only [e]
 have:(xs.map PV.int)[i]?=some (.int (xs.getD i 0)):=by
  rw [getElem?_map,List.getElem?_eq_getElem hi,getD_eq_getElem?_getD,List.getElem?_eq_getElem hi];rfl
 rw [ycw this]
theorem ysa {rw:PV}(e:h[n]?=some (ykm hl w lg rows t sn sd)) {i:Nat}(ht:t=i) (er:rows[i]?=some rw):ydM [.loc n] h=some (rw,h):=by
 obtain ⟨f1,f2,f3,f4,f5,f6,f7⟩:=ydo e
 subst ht
 unfold ydM
 rw [yp]
 show ob (yO _ [.val (.loc n)] h) fnK=_
 simp_all? only [f4,f5]
 rw [ycw er]
 rfl
variable (e:h[n]?=some (ykm hl w lg rows t sn sd)) (eh:h[hl]?=some (.lst (hs.map .int))) (h8:hs.length=8) (hr:r∈SL)
include e eh h8 hr
theorem ygw:ybM [.loc n,.str r] h=some (.int (hs.getD (sx r) 0),h):=by
 obtain ⟨f1,f2,f3,f4,f5,f6,f7⟩:=ydo e
 unfold ybM
 rw [yp]
 show ob (yO _ [.val (.loc n),.val (.str r)] h) fnK=_
 simp_all? only [f1,yfO hr]
 rw [ygv eh (by rw [h8];exact yBJ hr),ybK]
theorem ysb {v:Int}:ycK [.loc n,.str r,.int v] h=some (.non,h.set hl (.lst ((hs.set (sx r) v).map .int))):=by
 obtain ⟨f1,f2,f3,f4,f5,f6,f7⟩:=ydo e
 unfold ycK
 rw [yp]
 show ob (ygj _ _ _ [.val (.loc n),.val (.str r),.val (.int v)] h) fnK=_
 unfold ygj
 show ob (ob (some (PV.int v,h)) _) _=_
 rw [ybK]
 simp_all? only [f1,yfO hr]
 have hi:sx r<hs.length:=by rw [h8];exact yBJ hr
 have e':ixN (hs.map PV.int).length (sx r:Nat)=some (sx r):=by
  unfold ixN
  simp [hi]
 simp only [eh,e']
 rw [ybK,map_set]
 rfl
theorem ysc (hw:1<=w):ydb [.loc n,.str r] h=some (.int (hs.getD (sx r) 0%w),h):=by
 obtain ⟨f1,f2,f3,f4,f5,f6,f7⟩:=ydo e
 unfold ydb
 rw [yp]
 show ob (yO _ [.val (.loc n),.val (.str r)] h) fnK=_
 simp_all? only [yhn,yY (m:="held_in") e (by rfl'),ygw e eh h8 hr,f2]
 rw [if_pos (by omega)]
end
def ygN:Rw->Rw->Bool
 | .either _,.wait=>true
 | .guard nm _ _,.throw nm' _=>decide (nm=nm')
 | _,_=>false
def yhc:Rw->Bool|.either _=>true|.guard ..=>true|_=>false
def yuX:Rw->Bool|.wait=>true|.throw ..=>true|_=>false
def sdV (s:Rw×List Int):PV:=.tup [yW s.1,.lst (s.2.map .int)]
noncomputable def tkL (sd:List (Rw×List Int)) (r:Rw):Nat->Nat
 | 0=>0
 | k+1=>match sd[k]? with|some s=>if ygN s.1 r then k+1 else tkL sd r k|none=>0
section
variable {h:AH}{n hl lg sn sdl:Nat}{w t:Int}{rows:List PV}{hs:List Int}{r:Rw}{sd:List (Rw×List Int)}
theorem yuY {b:Rw}(hb:yhc b=true) (hr:yuX r=true):yhX [yW b,yW r] h=some (.bl (ygN b r),h):=by
 cases b<;>first|(cases hb;done)|skip
 all_goals cases r<;>first|(cases hr;done)|kernel_rfl!|skip
 rename_i nm _ _ nm' _
 unfold yhX
 rw [yp]
 show ob (ym _ _ [.val (yW (.guard nm _ _)),.val (yW (.throw nm' _))] h) fnK=_
 unfold yW
 simp_all? only [yeD]
 rfl
theorem yuZ {c:XT}{s:XS}{k:Nat}{ρ:PSt}:whl c s (k+1) ρ h=ob (c ρ h) fun k' h1=>if k'=true then ob (s ρ h1) fun o h2=>(match o with|.nx ρ'=>whl c s k ρ' h2|.ct ρ'=>whl c s k ρ' h2|.bk ρ'=>some (.nx ρ',h2)|.rt y=>some (.rt y,h2)) else some (.nx ρ,h1):=rfl
theorem yop (e:h[n]?=some (ykm hl w lg rows t sn sdl)) (es:h[sdl]?=some (.lst (sd.map sdV))) (hb:∀ s∈sd,yhc s.1=true) (hr:yuX r=true) (hl9:sd.length<900):yV [.loc n,yW r] h=some (.int (tkL sd r sd.length),h):=by
 obtain ⟨f1,f2,f3,f4,f5,f6,f7⟩:=ydo e
 unfold yV
 rw [yp]
 show ob (ym _ (ym (yfa 1000 _ _) _) [.val (.loc n),.val (yW r),.no] h) fnK=_
 have lp:∀ (c:XT) (s:XS),c=(ywV (yo (xOp (oGt) (yf 2) (xC (.int 0)))) (yiV (yo (yM yhX (yc (xOp (yce) (xOp (ycj) (ybm [12] "sides" (yf 0)) (xOp ytO (yf 2) (xC (.int 1)))) (xC (.int 0))) (yc (yf 1) (yh)))))))->s=(ycg (xOp ytO (yf 2) (xC (.int 1))) (yu 2)) ->
   ∀ (k f:Nat),k<=sd.length->k<f->whl c s f [.val (.loc n),.val (yW r),.val (.int k)] h=some (.nx [.val (.loc n),.val (yW r),.val (.int (tkL sd r k))],h):=by
  intro c s hc hs k
  induction k with
  | zero =>
   intro f _ hf
   obtain ⟨f,rfl⟩:∃ g,f=g+1:=⟨f-1,by omega⟩
   subst hc hs
   rw [yuZ]
   rfl
  | succ k ih =>
   intro f hk hf
   obtain ⟨f,rfl⟩:∃ g,f=g+1:=⟨f-1,by omega⟩
   have hlt:k<sd.length:=hk
   have ge:sd[k]?=some sd[k]:=List.getElem?_eq_getElem hlt
   have i1:ycj (.loc sdl) (.int (((k+1:Nat):Int)-1)) h=some (sdV sd[k],h):=by
    unfold ycj
    simp only [es]
    rw [show ((k+1:Nat):Int)-1=(k:Nat) by omega,ycw (by rw [getElem?_map,ge];rfl)]
   have i2:yce (sdV sd[k]) (.int 0) h=some (yW sd[k].1,h):=rfl
   have i3:=yuY (h:=h) (hb sd[k] (getElem_mem hlt)) hr
   have i4:oGt (.int ((k+1:Nat):Int)) (.int 0) h=some (.bl true,h):=by
    show some (PV.bl (decide ((0:Int)<((k+1:Nat):Int))),h)=_
    rw [decide_eq_true (by omega)]
   have ec:c [.val (.loc n),.val (yW r),.val (.int ((k+1:Nat):Int))] h=some (!(ygN sd[k].1 r),h):=by
    subst hc
    show ob _ _=_
    simp_all? only [f7,i1,i2,i3,i4]
   rw [yuZ,ec,ybK]
   show (if (!(ygN sd[k].1 r))=true then _ else _)=some (Out.nx [_,_,.val (.int ((match sd[k]? with|some s=>if ygN s.1 r then k+1 else tkL sd r k|none=>0:Nat):Int))],h)
   rw [ge]
   cases ht:ygN sd[k].1 r with
   | true=>simp only [Bool.not_true,if_true,ht];rfl
   | false =>
    simp only [Bool.not_false,if_true,ht,Bool.false_eq_true,if_false]
    have:=ih f (by omega) (by omega)
    rw [<- this]
    subst hs
    show ob (some (Out.nx [.val (.loc n),.val (yW r),.val (.int (((k+1:Nat):Int)-1))],h)) _=_
    rw [ybK,show ((k+1:Nat):Int)-1=(k:Nat) by omega]
 have l1:ybP [.loc sdl] h=some (.int sd.length,h):=by rw [ygl es,length_map]
 have l2:=lp _ _ rfl rfl sd.length 1000 (Nat.le_refl _) (by omega)
 simp_all? only [f7,l1]
 exact (congrArg (ob · _) l2).trans rfl
end
section
variable {h:AH}{n hl lg sn sdl:Nat}{w:Int}{rows:List PV}{t:Nat}{r:Rw}
theorem ysd {j:Int}{t:Int}{ρ:PSt}(e:h[n]?=some (ykm hl w lg rows t sn sdl)):fL [10,12] "at" ρ (.int j) (.loc n) h=some (.nx ρ,h.set n (ykm hl w lg rows j sn sdl)):=yfs e (by decide) (by kernel_rfl!)
theorem yva {j:Nat}{t:Int}{ρ:PSt}(e:h[n]?=some (ykm hl w lg rows t sn sdl)):fL [12] "held" ρ (.loc j) (.loc n) h=some (.nx ρ,h.set n (ykm j w lg rows t sn sdl)):=yfs e (by decide) (by kernel_rfl!)
theorem ymY (e:h[n]?=some (ykm hl w lg rows t sn sdl)) (er:rows[t]?=some (yW r)):ycB [.loc n] h=ob (goB [.val (.loc n),.val (yW r)] (h.set n (ykm hl w lg rows (t+1:Nat) sn sdl))) fnK:=by
 obtain ⟨f1,f2,f3,f4,f5,f6,f7⟩:=ydo e
 unfold ycB
 rw [yp]
 show ob (ym _ (ym _ goB) [.val (.loc n),.no] h) fnK=_
 simp_all? only [yhn,yY (m:="row") e (by rfl'),ysa e rfl er,f5,yyI,ysd e]
 rfl
theorem yyJ (e:h[n]?=some (ykm hl w lg rows t sn sdl)) (er:rows[t]?=some (yW r)):ybe [.loc n] h=ob (loB [.val (.loc n),.val (yW r)] h) fnK:=by
 unfold ybe
 rw [yp]
 show ob (ym _ loB [.val (.loc n),.no] h) fnK=_
 simp_all? only [yhn,yY (m:="row") e (by rfl'),ysa e rfl er]
abbrev M2 (m:Str) (f:Fn):XE:=yj 12 m f (yf 0) (yc (yf 1) (yh))
theorem yBK {x:PV}{s:Str}{k:Int}:goB [.val x,.val (yW (.let_ s k))] h=ybD (M2 "go_plain" yP) [.val x,.val (yW (.let_ s k))] h:=by kernel_rfl!
theorem yBL {x:PV}{s k:Str}:goB [.val x,.val (yW (.put s k))] h=ybD (M2 "go_plain" yP) [.val x,.val (yW (.put s k))] h:=by kernel_rfl!
theorem yyK {x:PV}:goB [.val x,.val (yW .wait)] h=ybD (M2 "leave" ybW) [.val x,.val (yW .wait)] h:=by kernel_rfl!
theorem yvb {x:PV}{s k:Str}:goB [.val x,.val (yW (.throw s k))] h=ybD (M2 "throw" ycs) [.val x,.val (yW (.throw s k))] h:=by kernel_rfl!
theorem yse {x:PV}{k:Int}:goB [.val x,.val (yW (.either k))] h=goE [.val x,.val (yW (.either k))] h:=by kernel_rfl!
theorem yvc {x:PV}{s r:Str}{k:Int}:goB [.val x,.val (yW (.guard s r k))] h=goE [.val x,.val (yW (.guard s r k))] h:=by kernel_rfl!
theorem ysf {x:PV}:goB [.val x,.val (yW .settle)] h=goS [.val x,.val (yW .settle)] h:=by kernel_rfl!
theorem yyL {x:PV}{k:Int}:goB [.val x,.val (yW (.jump k))] h=ybD (M2 "lead" yde) [.val x,.val (yW (.jump k))] h:=by kernel_rfl!
end
structure Lc where
 rn:Nat
 hl:Nat
 lg:Nat
 st:Nat
 ls:Nat
 sn:Nat
 sd:Nat
 ly:List Nat
structure RS where
 t:Nat
 hs:List Int
 sd:List (Rw×List Int)
 dd:List (List Key×List PV)
 sn:List (Nat×Int×Int)
def sK (m:List (Nat×Int×Int)):List Key:=m.map fun p=>.inl (p.1:Int)
def sA (m:List (Nat×Int×Int)):List PV:=m.map fun p=>.int p.2.1
def sB (m:List (Nat×Int×Int)):List PV:=m.map fun p=>.int p.2.2
noncomputable def ymZ (m:List (Nat×Int×Int)) (k:Nat) (a b:Int):List (Nat×Int×Int):=if k∈m.map (·.1) then m.map (fun p=>if p.1=k then (k,a,b) else p) else m++[(k,a,b)]
def lay:List Nat->List (List Key×List PV)->List (Nat×Nd)
 | l::ls,d::ds=>(l,.dct d.1 d.2)::lay ls ds
 | _,_=>[]
def RM (w:Int) (rows:List PV) (c:Lc) (s:RS) (rest:List (Nat×Nd)):List (Nat×Nd) :=
 (c.rn,ykm c.hl w c.lg rows s.t c.sn c.sd)::(c.hl,.lst (s.hs.map .int))::(c.lg,.ins 11 ["stack","last_seen"] [.loc c.st,.loc c.ls])::(c.st,.lst (c.ly.map .loc))::(c.ls,.dct (sK s.sn) (sA s.sn))::(c.sn,.dct (sK s.sn) (sB s.sn))::(c.sd,.lst (s.sd.map sdV))::(lay c.ly s.dd++rest)
structure RR (w:Int) (rows:List PV) (rest:List (Nat×Nd)) (h:AH) (c:Lc) (s:RS):Prop where
 at_:At h (RM w rows c s rest)
 len:c.ly.length=s.dd.length
theorem yeG:∀ (l m:List Nat) (d e:List (List Key×List PV)),l.length=d.length->lay (l++m) (d++e)=lay l d++lay m e
 | [],_,[],_,_=>rfl
 | a::l,m,b::d,e,h=>by
  show (a,_)::lay (l++m) (d++e)=(a,_)::(lay l d++lay m e)
  rw [yeG l m d e (by simpa using h)]
noncomputable def okR:Rw->Prop
 | .let_ r n=>r∈SL/\0<=n/\n<B64
 | .put p r=>p∈SL/\r∈SL
 | .throw _ r=>r∈SL
 | .guard _ r k=>r∈SL/\0<=k
 | .either k=>0<=k
 | .jump k=>0<=k
 | _=>True
structure OkS (s:RS):Prop where
 h8:s.hs.length=8
 dl:s.dd.length=s.sd.length+1
 sl:s.sd.length<90
 sd:∀ x∈s.sd,yhc x.1=true/\okR x.1/\x.2.length=8
 d4:∀ d∈s.dd,d.1.length<400
def toB:Rw->Int|.either k=>k|.guard _ _ k=>k|_=>0
def slB:Rw->Str|.guard _ r _=>r|_=>""
def yjn (dd:List (List Key×List PV)) (k v:Int):List (List Key×List PV):=match dd.getLast? with|some d=>dd.dropLast++[ych d.1 d.2 (.inl k) (.int v)]|none=>dd
def yoq (dd:List (List Key×List PV)):List (List Key×List PV):=match dd.getLast?,dd.dropLast.getLast? with|some d,some e=>dd.dropLast.dropLast++[yjV d.1 d.2 e.1 e.2]|_,_=>dd
def yor (s:RS) (r:Rw) (g:Rw->List Int->List Int):Option RS:=match tkL s.sd r s.sd.length with
 | 0=>none
 | L+1=>match s.sd[L]? with|some x=>some ⟨(toB x.1).toNat,g x.1 x.2,s.sd.take L,s.dd.take (L+1),s.sn⟩|none=>none
def ykn (w:Int) (r:Rw) (s:RS):Option RS:=match r with
 | .let_ r n=>some ⟨s.t+1,s.hs.set (sx r) n,s.sd,s.dd,s.sn⟩
 | .put p r=>some ⟨s.t+1,s.hs,s.sd,yjn s.dd (s.hs.getD (sx p) 0%w) (s.hs.getD (sx r) 0),s.sn⟩
 | .either k=>some ⟨s.t+1,s.hs,s.sd++[(.either k,s.hs)],s.dd++[([],[])],s.sn⟩
 | .guard a b k=>some ⟨s.t+1,s.hs,s.sd++[(.guard a b k,s.hs)],s.dd++[([],[])],s.sn⟩
 | .settle=>if s.sd.length=0 then none else some ⟨s.t+1,s.hs,s.sd.dropLast,yoq s.dd,s.sn⟩
 | .jump k=>some ⟨k.toNat,s.hs,s.sd,s.dd,s.sn⟩
 | .wait=>yor s .wait fun _ q=>q
 | .throw a b=>yor s (.throw a b) fun x q=>q.set (sx (slB x)) (s.hs.getD (sx b) 0)
 | .lay=>none
def S0 (hs:List Int):RS:=⟨0,hs,[],[([],[])],[]⟩
section
variable {h:AH}{m:List (Nat×Nd)}
theorem At.ne (A:At h m) {i j:Nat}{p q:Nat×Nd}(hij:i<j) (e1:m[i]?=some p) (e2:m[j]?=some q):p.1≠q.1:=by
 intro z
 obtain ⟨l1,q1⟩:=List.getElem?_eq_some_iff.mp e1
 obtain ⟨l2,q2⟩:=List.getElem?_eq_some_iff.mp e2
 have:=List.pairwise_iff_getElem.mp A.1 i j (by simpa using l1) (by simpa using l2) hij
 rw [List.getElem_map,List.getElem_map,q1,q2] at this
 exact this z
theorem yil:∀ (ly:List Nat) (dd:List (List Key×List PV)),ly.length=dd.length->(lay ly dd).length=ly.length
 | [],[],_=>rfl
 | _::ls,_::ds,e=>by show (lay ls ds).length+1=ls.length+1;rw [yil ls ds (by simpa using e)]
theorem ywj:∀ (ly:List Nat) (dd:List (List Key×List PV)),ly.length=dd.length->(∀ p∈lay ly dd,h[p.1]?=some p.2)->Stk h ly dd
 | [],[],_,_=>trivial
 | l::ls,d::ds,e,g=>⟨g (l,.dct d.1 d.2) mem_cons_self,ywj ls ds (by simpa using e) fun p hp=>g p (mem_cons_of_mem _ hp)⟩
variable {w:Int}{rows:List PV}{rest:List (Nat×Nd)}{c:Lc}{s:RS}
theorem RR.lg (R:RR w rows rest h c s):LG h c.lg c.st c.ls c.ly s.dd (sK s.sn) (sA s.sn):=⟨R.at_.get 2 rfl,R.at_.get 3 rfl,R.at_.get 4 rfl,ywj _ _ R.len fun p hp=>R.at_.2 p (by unfold RM;simp [hp])⟩
theorem RR.run (R:RR w rows rest h c s):h[c.rn]?=some (ykm c.hl w c.lg rows s.t c.sn c.sd):=R.at_.get 0 rfl
theorem RR.held (R:RR w rows rest h c s):h[c.hl]?=some (.lst (s.hs.map .int)):=R.at_.get 1 rfl
theorem RR.sds (R:RR w rows rest h c s):h[c.sd]?=some (.lst (s.sd.map sdV)):=R.at_.get 6 rfl
theorem RR.to (R:RR w rows rest h c s) (k:Nat):RR w rows rest (h.set c.rn (ykm c.hl w c.lg rows k c.sn c.sd)) c { s with t:=k }:=⟨R.at_.upd (a:=[]) _,R.len⟩
theorem RR.hold (R:RR w rows rest h c s) (q:List Int):RR w rows rest (h.set c.hl (.lst (q.map .int))) c { s with hs:=q }:=⟨R.at_.upd (a:=[_]) _,R.len⟩
theorem yjo (e:OkS s):s.hs.length=8/\s.dd.length=s.sd.length+1/\s.sd.length<90/\(∀ x∈s.sd,yhc x.1=true/\okR x.1/\x.2.length=8)/\∀ d∈s.dd,d.1.length<400:=⟨e.h8,e.dl,e.sl,e.sd,e.d4⟩
def dk (m:Option (PV×AH)) (ρ:PSt):Option (PV×AH):=ob (ob m fun _ h1=>some (Out.nx ρ,h1)) fnK
theorem yBM {x:PV}{r:Str}{k:Int}:yP [x,yW (.let_ r k)] h=dk (mK 12 "hold" ycK (fun _ h1=>some ([.str r,.int k],h1)) [] x h) [.val x,.val (yW (.let_ r k))]:=by kernel_rfl!
theorem yBN {x:PV}{p r:Str}:yP [x,yW (.put p r)] h=dk (mK 12 "do_put" ycA (fun _ h1=>some ([.str p,.str r],h1)) [] x h) [.val x,.val (yW (.put p r))]:=by kernel_rfl!
theorem yBO {r:Str}{k:Int}(R:RR w rows rest h c s) (er:rows[s.t]?=some (yW (.let_ r k))) (hr:r∈SL) (h8:s.hs.length=8):∃ h',ycB [.loc c.rn] h=some (.non,h')/\RR w rows rest h' c ⟨s.t+1,s.hs.set (sx r) k,s.sd,s.dd,s.sn⟩:=by
 have R1:=R.to (s.t+1)
 refine ⟨_,?_,R1.hold _⟩
 rw [ymY R.run er,yBK]
 show dk (mK 12 "go_plain" yP _ _ (.loc c.rn) _) _=_
 rw [yY R1.run (by rfl')]
 show dk (yP [.loc c.rn,yW (.let_ r k)] _) _=_
 rw [yBM,yY R1.run (by rfl'),ybK,ysb R1.run R1.held h8 hr]
 rfl
end
section
variable {h:AH}{w:Int}{rows:List PV}{rest:List (Nat×Nd)}{c:Lc}{s:RS}
theorem yyM {k:Int}(R:RR w rows rest h c s) (er:rows[s.t]?=some (yW (.jump k))) (hk:0<=k):∃ h',ycB [.loc c.rn] h=some (.non,h')/\RR w rows rest h' c ⟨k.toNat,s.hs,s.sd,s.dd,s.sn⟩:=by
 have R1:=R.to (s.t+1)
 refine ⟨_,?_,R1.to k.toNat⟩
 rw [ymY R.run er,yyL]
 show dk (mK 12 "lead" yde _ _ (.loc c.rn) _) _=_
 rw [yY R1.run (by rfl')]
 show dk (yde [.loc c.rn,yW (.jump k)] _) _=_
 rw [show ∀ x h,yde [x,yW (.jump k)] h=ob (fL [10,12] "at" [.val x,.val (yW (.jump k))] (.int k) x h) fnK by intro x h;kernel_rfl!,ysd R1.run,show ((k.toNat:Nat):Int)=k by omega]
 rfl
theorem yyN (R:RR w rows rest h c s) {l:List Nat}{t:Nat}{ds:List (List Key×List PV)}{d d':List Key×List PV}(el:c.ly=l++[t]) (ed:s.dd=ds++[d]):RR w rows rest (h.set t (.dct d'.1 d'.2)) c { s with dd:=ds++[d'] }:=by
 have hl:l.length=ds.length:=by have:=R.len;rw [el,ed] at this;simpa using this
 have A:=R.at_
 refine ⟨?_,by show c.ly.length=(ds++[d']).length;rw [R.len,ed];simp⟩
 unfold RM at A ⊢
 rw [el,ed,yeG _ _ _ _ hl] at A
 show At _ (_::_::_::_::_::_::_::(lay c.ly (ds++[d'])++rest))
 rw [el,yeG _ _ _ _ hl,append_assoc]
 rw [append_assoc] at A
 exact A.upd (a:=_::_::_::_::_::_::_::lay l ds) (n:=t) (d:=.dct d.1 d.2) (b:=rest) (.dct d'.1 d'.2)
theorem ybO {α:Type}{xs:List α}(h:xs.length≠0):∃ a y,xs=a++[y]:=⟨xs.dropLast,xs.getLast (by intro z;rw [z] at h;exact h rfl),(List.dropLast_concat_getLast _).symm⟩
theorem ysg {p r:Str}(R:RR w rows rest h c s) (hp:p∈SL) (hr:r∈SL) (h8:s.hs.length=8) (hw:1<=w) {l:List Nat}{t:Nat}{ds:List (List Key×List PV)}{d:List Key×List PV}(el:c.ly=l++[t]) (ed:s.dd=ds++[d]) (hd:d.1.length<400) :
  ycA [.loc c.rn,.str p,.str r] h=some (.non,h.set t (.dct (ych d.1 d.2 (.inl (s.hs.getD (sx p) 0%w)) (.int (s.hs.getD (sx r) 0))).1 (ych d.1 d.2 (.inl (s.hs.getD (sx p) 0%w)) (.int (s.hs.getD (sx r) 0))).2)):=by
 obtain ⟨f1,f2,f3,f4,f5,f6,f7⟩:=ydo R.run
 have G:=R.lg
 have hl:l.length=ds.length:=by have:=R.len;rw [el,ed] at this;simpa using this
 have ht:h[t]?=some (.dct d.1 d.2):=by
  have A:=R.at_
  unfold RM at A
  rw [el,ed,yeG _ _ _ _ hl,append_assoc] at A
  exact A.2 (t,.dct d.1 d.2) (by simp [lay])
 have G':=G
 rw [el] at G'
 unfold ycA
 rw [yp]
 show ob (ybD _ [.val (.loc c.rn),.val (.str p),.val (.str r)] h) fnK=_
 simp_all? only [f3,yhn,yY (m:="box_at") R.run (by rfl'),yY (m:="held_in") R.run (by rfl'),yY (m:="write") G.ob (by rfl'),ysc R.run R.held h8 hp hw,ygw R.run R.held h8 hr,yuV G' ht (Nat.lt_trans hd (by decide))]
theorem yBP {p r:Str}(R:RR w rows rest h c s) (er:rows[s.t]?=some (yW (.put p r))) (hp:p∈SL) (hr:r∈SL) (hw:1<=w) (ok:OkS s):∃ h',ycB [.loc c.rn] h=some (.non,h')/\RR w rows rest h' c ⟨s.t+1,s.hs,s.sd,yjn s.dd (s.hs.getD (sx p) 0%w) (s.hs.getD (sx r) 0),s.sn⟩:=by
 obtain ⟨h8,o2,o3,o4,o5⟩:=yjo ok
 have R1:=R.to (s.t+1)
 obtain ⟨ds,d,ed⟩:=ybO (xs:=s.dd) (by omega)
 obtain ⟨l,t,el⟩:=ybO (xs:=c.ly) (by have:=R.len;omega)
 have e2:=ysg R1 hp hr h8 hw el ed (o5 d (by rw [ed];simp))
 have R2:=yyN (d':=ych d.1 d.2 (.inl (s.hs.getD (sx p) 0%w)) (.int (s.hs.getD (sx r) 0))) R1 el ed
 refine ⟨_,?_,by
  have:yjn s.dd (s.hs.getD (sx p) 0%w) (s.hs.getD (sx r) 0)=ds++[ych d.1 d.2 (.inl (s.hs.getD (sx p) 0%w)) (.int (s.hs.getD (sx r) 0))]:=by
   unfold yjn
   rw [ed,List.getLast?_concat,List.dropLast_concat]
  rw [this]
  exact R2⟩
 rw [ymY R.run er,yBL]
 show dk (mK 12 "go_plain" yP _ _ (.loc c.rn) _) _=_
 rw [yY R1.run (by rfl')]
 show dk (yP [.loc c.rn,yW (.put p r)] _) _=_
 rw [yBN,yY R1.run (by rfl'),ybK,e2]
 rfl
end
section
variable {h:AH}{w:Int}{rows:List PV}{rest:List (Nat×Nd)}{c:Lc}{s:RS}
theorem RR.side (R:RR w rows rest h c s) (q:List (Rw×List Int)):RR w rows rest (h.set c.sd (.lst (q.map sdV))) c { s with sd:=q }:=⟨R.at_.upd (a:=[_,_,_,_,_,_]) _,R.len⟩
theorem yBQ {r:Rw}(R:RR w rows rest h c s) (o3:s.sd.length<90) (o2:s.dd.length=s.sd.length+1):∃ h' c',ob (goE [.val (.loc c.rn),.val (yW r)] h) fnK=some (.non,h')/\RR w rows rest h' c' { s with sd:=s.sd++[(r,s.hs)],dd:=s.dd++[([],[])] }/\c'.rn=c.rn:=by
 obtain ⟨f1,f2,f3,f4,f5,f6,f7⟩:=ydo R.run
 have R2:=R.side (s.sd++[(r,s.hs)])
 obtain ⟨g1,g2,g3,g4,g5,g6,g7⟩:=ydo R2.run
 have G:=R2.lg
 have e1:yiG (.loc c.sd) [.tup [yW r,.lst (s.hs.map .int)]] h=some (.non,h.set c.sd (.lst ((s.sd++[(r,s.hs)]).map sdV))):=by
  rw [ymL R.sds (by rw [length_map];omega),map_append]
  rfl
 have e2:=yuW G (by have:=R.len;omega)
 generalize hh:h.set c.sd (.lst ((s.sd++[(r,s.hs)]).map sdV))=h2 at *
 refine ⟨(h2++[Nd.dct [] []]).set c.st (.lst ((c.ly++[h2.length]).map .loc)),{ c with ly:=c.ly++[h2.length] },?_,⟨?_,?_⟩,rfl⟩
 rotate_left
 .have A:=R2.at_
  have A1:=At.new (.dct [] []) (a:=_::_::_::_::_::_::_::lay c.ly s.dd) (b:=rest) A
  have A2:=At.upd (a:=[_,_,_]) (.lst ((c.ly++[h2.length]).map .loc)) A1
  unfold RM
  show At _ (_::_::_::_::_::_::_::(lay (c.ly++[h2.length]) (s.dd++[([],[])])++rest))
  rw [yeG _ _ _ _ R.len,append_assoc]
  exact A2
 .show (c.ly++[h2.length]).length=(s.dd++[([],[])]).length
  rw [length_append,length_append,R.len];rfl
 unfold goE
 simp_all? only [f7,f1,ydg R.sds,yfD R.held,e1,g3,yhn,yY (m:="begin") G.ob (by rfl'),e2]
theorem ysh {n:Nat}{xs:List PV}{y:PV}(e:h[n]?=some (.lst (xs++[y]))):ygW (.loc n) [] h=some (y,h.set n (.lst xs)):=by
 unfold ygW
 simp only [e]
 have:(xs++[y])[(xs++[y]).length-1]?=some y:=by simp
 rw [this]
 simp
theorem ysi (R:RR w rows rest h c s) (ok:OkS s) (hn:s.sd.length≠0):∃ h' c',ob (goS [.val (.loc c.rn),.val (yW .settle)] h) fnK=some (.non,h')/\RR w rows rest h' c' { s with sd:=s.sd.dropLast,dd:=yoq s.dd }/\c'.rn=c.rn:=by
 obtain ⟨h8,o2,o3,o4,o5⟩:=yjo ok
 obtain ⟨f1,f2,f3,f4,f5,f6,f7⟩:=ydo R.run
 obtain ⟨q,x,eq⟩:=ybO hn
 obtain ⟨d1,dt,ed⟩:=ybO (xs:=s.dd) (by omega)
 obtain ⟨ds,du,ed1⟩:=ybO (xs:=d1) (by have:=congrArg length ed;simp at this;omega)
 obtain ⟨l1,t,el⟩:=ybO (xs:=c.ly) (by have:=R.len;omega)
 obtain ⟨l,u,el1⟩:=ybO (xs:=l1) (by have a:=R.len;have b:c.ly.length=l1.length+1:=(by rw [el];simp);omega)
 subst el1 ed1
 have hl:l.length=ds.length:=by have:=R.len;rw [el,ed] at this;simpa using this
 have em:yoq s.dd=ds++[yjV dt.1 dt.2 du.1 du.2]:=by
  unfold yoq
  rw [ed,List.getLast?_concat,List.dropLast_concat,List.getLast?_concat,List.dropLast_concat]
 have es:s.sd.dropLast=q:=by rw [eq,List.dropLast_concat]
 rw [em,es]
 have R2:=R.side q
 obtain ⟨g1,g2,g3,g4,g5,g6,g7⟩:=ydo R2.run
 have e1:ygW (.loc c.sd) [] h=some (sdV x,h.set c.sd (.lst (q.map sdV))):=ysh (by rw [R.sds,eq,map_append];rfl)
 have G:=R2.lg
 have A:=R2.at_
 generalize hh:h.set c.sd (.lst (q.map sdV))=h2 at *
 have hA:At h2 ((c.rn,ykm c.hl w c.lg rows s.t c.sn c.sd)::(c.hl,.lst (s.hs.map .int))::(c.lg,.ins 11 ["stack","last_seen"] [.loc c.st,.loc c.ls])::(c.st,.lst (c.ly.map .loc))::(c.ls,.dct (sK s.sn) (sA s.sn))::(c.sn,.dct (sK s.sn) (sB s.sn))::(c.sd,.lst (q.map sdV))::(lay l ds++((u,.dct du.1 du.2)::(t,.dct dt.1 dt.2)::rest))):=by
  unfold RM at A
  have el':lay c.ly s.dd=lay l ds++[(u,.dct du.1 du.2),(t,.dct dt.1 dt.2)]:=by
   rw [el,ed,append_assoc,append_assoc,yeG _ _ _ _ hl]
   rfl
  have:∀ z:List (Nat×Nd),(lay l ds++[(u,.dct du.1 du.2),(t,.dct dt.1 dt.2)])++z=lay l ds++((u,.dct du.1 du.2)::(t,.dct dt.1 dt.2)::z):=fun z=>by rw [append_assoc];rfl
  simpa only [el',this] using A
 have iu:(lay l ds++((u,Nd.dct du.1 du.2)::(t,.dct dt.1 dt.2)::rest))[l.length]?=some (u,.dct du.1 du.2):=by
  rw [getElem?_append_right (by rw [yil _ _ hl];omega),yil _ _ hl,sub_self];rfl
 have it:(lay l ds++((u,Nd.dct du.1 du.2)::(t,.dct dt.1 dt.2)::rest))[l.length+1]?=some (t,.dct dt.1 dt.2):=by
  rw [getElem?_append_right (by rw [yil _ _ hl];omega),yil _ _ hl,Nat.add_sub_cancel_left,List.getElem?_cons_succ,List.getElem?_cons_zero]
 have nu:=hA.ne (i:=3) (j:=7+l.length) (by omega) rfl (by rw [show 7+l.length=l.length+7 by omega];exact iu)
 have nt:=hA.ne (i:=3) (j:=7+(l.length+1)) (by omega) rfl (by rw [show 7+(l.length+1)=(l.length+1)+7 by omega];exact it)
 have nut:=hA.ne (i:=7+l.length) (j:=7+(l.length+1)) (by omega) (by rw [show 7+l.length=l.length+7 by omega];exact iu) (by rw [show 7+(l.length+1)=(l.length+1)+7 by omega];exact it)
 have G':=G
 rw [el] at G'
 have e2:=yrZ G' (hA.ne (i:=2) (j:=3) (by omega) rfl rfl) (fun z=>nu z.symm) (fun z=>nt z.symm) nut (hA.get (7+l.length) (by rw [show 7+l.length=l.length+7 by omega];exact iu)) (hA.get (7+(l.length+1)) (by rw [show 7+(l.length+1)=(l.length+1)+7 by omega];exact it)) (by have a:=o5 du (by rw [ed];simp);have b:=o5 dt (by rw [ed];simp);omega)
 refine ⟨(h2.set c.st (.lst ((l++[u]).map .loc))).set u (.dct (yjV dt.1 dt.2 du.1 du.2).1 (yjV dt.1 dt.2 du.1 du.2).2),{ c with ly:=l++[u] },?_,⟨?_,by show (l++[u]).length=(ds++[yjV dt.1 dt.2 du.1 du.2]).length;simp [hl]⟩,rfl⟩
 rotate_left
 .have A1:=At.upd (a:=[_,_,_]) (.lst ((l++[u]).map .loc)) hA
  have A2:=At.upd (a:=_::_::_::_::_::_::_::lay l ds) (.dct (yjV dt.1 dt.2 du.1 du.2).1 (yjV dt.1 dt.2 du.1 du.2).2) (b:=(t,.dct dt.1 dt.2)::rest) A1
  unfold RM
  show At _ (_::_::_::_::_::_::_::(lay (l++[u]) (ds++[yjV dt.1 dt.2 du.1 du.2])++rest))
  rw [yeG _ _ _ _ hl,append_assoc]
  exact A2.sub (((((((((List.Sublist.refl _).append (((List.sublist_cons_self _ _)).cons₂ _)).cons₂ _).cons₂ _).cons₂ _).cons₂ _).cons₂ _).cons₂ _).cons₂ _)
 unfold goS
 simp_all? only [f7,ydg R.sds,e1,g3,yhn,yY (m:="settle") G.ob (by rfl'),e2]
end
section
variable {w:Int}{rows:List PV}{rest:List (Nat×Nd)}
theorem yvd {h:AH}{c:Lc}{s:RS}(R:RR w rows rest h c s) {l:List Nat}{t:Nat}{ds:List (List Key×List PV)}{d:List Key×List PV}(el:c.ly=l++[t]) (ed:s.dd=ds++[d]):RR w rows rest (h.set c.st (.lst (l.map .loc))) { c with ly:=l } { s with dd:=ds }:=by
 have hl:l.length=ds.length:=by have:=R.len;rw [el,ed] at this;simpa using this
 refine ⟨?_,hl⟩
 have A:=At.upd (a:=[_,_,_]) (.lst (l.map .loc)) R.at_
 unfold RM
 rw [el,ed,yeG _ _ _ _ hl,append_assoc] at A
 exact A.sub (((((((((List.Sublist.refl _).append (List.sublist_cons_self _ _)).cons₂ _).cons₂ _).cons₂ _).cons₂ _).cons₂ _).cons₂ _).cons₂ _)
theorem yGr {L rn:Nat}{v1 v3:PV}{p4:PVar}:∀ (k f:Nat) (h:AH) (c:Lc) (s:RS),RR w rows rest h c s->c.rn=rn->s.sd.length=L+k->s.dd.length=s.sd.length+1->k<f ->
  ∃ h' c',whl lvC lvB f [.val (.loc rn),.val v1,.val (.int ((L+1:Nat):Int)),.val v3,p4] h=some (.nx [.val (.loc rn),.val v1,.val (.int ((L+1:Nat):Int)),.val v3,p4],h')/\RR w rows rest h' c' { s with sd:=s.sd.take L,dd:=s.dd.take (L+1) }/\c'.rn=rn:=by
 intro k
 induction k with
 | zero =>
  intro f h c s R hn hs hd hf
  obtain ⟨f,rfl⟩:∃ g,f=g+1:=⟨f-1,by omega⟩
  subst hn
  obtain ⟨f1,f2,f3,f4,f5,f6,f7⟩:=ydo R.run
  refine ⟨h,c,?_,by rw [List.take_of_length_le (by omega),List.take_of_length_le (by omega)];exact R,rfl⟩
  have ec:lvC [.val (.loc c.rn),.val v1,.val (.int ((L+1:Nat):Int)),.val v3,p4] h=some (false,h):=by
   have l1:ybP [.loc c.sd] h=some (.int s.sd.length,h):=by rw [ygl R.sds,length_map]
   have l2:oGe (.int (s.sd.length:Nat)) (.int ((L+1:Nat):Int)) h=some (.bl false,h):=by
    show some (PV.bl (decide (((L+1:Nat):Int)<=(s.sd.length:Nat))),h)=_
    rw [decide_eq_false (by omega)]
   simp_all? only [f7,l1,l2]
  rw [yuZ,ec]
  rfl
 | succ k ih =>
  intro f h c s R hn hs hd hf
  obtain ⟨f,rfl⟩:∃ g,f=g+1:=⟨f-1,by omega⟩
  subst hn
  obtain ⟨f1,f2,f3,f4,f5,f6,f7⟩:=ydo R.run
  obtain ⟨q,x,eq⟩:=ybO (xs:=s.sd) (by omega)
  obtain ⟨ds,d,ed⟩:=ybO (xs:=s.dd) (by omega)
  obtain ⟨l,t,el⟩:=ybO (xs:=c.ly) (by have:=R.len;omega)
  have lq:s.sd.length=q.length+1:=by rw [eq];simp
  have ld:s.dd.length=ds.length+1:=by rw [ed];simp
  have R2:=R.side q
  have e1:ygW (.loc c.sd) [] h=some (sdV x,h.set c.sd (.lst (q.map sdV))):=ysh (by rw [R.sds,eq,map_append];rfl)
  have ec:lvC [.val (.loc c.rn),.val v1,.val (.int ((L+1:Nat):Int)),.val v3,p4] h=some (true,h):=by
   have l1:ybP [.loc c.sd] h=some (.int s.sd.length,h):=by rw [ygl R.sds,length_map]
   have l2:oGe (.int (s.sd.length:Nat)) (.int ((L+1:Nat):Int)) h=some (.bl true,h):=by
    show some (PV.bl (decide (((L+1:Nat):Int)<=(s.sd.length:Nat))),h)=_
    rw [decide_eq_true (by omega)]
   simp_all? only [f7,l1,l2]
  obtain ⟨g1,g2,g3,g4,g5,g6,g7⟩:=ydo R2.run
  have G:=R2.lg
  have G':=G
  rw [el] at G'
  have e2:=yyH G'
  have R3:=yvd R2 el ed
  have eb:lvB [.val (.loc c.rn),.val v1,.val (.int ((L+1:Nat):Int)),.val v3,p4] h=some (.nx [.val (.loc c.rn),.val v1,.val (.int ((L+1:Nat):Int)),.val v3,p4],(h.set c.sd (.lst (q.map sdV))).set c.st (.lst (l.map .loc))):=by
   generalize h.set c.sd (.lst (q.map sdV))=h2 at *
   simp_all? only [f7,ydg R.sds,e1,g3,yhn,yY (m:="drop") G.ob (by rfl'),e2]
  obtain ⟨h',c',q1,q2,q3⟩:=ih f _ _ _ R3 rfl (by show q.length=L+k;omega) (by show ds.length=q.length+1;omega) (by omega)
  refine ⟨h',c',?_,?_,q3⟩
  .rw [yuZ,ec,ybK,if_pos rfl,eb,ybK]
   exact q1
  .rw [eq,ed,List.take_append_of_le_length (by omega),List.take_append_of_le_length (by omega)]
   exact q2
end
section
variable {h:AH}{w:Int}{rows:List PV}{rest:List (Nat×Nd)}{c:Lc}{s:RS}
theorem RR.newh (R:RR w rows rest h c s) (q:List Int):RR w rows rest ((h++[Nd.lst (q.map .int)]).set c.rn (ykm h.length w c.lg rows s.t c.sn c.sd)) { c with hl:=h.length } { s with hs:=q }:=by
 refine ⟨?_,R.len⟩
 have A:=At.new (.lst (q.map .int)) (a:=[_]) R.at_
 have A1:=At.upd (a:=[]) (ykm h.length w c.lg rows s.t c.sn c.sd) A
 exact A1.sub ((List.Sublist.cons _ (List.Sublist.refl _)).cons₂ _ |>.cons₂ _)
theorem yBR {b:Rw}(hb:yhc b=true):yce (yW b) (.int (-1)) h=some (.int (toB b),h):=by
 cases b<;>first|(cases hb;done)|kernel_rfl!
theorem yos {r:Rw}{L:Nat}{x:Rw×List Int}(R:RR w rows rest h c s) (ok:OkS s) (hr:yuX r=true) (hL:tkL s.sd r s.sd.length=L+1) (hx:s.sd[L]?=some x) :
  ∃ h' c',ybW [.loc c.rn,yW r] h=some (yW x.1,h')/\RR w rows rest h' c' ⟨(toB x.1).toNat,x.2,s.sd.take L,s.dd.take (L+1),s.sn⟩/\c'.rn=c.rn:=by
 obtain ⟨h8,o2,o3,o4,o5⟩:=yjo ok
 obtain ⟨f1,f2,f3,f4,f5,f6,f7⟩:=ydo R.run
 have hlt:L<s.sd.length:=(List.getElem?_eq_some_iff.mp hx).1
 obtain ⟨b1,b2,b3⟩:=o4 x (mem_of_getElem? hx)
 obtain ⟨h1,c1,q1,R1,q3⟩:=yGr (v1:=yW r) (v3:=sdV x) (p4:=.no) (L:=L) (s.sd.length-L) 1000 h c s R rfl (by omega) o2 (by omega)
 have q1:yfa 1000 lvC lvB [.val (.loc c.rn),.val (yW r),.val (.int ((L+1:Nat):Int)),.val (sdV x),.no] h=_:=q1
 have k0:0<=toB x.1:=by
  revert b1 b2
  cases x.1<;>simp [yhc,okR,toB]
 have R2:=R1.newh x.2
 rw [q3] at R2
 have R3:=R2.to (toB x.1).toNat
 refine ⟨_,_,?_,R3,rfl⟩
 have i1:ycj (.loc c.sd) (.int (((L+1:Nat):Int)-1)) h=some (sdV x,h):=by
  unfold ycj
  simp only [R.sds]
  rw [show ((L+1:Nat):Int)-1=(L:Nat) by omega,ycw (by rw [getElem?_map,hx];rfl)]
 have i2:∀ h,yce (sdV x) (.int 0) h=some (yW x.1,h):=fun _=>rfl
 have i3:∀ h,yce (sdV x) (.int 1) h=some (.lst (x.2.map .int),h):=fun _=>rfl
 have i4:=yop R.run R.sds (fun x hx=>(o4 x hx).1) hr (by omega)
 rw [hL] at i4
 have e1:(h1++[Nd.lst (x.2.map .int)])[c.rn]?=some (ykm c1.hl w c1.lg rows s.t c1.sn c1.sd):=by
  rw [<- q3,getElem?_append_left (List.getElem?_eq_some_iff.mp R1.run).1];exact R1.run
 have e2:=yva (j:=h1.length) (ρ:=[.val (.loc c.rn),.val (yW r),.val (.int ((L+1:Nat):Int)),.val (sdV x),.val (yW x.1)]) e1
 have e3:=ysd (j:=toB x.1) (ρ:=[.val (.loc c.rn),.val (yW r),.val (.int ((L+1:Nat):Int)),.val (sdV x),.val (yW x.1)]) R2.run
 have i5:=fun h=>yBR (h:=h) b1
 unfold ybW
 rw [yp]
 show ob (ym _ (ym _ (ym (yfa 1000 lvC lvB) _)) [.val (.loc c.rn),.val (yW r),.no,.no,.no] h) fnK=_
 simp_all? only [yhn,yY (m:="taker_layer") R.run (by rfl'),i4,f7,i1,q1,i2,i3,yyI,e2,i5,e3]
 rw [show (((toB x.1).toNat:Nat):Int)=toB x.1 by omega]
theorem yyO {L:Nat}{x:Rw×List Int}(R:RR w rows rest h c s) (er:rows[s.t]?=some (yW .wait)) (ok:OkS s) (hL:tkL s.sd .wait s.sd.length=L+1) (hx:s.sd[L]?=some x) :
  ∃ h' c',ycB [.loc c.rn] h=some (.non,h')/\RR w rows rest h' c' ⟨(toB x.1).toNat,x.2,s.sd.take L,s.dd.take (L+1),s.sn⟩/\c'.rn=c.rn:=by
 have R1:=R.to (s.t+1)
 obtain ⟨h',c',q1,q2,q3⟩:=yos (r:=.wait) R1 ⟨ok.h8,ok.dl,ok.sl,ok.sd,ok.d4⟩ rfl hL hx
 refine ⟨h',c',?_,q2,q3⟩
 rw [ymY R.run er,yyK]
 show dk (mK 12 "leave" ybW _ _ (.loc c.rn) _) _=_
 rw [yY R1.run (by rfl')]
 show dk (ybW [.loc c.rn,yW .wait] _) _=_
 rw [q1]
 rfl
theorem yve {L:Nat}{x:Rw×List Int}{a b:Str}(R:RR w rows rest h c s) (er:rows[s.t]?=some (yW (.throw a b))) (hb:b∈SL) (ok:OkS s) (hL:tkL s.sd (.throw a b) s.sd.length=L+1) (hx:s.sd[L]?=some x) (hg:ygN x.1 (.throw a b)=true) :
  ∃ h' c',ycB [.loc c.rn] h=some (.non,h')/\RR w rows rest h' c' ⟨(toB x.1).toNat,x.2.set (sx (slB x.1)) (s.hs.getD (sx b) 0),s.sd.take L,s.dd.take (L+1),s.sn⟩/\c'.rn=c.rn:=by
 have R1:=R.to (s.t+1)
 obtain ⟨h8,o2,o3,o4,o5⟩:=yjo ok
 obtain ⟨b1,b2,b3⟩:=o4 x (mem_of_getElem? hx)
 obtain ⟨h',c',q1,q2,q3⟩:=yos (r:=.throw a b) R1 ⟨ok.h8,ok.dl,ok.sl,ok.sd,ok.d4⟩ rfl hL hx
 obtain ⟨nm,rr,k,ex⟩:∃ nm rr k,x.1=.guard nm rr k:=by
  revert hg
  cases x.1<;>first|(intro hg;cases hg;done)|exact fun _=>⟨_,_,_,rfl⟩
 have hs:rr∈SL:=by
  rw [ex] at b2
  unfold okR at b2
  simp only [and_eq_true,decide_eq_true_eq] at b2
  exact b2.1
 have e4:=ysb (v:=s.hs.getD (sx b) 0) q2.run q2.held b3 hs
 rw [ex] at q1 q2 e4 ⊢
 refine ⟨_,c',?_,q2.hold _,q3⟩
 have e1:=ygw R1.run R1.held h8 hb
 have i1:∀ h,yce (yW (.throw a b)) (.int 2) h=some (.str b,h):=fun _=>rfl
 have i2:∀ h,yce (yW (.guard nm rr k)) (.int 2) h=some (.str rr,h):=fun _=>rfl
 have r2:=q2.run
 rw [q3] at r2 e4
 rw [ymY R.run er,yvb]
 show dk (mK 12 "throw" ycs _ _ (.loc c.rn) _) _=_
 rw [yY R1.run (by rfl')]
 show dk (ycs [.loc c.rn,yW (.throw a b)] _) _=_
 have:ycs [.loc c.rn,yW (.throw a b)] (h.set c.rn (ykm c.hl w c.lg rows (s.t+1:Nat) c.sn c.sd))=some (.non,h'.set c'.hl (.lst ((x.2.set (sx rr) (s.hs.getD (sx b) 0)).map .int))):=by
  unfold ycs
  rw [yp]
  show ob (ym _ _ [.val (.loc c.rn),.val (yW (.throw a b)),.no,.no] _) fnK=_
  simp_all? only [yhn,yY (m:="held_in") R1.run (by rfl'),yY (m:="leave") R1.run (by rfl'),yY (m:="hold") r2 (by rfl'),i1,i2,e1,q1,e4]
 rw [this]
 rfl
end
section
variable {h:AH}{w:Int}{rows:List PV}{rest:List (Nat×Nd)}{c:Lc}{s s':RS}{r:Rw}
theorem yot {sd:List (Rw×List Int)}:∀ {k L:Nat},tkL sd r k=L+1->∃ x,sd[L]?=some x/\ygN x.1 r=true
 | k+1,L,e=>by
  unfold tkL at e
  split at e
  .rename_i x hx
   split at e
   .rename_i ht
    cases e
    exact ⟨x,hx,ht⟩
   .exact yot e
  .cases e
theorem yyP (R:RR w rows rest h c s) (er:rows[s.t]?=some (yW r)) (hw:1<=w) (k1:okR r) (ok:OkS s) (e:ykn w r s=some s'):∃ h' c',ycB [.loc c.rn] h=some (.non,h')/\RR w rows rest h' c' s'/\c'.rn=c.rn:=by
 obtain ⟨h8,o2,o3,o4,o5⟩:=yjo ok
 have bg:∀ b:Rw,(∀ x h,goB [.val x,.val (yW b)] h=goE [.val x,.val (yW b)] h)->rows[s.t]?=some (yW b)->∃ h' c',ycB [.loc c.rn] h=some (.non,h')/\RR w rows rest h' c' ⟨s.t+1,s.hs,s.sd++[(b,s.hs)],s.dd++[([],[])],s.sn⟩/\c'.rn=c.rn:=fun b hb er=>by
  obtain ⟨h',c',q1,q2,q3⟩:=yBQ (r:=b) (R.to (s.t+1)) o3 o2
  exact ⟨h',c',by rw [ymY R.run er,hb,q1],q2,q3⟩
 cases r with
 | let_ a n =>
  cases e
  obtain ⟨h',q1,q2⟩:=yBO R er k1.1 h8
  exact ⟨h',c,q1,q2,rfl⟩
 | put p a =>
  cases e
  obtain ⟨k2,k3⟩:p∈SL/\a∈SL:=by simpa [okR] using k1
  obtain ⟨h',q1,q2⟩:=yBP R er k2 k3 hw ok
  exact ⟨h',c,q1,q2,rfl⟩
 | jump k =>
  cases e
  obtain ⟨h',q1,q2⟩:=yyM R er (by simpa [okR] using k1)
  exact ⟨h',c,q1,q2,rfl⟩
 | either k=>cases e;exact bg _ (fun _ _=>yse) er
 | guard a b k=>cases e;exact bg _ (fun _ _=>yvc) er
 | settle =>
  unfold ykn at e
  dsimp only at e
  split at e
  .cases e
  .rename_i hn
   cases e
   obtain ⟨h',c',q1,q2,q3⟩:=ysi (R.to (s.t+1)) ⟨ok.h8,ok.dl,ok.sl,ok.sd,ok.d4⟩ hn
   exact ⟨h',c',by rw [ymY R.run er,ysf,q1],q2,q3⟩
 | lay=>cases e
 | wait =>
  unfold ykn at e
  dsimp only at e
  unfold yor at e
  split at e
  .cases e
  .rename_i L hL
   split at e
   .rename_i x hx
    cases e
    exact yyO R er ok hL hx
   .cases e
 | throw a b =>
  unfold ykn at e
  dsimp only at e
  unfold yor at e
  split at e
  .cases e
  .rename_i L hL
   split at e
   .rename_i x hx
    cases e
    obtain ⟨y,hy,ht⟩:=yot hL
    rw [hx] at hy
    cases hy
    exact yve R er (by simpa [okR] using k1) ok hL hx ht
   .cases e
def ysj (s:RS):Rw->Bool
 | .wait=>decide (((tkL s.sd .wait s.sd.length:Nat):Int)=0)
 | .throw a b=>decide (((tkL s.sd (.throw a b) s.sd.length:Nat):Int)=0)
 | .lay=>true
 | _=>false
theorem ysk (R:RR w rows rest h c s) (er:rows[s.t]?=some (yW r)) (ok:OkS s) (okr:okR r) (hw:1<=w):ybe [.loc c.rn] h=some (.bl (ysj s r),h):=by
 obtain ⟨h8,o2,o3,o4,o5⟩:=yjo ok
 rw [yyJ R.run er]
 have tk:∀ b:Rw,yuX b=true->loB [.val (.loc c.rn),.val (yW b)] h=ob (yO (xOp (oEq) (M2 "taker_layer" yV) (xC (.int 0))) [.val (.loc c.rn),.val (yW b)] h) (sqK (yO (xOp (oEq) (xOp (yce) (yf 1) (xC (.int 0))) (xC (.str "lay")))))->ob (loB [.val (.loc c.rn),.val (yW b)] h) fnK=some (.bl (decide (((tkL s.sd b s.sd.length:Nat):Int)=0)),h):=fun b hb e=>by
  rw [e]
  show ob (ob (yO (xOp oEq (yj 12 "taker_layer" yV (yf 0) (yc (yf 1) (yh))) (xC (.int 0))) [.val (.loc c.rn),.val (yW b)] h) _) fnK=_
  simp_all? only [yhn,yY (m:="taker_layer") R.run (by rfl'),yop R.run R.sds (fun x hx=>(o4 x hx).1) hb (by omega)]
 cases r with
 | wait=>exact tk .wait rfl (by kernel_rfl!)
 | throw a b=>exact tk (.throw a b) rfl (by kernel_rfl!)
 | _=>kernel_rfl!
end
def stB (m:List (Nat×Int×Int)) (sp:List Int):Bool:=(m.map fun p=>!decide (sp.getD p.1 0=p.2.2)).any id
theorem yBS {f:Nat×Int×Int->PV}:∀ {m:List (Nat×Int×Int)}{p:Nat×Int×Int},(m.map (·.1)).Nodup->p∈m->yvW (sK m) (m.map f) (.inl (p.1:Int))=some (f p)
 | q::m,p,nd,hp=>by
  show (if (Sum.inl (q.1:Int):Key)=.inl (p.1:Int) then some (f q) else yvW (sK m) (m.map f) (.inl (p.1:Int)))=_
  obtain ⟨n1,n2⟩:=List.nodup_cons.mp nd
  rcases mem_cons.mp hp with rfl|hp
  .rw [if_pos rfl]
  .rw [if_neg (fun z=>n1 ?_)]
   .exact yBS n2 hp
   .have:q.1=p.1:=by have:=Sum.inl.inj z;omega
    show q.1∈m.map (·.1)
    rw [this]
    exact List.mem_map_of_mem hp
theorem yna {α:Type}(f:α->Bool):∀ l:List α,yhD (l.map fun a=>PV.bl (f a))=some (l.map f)
 | []=>rfl
 | a::l=>by
  show yhD (PV.bl (f a)::l.map fun a=>PV.bl (f a))=some (f a::l.map f)
  unfold yhD
  simp only [yna f l]
  try rfl
section
variable {h:AH}{w:Int}{rows:List PV}{rest:List (Nat×Nd)}{c:Lc}{s s':RS}{r:Rw}{sp bx:List Int}{ma nu:Nat}
theorem yvf (R:RR w rows rest h c s) (hm:(ma,.lst (sp.map .int))∈rest) (nd:(s.sn.map (·.1)).Nodup) (hb:∀ p∈s.sn,p.1<sp.length) (hl:s.sn.length<=900):yck [.loc c.rn,.loc ma] h=some (.bl (stB s.sn sp),h):=by
 obtain ⟨f1,f2,f3,f4,f5,f6,f7⟩:=ydo R.run
 have e:h[c.sn]?=some (.dct (sK s.sn) (sB s.sn)):=R.at_.get 5 rfl
 have A:=At.upd (a:=[_,_,_,_,_]) (.fz (sK s.sn) (sB s.sn)) R.at_
 have em:(h.set c.sn (.fz (sK s.sn) (sB s.sn)))[ma]?=some (.lst (sp.map .int)):=A.2 (ma,.lst (sp.map .int)) (by simp [hm])
 obtain ⟨g1,g2,g3,g4,g5,g6,g7⟩:=ydo (A.get 0 rfl)
 have en:(h.set c.sn (.fz (sK s.sn) (sB s.sn)))[c.sn]?=some (.fz (sK s.sn) (sB s.sn)):=A.get 5 rfl
 have back:(h.set c.sn (.fz (sK s.sn) (sB s.sn))).set c.sn (.dct (sK s.sn) (sB s.sn))=h:=by
  rw [List.set_set]
  obtain ⟨l1,l2⟩:=List.getElem?_eq_some_iff.mp e
  rw [<- l2,List.set_getElem_self]
 have cm:yhA (xOp (oNe) (xOp (ycj) (yf 1) (yf 0)) (ymH (ybm [12] "seen_stamps" (yf 2)) (yf 0))) (yfb [1,0] [.val (.loc c.rn),.val (.loc ma)]) ((sK s.sn).map ygY) (h.set c.sn (.fz (sK s.sn) (sB s.sn)))=some (s.sn.map (fun p=>.bl (!decide (sp.getD p.1 0=p.2.2))),h.set c.sn (.fz (sK s.sn) (sB s.sn))):=by
  generalize h.set c.sn (.fz (sK s.sn) (sB s.sn))=h1 at *
  show yhA _ _ ((s.sn.map fun p=>(.inl (p.1:Int):Key)).map ygY) _=_
  rw [map_map]
  refine ygk _ _ fun p hp=>?_
  show xOp _ _ _ [.val (.int (p.1:Int)),.val (.loc ma),.val (.loc c.rn)] _=_
  have i1:=ygv em (hb p hp)
  have i2:ymH (ybm [12] "seen_stamps" (yf 2)) (yf 0) [.val (.int (p.1:Int)),.val (.loc ma),.val (.loc c.rn)] h1=some (.int p.2.2,h1):=by
   unfold ymH
   simp_all? only [g6]
   unfold yCx
   simp only [en,keyOf]
   unfold sB
   rw [yBS nd hp]
  simp_all? only [i1,i2]
 have an:∀ h,yuu [.lst (s.sn.map (fun p=>PV.bl (!decide (sp.getD p.1 0=p.2.2))))] h=some (.bl (stB s.sn sp),h):=fun h=>by
  unfold yuu ybw
  simp only [yna (fun p:Nat×Int×Int=>!decide (sp.getD p.1 0=p.2.2))]
  rfl
 have cd:yjc (ybm [12] "seen_stamps" (yf 0)) [1,0] (xOp (oNe) (xOp (ycj) (yf 1) (yf 0)) (ymH (ybm [12] "seen_stamps" (yf 2)) (yf 0))) [.val (.loc c.rn),.val (.loc ma)] h=some (.lst (s.sn.map (fun p=>.bl (!decide (sp.getD p.1 0=p.2.2)))),h):=by
  unfold yjc
  simp_all? only [f6]
  simp only [e]
  rw [if_pos (by unfold sK;rw [length_map];omega),cm,ybK,back]
 unfold yck
 rw [yp]
 show ob (yO (xCB yuu (yc (xFz (yjc _ _ _)) yh)) [.val (.loc c.rn),.val (.loc ma)] h) fnK=_
 simp_all? only [cd,an]
end
structure HC where
 H:Nat
 nu:Nat
 ma:Nat
 cr:Nat
 en:Nat
structure HQ where
 bx:List Int
 sp:List Int
 en:List PV
 cw:List Nat
 i:Nat
 hd:Nat
 ds:List PV
 nth:Nat
 sl:Bool
 bf:List Int
def HL (g:HC) (rn:Nat) (w:Int) (q:HQ) (own:List (Nat×Nd)):List (Nat×Nd) :=
 (g.H,ypr g.nu g.ma g.cr g.en)::(g.nu,.lst (q.bx.map .int))::(g.ma,.lst (q.sp.map .int))::(g.cr,.lst (q.cw.map .loc))::(g.en,.lst q.en)::(q.hd,ydR q.ds w q.nth q.sl q.bf rn)::own
structure NF (W:Nat) (s:RS):Prop where
 nd:(s.sn.map (·.1)).Nodup
 hb:∀ p∈s.sn,p.1<W
 hl:s.sn.length<=900
def stN (q:HQ):Str:=if q.nth=q.ds.length then "ended" else if q.sl=true then "asleep" else "awake"
section
variable {h:AH}{w:Int}{rows:List PV}{c:Lc}{s s':RS}{r:Rw}{g:HC}{q:HQ}{own:List (Nat×Nd)}{rn:Nat}
theorem RR.rest {m:List (Nat×Nd)}(R:RR w rows m h c s):At h m:=by
 have A:=R.at_
 unfold RM at A
 exact (At.sub A (List.sublist_append_right (_::_::_::_::_::_::_::lay c.ly s.dd) m))
theorem yvg (A:At h (HL g rn w q own)) (hi:q.cw[q.i]?=some q.hd):ycj (.loc g.cr) (.int (q.i:Nat)) h=some (.loc q.hd,h):=by
 have e:h[g.cr]?=some (.lst (q.cw.map .loc)):=A.get 3 rfl
 unfold ycj
 simp only [e]
 rw [ycw (show (q.cw.map PV.loc)[q.i]?=some (.loc q.hd) by rw [getElem?_map,hi];rfl)]
theorem ygx (A:At h (HL g rn w q own)) (hi:q.cw[q.i]?=some q.hd):ybN [.loc g.H,.int (q.i:Nat)] h=some (.loc q.hd,h):=by
 obtain ⟨f1,f2,f3,f4⟩:=yeF (A.get 0 rfl)
 have e:h[g.cr]?=some (.lst (q.cw.map .loc)):=A.get 3 rfl
 have i1:ydL [.int (q.i:Nat)] h=some (.bl true,h):=by kernel_rfl!
 have i2:=yvg A hi
 have lt:=(List.getElem?_eq_some_iff.mp hi).1
 have l1:((0:Int)<=(q.i:Nat))=True:=eq_true (by omega)
 have l2:(((q.i:Nat):Int)<((q.cw.map PV.loc).length:Nat))=True:=eq_true (by rw [length_map];omega)
 unfold ybN
 rw [yp]
 show ob (ym _ _ [.val (.loc g.H),.val (.int (q.i:Nat))] h) fnK=_
 simp_all? only [f3,ygl e,i1,i2,l1,l2]
theorem yho (A:At h (HL g rn w q own)):ybX [.loc q.hd] h=some (.str (stN q),h):=by
 obtain ⟨f1,f2,f3,f4,f5,f6⟩:=ygM (A.get 5 rfl)
 unfold ybX stN
 rw [yp]
 show ob (ym _ _ [.val (.loc q.hd)] h) fnK=_
 by_cases e:q.nth=q.ds.length
 .have e':((q.nth:Nat):Int)=(q.ds.length:Nat):=by omega
  rw [if_pos e]
  simp_all? only [f3,f1,e']
 .have e':(((q.nth:Nat):Int)=(q.ds.length:Nat))=False:=eq_false (by omega)
  rw [if_neg e]
  simp_all? only [f3,f1,f4,e']
  cases q.sl<;>rfl
theorem awake (hn:q.nth<q.ds.length) (hs:q.sl=false):stN q = "awake":=by
 unfold stN
 rw [if_neg (by omega),hs]
 rfl
theorem ysl (R:RR w rows (HL g c.rn w q own) h c s) (hi:q.cw[q.i]?=some q.hd) (er:rows[s.t]?=some (yW r)) (hw:1<=w) (hn:q.nth<q.ds.length) (hs:q.sl=false) (ok:OkS s) (okr:okR r) (hlk:ysj s r=false) (e:ykn w r s=some s') :
  ∃ h' c',ybs [.loc g.H,.int (q.i:Nat)] h=some (.tup [.str "gone",.int s.t],h')/\RR w rows (HL g c'.rn w q own) h' c' s':=by
 obtain ⟨h',c',q1,q2,q3⟩:=yyP R er hw okr ok e
 refine ⟨h',c',?_,by rw [q3];exact q2⟩
 have A:=R.rest
 obtain ⟨f1,f2,f3,f4,f5,f6⟩:=ygM (A.get 5 rfl)
 obtain ⟨k1,k2,k3,k4,k5,k6,k7⟩:=ydo R.run
 have st:=yho A
 rw [awake hn hs] at st
 have lk:=ysk R er ok okr hw
 rw [hlk] at lk
 unfold ybs
 rw [yp]
 show ob (ym _ _ [.val (.loc g.H),.val (.int (q.i:Nat)),.no,.no] h) fnK=_
 simp_all? only [yhn,yY (m:="hand_at") (A.get 0 rfl) (by rfl'),ygx A hi,yY (m:="state") (A.get 5 rfl) (by rfl'),st,f6,k5,yY (m:="is_looked_over") R.run (by rfl'),lk,yY (m:="go") R.run (by rfl'),q1]
theorem ysm (R:RR w rows (HL g c.rn w q own) h c s) (hi:q.cw[q.i]?=some q.hd) (er:rows[s.t]?=some (yW r)) (hw:1<=w) (hn:q.nth<q.ds.length) (hs:q.sl=false) (ok:OkS s) (okr:okR r) (hlk:ysj s r=true) (F:NF q.sp.length s) (fr:stB s.sn q.sp=false):ybs [.loc g.H,.int (q.i:Nat)] h=ob (ybh [.loc g.H,.int (q.i:Nat),.int s.t] h) (fun x h=>some (x,h)):=by
 have A:=R.rest
 obtain ⟨f1,f2,f3,f4,f5,f6⟩:=ygM (A.get 5 rfl)
 obtain ⟨g1,g2,g3,g4⟩:=yeF (A.get 0 rfl)
 obtain ⟨k1,k2,k3,k4,k5,k6,k7⟩:=ydo R.run
 have st:=yho A
 rw [awake hn hs] at st
 have lk:=ysk R er ok okr hw
 rw [hlk] at lk
 have sl:=yvf (ma:=g.ma) (sp:=q.sp) R (mem_of_getElem? (i:=2) rfl) F.nd F.hb F.hl
 rw [fr] at sl
 unfold ybs
 rw [yp]
 show ob (ym _ _ [.val (.loc g.H),.val (.int (q.i:Nat)),.no,.no] h) fnK=_
 simp_all? only [yhn,yY (m:="hand_at") (A.get 0 rfl) (by rfl'),ygx A hi,yY (m:="state") (A.get 5 rfl) (by rfl'),st,f6,k5,yY (m:="is_looked_over") R.run (by rfl'),lk,g2,yY (m:="is_stale") R.run (by rfl'),sl,yY (m:="looked_over_told") (A.get 0 rfl) (by rfl')]
theorem RR.sub {m m':List (Nat×Nd)}(R:RR w rows m h c s) (u:m'.Sublist m):RR w rows m' h c s:=by
 refine ⟨?_,R.len⟩
 have A:=R.at_
 unfold RM at A ⊢
 exact A.sub ((((((((List.Sublist.refl _).append u).cons₂ _).cons₂ _).cons₂ _).cons₂ _).cons₂ _).cons₂ _ |>.cons₂ _)
theorem RR.urest {a b:List (Nat×Nd)}{n:Nat}{d:Nd}(d':Nd) (R:RR w rows (a++(n,d)::b) h c s):RR w rows (a++(n,d')::b) (h.set n d') c s:=by
 refine ⟨?_,R.len⟩
 have A:=R.at_
 unfold RM at A ⊢
 rw [<- append_assoc] at A ⊢
 exact At.upd (a:=_::_::_::_::_::_::_::(lay c.ly s.dd++a)) d' A
end
section
variable {h:AH}{w:Int}{rows rows':List PV}{c:Lc}{s s':RS}{r:Rw}{g:HC}{q:HQ}{own:List (Nat×Nd)}{rn:Nat}
def hp1 (h:AH) (bf:List Int):AH:=h++[Nd.lst (bf.map .int)]
def hp2 (h:AH) (bf:List Int):AH:=hp1 h bf++[Nd.dct [] []]
def hp3 (h:AH) (bf:List Int):AH:=hp2 h bf++[Nd.lst [.loc (hp1 h bf).length]]
def hp4 (h:AH) (bf:List Int):AH:=hp3 h bf++[Nd.dct [] []]
noncomputable def hp5 (h:AH) (bf:List Int):AH:=hp4 h bf++[Nd.ins 11 ["stack","last_seen"] [.loc (hp2 h bf).length,.loc (hp3 h bf).length]]
def hp6 (h:AH) (bf:List Int):AH:=hp5 h bf++[Nd.dct [] []]
def hp7 (h:AH) (bf:List Int):AH:=hp6 h bf++[Nd.lst []]
theorem yvh {bf:List Int}:∃ h' c',ob (ydD [.lst rows,.lst (bf.map .int),.int w] h) (fun d h1=>some (PV.loc h1.length,h1++[d]))=some (.loc c'.rn,h')/\∀ m,At h m->RR w rows m h' c' (S0 bf):=by
 refine ⟨_,⟨(hp7 h bf).length,h.length,(hp4 h bf).length,(hp2 h bf).length,(hp3 h bf).length,(hp5 h bf).length,(hp6 h bf).length,[(hp1 h bf).length]⟩,rfl,fun m A=>⟨?_,rfl⟩⟩
 have A2:=At.new (.dct [] []) (a:=[_]) (At.new (.lst (bf.map .int)) (a:=[]) A)
 have A4:=At.new (.dct [] []) (a:=[_,_]) (At.new (.lst [.loc (hp1 h bf).length]) (a:=[_]) A2)
 have A5:=At.new (.ins 11 ["stack","last_seen"] [.loc (hp2 h bf).length,.loc (hp3 h bf).length]) (a:=[_]) A4
 exact At.new _ (a:=[]) (At.new (.lst []) (a:=[_,_,_,_,_]) (At.new (.dct [] []) (a:=[_,_,_,_]) A5))
theorem yvi {n:Nat}{ds:List PV}{w nth v:Int}{sl:Bool}{bf:List Int}{rn:Nat}{ρ:PSt}(e:h[n]?=some (ydR ds w nth sl bf rn)):fL [14] "nth" ρ (.int v) (.loc n) h=some (.nx ρ,h.set n (ydR ds w v sl bf rn)):=yfs e (by decide) (by kernel_rfl!)
theorem yyQ {n:Nat}{ds:List PV}{w nth:Int}{sl:Bool}{bf v:List Int}{rn:Nat}{ρ:PSt}(e:h[n]?=some (ydR ds w nth sl bf rn)):fL [14] "before" ρ (.lst (v.map .int)) (.loc n) h=some (.nx ρ,h.set n (ydR ds w nth sl v rn)):=yfs e (by decide) (by kernel_rfl!)
theorem yyR {n:Nat}{ds:List PV}{w nth:Int}{sl:Bool}{bf:List Int}{rn v:Nat}{ρ:PSt}(e:h[n]?=some (ydR ds w nth sl bf rn)):fL [14] "run" ρ (.loc v) (.loc n) h=some (.nx ρ,h.set n (ydR ds w nth sl bf v)):=yfs e (by decide) (by kernel_rfl!)
def Due (ds:List PV) (nth:Nat) (rows:List PV):Prop:=nth<ds.length/\ds[nth]?=some (.lst rows)\/nth=ds.length/\rows=[]
theorem yjp {n:Nat}{ds:List PV}{nth:Nat}{bf:List Int}(f1:ydU [14] "deeds" (.loc n) h=some (.lst ds,h)) (f2:ydU [12,14] "width" (.loc n) h=some (.int w,h)) (f3:ydU [14] "nth" (.loc n) h=some (.int nth,h)) (f5:ydU [14] "before" (.loc n) h=some (.lst (bf.map .int),h)) (hr:Due ds nth rows):∃ h' c',ycl [.loc n] h=some (.loc c'.rn,h')/\∀ m,At h m->RR w rows m h' c' (S0 bf):=by
 obtain ⟨h',c',q1,q2⟩:=yvh (h:=h) (w:=w) (rows:=rows) (bf:=bf)
 refine ⟨h',c',?_,q2⟩
 unfold ycl
 rw [yp]
 show ob (ym _ _ [.val (.loc n),.no] h) fnK=_
 rcases hr with ⟨h1,h2⟩|⟨h1,h2⟩
 .have e1:(((nth:Nat):Int)<(ds.length:Nat))=True:=eq_true (by omega)
  have e2:ycj (.lst ds) (.int (nth:Nat)) h=some (.lst rows,h):=by unfold ycj;simp only [ycw h2]
  simp_all? only [f3,f1,f5,f2,e1,e2,q1]
 .have e1:(((nth:Nat):Int)<(ds.length:Nat))=False:=eq_false (by omega)
  subst h2
  simp_all? only [f3,f1,f5,f2,e1,q1]
theorem yvj {v:PV}{bf:List Int}(A:At h (HL g rn w q own)) (hb:∀ h1,At h1 (HL g rn w { q with nth:=q.nth+1 } own)->yR [v] h1=some (.lst (bf.map .int),h1)) (hr:Due q.ds (q.nth+1) rows) :
  ∃ h' c',ydw [.loc q.hd,v] h=some (.non,h')/\RR w rows (HL g c'.rn w { q with nth:=q.nth+1,bf:=bf } own) h' c' (S0 bf):=by
 obtain ⟨f1,f2,f3,f4,f5,f6⟩:=ygM (A.get 5 rfl)
 have A1:At (h.set q.hd (ydR q.ds w (q.nth+1:Nat) q.sl q.bf rn)) (HL g rn w { q with nth:=q.nth+1 } own):=At.upd (a:=[_,_,_,_,_]) _ A
 have A2:At ((h.set q.hd (ydR q.ds w (q.nth+1:Nat) q.sl q.bf rn)).set q.hd (ydR q.ds w (q.nth+1:Nat) q.sl bf rn)) (HL g rn w { q with nth:=q.nth+1,bf:=bf } own):=At.upd (a:=[_,_,_,_,_]) _ A1
 have s1:=fun ρ=>yvi (ρ:=ρ) (v:=((q.nth+1:Nat):Int)) (A.get 5 rfl)
 have s2:=fun ρ=>yyQ (ρ:=ρ) (v:=bf) (A1.get 5 rfl)
 have b1:=hb _ A1
 obtain ⟨a1,a2,a3,a4,a5,a6⟩:=ygM (A2.get 5 rfl)
 obtain ⟨h',c',q1,q2⟩:=yjp a1 a2 a3 a5 hr
 have R:=q2 _ A2
 have B:=R.rest
 have s3:=fun ρ=>yyR (ρ:=ρ) (v:=c'.rn) (B.get 5 rfl)
 refine ⟨h'.set q.hd (ydR q.ds w (q.nth+1:Nat) q.sl bf c'.rn),c',?_,RR.urest (a:=[_,_,_,_,_]) _ R⟩
 have z:((q.nth:Nat):Int)+1=((q.nth+1:Nat):Int):=by omega
 unfold ydw
 rw [yp]
 show ob (ym _ _ [.val (.loc q.hd),.val v] h) fnK=_
 simp_all? only [yyI,yhn,f3,z,s1,s2,b1,yY (m:="new_run") (A2.get 5 rfl) (by rfl'),q1,s3]
def EX (c:Lc) (w:Int) (rows:List PV) (s:RS):List (Nat×Nd):=RM w rows c s []
theorem yim {m:List (Nat×Nd)}:RM w rows c s m=EX c w rows s++m:=by
 unfold EX RM
 simp
theorem RR.hl (R:RR w rows (HL g c.rn w q own) h c s):At h (HL g c.rn w q (EX c w rows s++own)):=by
 have A:=R.at_
 rw [yim] at A
 exact A.perm (show (HL g c.rn w q []++(EX c w rows s++own)).Perm _ from List.perm_append_comm_assoc _ _ _)
theorem yBT {L:List PV}{b st:Nat}{m:List (Nat×Int×Int)}(e1:h[b]?=some (.ins 11 ["stack","last_seen"] [.loc st,.loc rn])) (e2:h[rn]?=some (.dct (sK m) (sA m))) (hs:sortI (sK m) (sA m)=some L):yfG [.loc b] h=some (.lst L,h):=by
 have e1:=yyG e1
 unfold yfG
 rw [yp,ytZ,yCw]
 unfold yfE
 rw [ymE,show yf 0 ([PV.loc b].map .val++replicate (1-[PV.loc b].length) .no) h=some (.loc b,h) from rfl,ybK,e1,ybK]
 unfold yjQ
 simp only [e2,hs]
 rfl
noncomputable def yzp (q:HQ) (en:PV) (L laid:List PV) (bf:List Int):PV:=.tup [.int (q.i:Nat),.int (q.nth:Nat),en,.lst L,.lst laid,.lst (bf.map .int)]
theorem ynb {en v:PV}{L laid:List PV}{bf:List Int}(A:At h (HL g c.rn w q (EX c w rows s++own))) (hi:q.cw[q.i]?=some q.hd) (hs:sortI (sK s.sn) (sA s.sn)=some L) (hb:∀ h1 q',At h1 (HL g c.rn w q' (EX c w rows s++own))->yR [v] h1=some (.lst (bf.map .int),h1)) (hr:Due q.ds (q.nth+1) rows') (hl:q.en.length<1000) :
  ∃ h' c',ycD [.loc g.H,.int (q.i:Nat),en,.lst laid,v] h=some (.non,h')/\RR w rows' (HL g c'.rn w { q with en:=q.en++[yzp q en L laid bf],nth:=q.nth+1,bf:=bf } own) h' c' (S0 bf):=by
 obtain ⟨f1,f2,f3,f4⟩:=yeF (A.get 0 rfl)
 obtain ⟨k1,k2,k3,k4,k5,k6⟩:=ygM (A.get 5 rfl)
 obtain ⟨r1,r2,r3,r4,r5,r6,r7⟩:=ydo (A.get 6 rfl)
 have i2:=yvg A hi
 have een:h[g.en]?=some (.lst q.en):=A.get 4 rfl
 have A1:At (h.set g.en (.lst (q.en++[yzp q en L laid bf]))) (HL g c.rn w { q with en:=q.en++[yzp q en L laid bf] } (EX c w rows s++own)):=At.upd (a:=[_,_,_,_]) _ A
 obtain ⟨h',c',q1,q2⟩:=yvj (v:=v) (bf:=bf) A1 (fun h1 a=>hb h1 _ a) hr
 refine ⟨h',c',?_,q2.sub ((((((List.sublist_append_right _ _).cons₂ _).cons₂ _).cons₂ _).cons₂ _).cons₂ _ |>.cons₂ _)⟩
 have ea:yiG (.loc g.en) [.tup [.int (q.i:Nat),.int (q.nth:Nat),en,.lst L,.lst laid,.lst (bf.map .int)]] h=some (.non,h.set g.en (.lst (q.en++[yzp q en L laid bf]))):=ymL een (by omega)
 have b1:=hb _ _ A
 have sw:=yBT (A.get 8 rfl) (A.get 10 rfl) hs
 unfold ycD
 rw [yp]
 show ob (ym _ _ [.val (.loc g.H),.val (.int (q.i:Nat)),.val en,.val (.lst laid),.val v,.no] h) fnK=_
 simp_all? only [yhn,f3,i2,f4,ydg een,k3,k6,r3,yY (m:="saw") (A.get 8 rfl) (by rfl'),sw,b1,ea,yY (m:="go_on") (A1.get 5 rfl) (by rfl'),q1]
theorem yps:(("lay":Str) = "take")=False:=eq_false (by rfl')
theorem ypt:(("lay":Str) = "wait")=False:=eq_false (by rfl')
theorem ync:(("lay":Str) = "throw")=False:=eq_false (by rfl')
end
def ybI (p:Nat×Int):PV:=.tup [.int (p.1:Nat),.int p.2]
def ylS:List Int->List (Nat×Int)->List Int
 | bx,[]=>bx
 | bx,p::r=>ylS (bx.set p.1 p.2) r
def ylT:List Int->List (Nat×Int)->List Int
 | sp,[]=>sp
 | sp,p::r=>ylT (sp.set p.1 (sp.getD p.1 0+1)) r
theorem you:∀ (l:List (Nat×Int)) (bx:List Int),(ylS bx l).length=bx.length
 | [],_=>rfl
 | p::r,bx=>by show (ylS (bx.set p.1 p.2) r).length=_;rw [you r,length_set]
theorem yov:∀ (l:List (Nat×Int)) (bx:List Int),(ylT bx l).length=bx.length
 | [],_=>rfl
 | p::r,bx=>by show (ylT (bx.set p.1 (bx.getD p.1 0+1)) r).length=_;rw [yov r,length_set]
section
variable {h:AH}{w:Int}{rows rows':List PV}{c:Lc}{s s':RS}{r:Rw}{g:HC}{q:HQ}{own:List (Nat×Nd)}{rn:Nat}
theorem yko {n:Nat}{xs:List Int}{k:Nat}{v:Int}{eo ei ev:XE}{ρ:PSt}(e1:ev ρ h=some (.int v,h)) (e2:eo ρ h=some (.loc n,h)) (e3:ei ρ h=some (.int (k:Nat),h)) (e:h[n]?=some (.lst (xs.map .int))) (hk:k<xs.length):ygj eo ei ev ρ h=some (.nx ρ,h.set n (.lst ((xs.set k v).map .int))):=by
 have e':ixN (xs.map PV.int).length (k:Nat)=some k:=by
  unfold ixN
  simp [hk]
 unfold ygj
 rw [e1,ybK,e2,ybK,e3,ybK]
 simp only [e,e']
 rw [map_set]
theorem yyS {G:XG}{S:XS}{x:PV}{xs:List PV}{ρ ρ1 ρ2:PSt}{h1:AH}(e1:G x ρ=some ρ1) (e2:S ρ1 h=some (.nx ρ2,h1)):ygb G S (x::xs) ρ h=ygb G S xs ρ2 h1:=by
 show (G x ρ).bind _=_
 rw [e1,bind_some,e2]
 rfl
theorem yow {v1 v2 v3:PVar}:∀ (l:List (Nat×Int)) (q:HQ) (h:AH) (v4 v5:PVar),At h (HL g rn w q own)->(∀ p∈l,p.1<q.bx.length)->q.sp.length=q.bx.length ->
  ∃ h' v4' v5',ygb (yu 4) ldB (l.map ybI) [.val (.loc g.H),v1,v2,v3,v4,v5] h=some (.nx [.val (.loc g.H),v1,v2,v3,v4',v5'],h')/\At h' (HL g rn w { q with bx:=ylS q.bx l,sp:=ylT q.sp l } own)
 | [],q,h,v4,v5,A,_,_=>⟨h,v4,v5,rfl,A⟩
 | p::l,q,h,v4,v5,A,hb,hs=>by
  have hp:=hb p mem_cons_self
  obtain ⟨g1,g2,g3,g4⟩:=yeF (A.get 0 rfl)
  have A1:At (h.set g.nu (.lst ((q.bx.set p.1 p.2).map .int))) (HL g rn w { q with bx:=q.bx.set p.1 p.2 } own):=At.upd (a:=[_]) _ A
  have A2:At ((h.set g.nu (.lst ((q.bx.set p.1 p.2).map .int))).set g.ma (.lst ((q.sp.set p.1 (q.sp.getD p.1 0+1)).map .int))) (HL g rn w { q with bx:=q.bx.set p.1 p.2,sp:=q.sp.set p.1 (q.sp.getD p.1 0+1) } own):=At.upd (a:=[_,_]) _ A1
  obtain ⟨t1,t2,t3,t4⟩:=yeF (A1.get 0 rfl)
  have s1:=yko (h:=h) (xs:=q.bx) (k:=p.1) (v:=p.2) (eo:=ybm [15] "numbers" (yf 0)) (ei:=yf 5) (ev:=xOp (yce) (yf 4) (xC (.int 1))) (ρ:=[.val (.loc g.H),v1,v2,v3,.val (ybI p),.val (.int (p.1:Nat))]) rfl (by simp_all? only [g1]) rfl (A.get 1 rfl) hp
  have s2:=yko (h:=h.set g.nu (.lst ((q.bx.set p.1 p.2).map .int))) (xs:=q.sp) (k:=p.1) (v:=q.sp.getD p.1 0+1) (eo:=ybm [15] "marks" (yf 0)) (ei:=yf 5) (ev:=xOp yhk (xOp (ycj) (ybm [15] "marks" (yf 0)) (yf 5)) (xC (.int 1))) (ρ:=[.val (.loc g.H),v1,v2,v3,.val (ybI p),.val (.int (p.1:Nat))]) (by
   have i3:=ygv (A1.get 2 rfl) (show p.1<q.sp.length by omega)
   simp_all? only [t2,i3]) (by simp_all? only [t2]) rfl (A1.get 2 rfl) (by omega)
  have i0:∀ h,yce (ybI p) (.int 0) h=some (.int (p.1:Nat),h):=fun _=>rfl
  have bd:ldB [.val (.loc g.H),v1,v2,v3,.val (ybI p),v5] h=some (.nx [.val (.loc g.H),v1,v2,v3,.val (ybI p),.val (.int (p.1:Nat))],(h.set g.nu (.lst ((q.bx.set p.1 p.2).map .int))).set g.ma (.lst ((q.sp.set p.1 (q.sp.getD p.1 0+1)).map .int))):=by
   unfold ldB
   simp_all? only [i0,s1,s2]
  obtain ⟨h',a,b,e1,e2⟩:=yow (v1:=v1) (v2:=v2) (v3:=v3) l _ _ (.val (ybI p)) (.val (.int (p.1:Nat))) A2 (fun x hx=>by show x.1<(q.bx.set p.1 p.2).length;rw [length_set];exact hb x (mem_cons_of_mem _ hx)) (by show (q.sp.set _ _).length=(q.bx.set _ _).length;rw [length_set,length_set];exact hs)
  refine ⟨h',a,b,?_,e2⟩
  show ygb _ _ (ybI p::l.map ybI) _ h=_
  rw [yyS (by kernel_rfl!) bd]
  exact e1
theorem yvk {o st b l0:Nat}{d:List Key×List PV}{ks:List Key}{xs L:List PV}(G:LG h o st b [l0] [d] ks xs) (hs:sortI d.1 d.2=some L):yed [.loc o] h=some (.lst L,h):=by
 have e1:=ygu G.ob
 have e2:=G.st
 have e3:h[l0]?=some (.dct d.1 d.2):=G.dl.1
 have i2:ycj (.loc st) (.int 0) h=some (.loc l0,h):=by unfold ycj;simp only [e2];rfl
 unfold yed
 rw [yp]
 show ob (ym _ _ [.val (.loc o),.no] h) fnK=_
 simp_all? only [e1,i2]
 unfold yfE
 symm
 unfold yjQ
 simp only [e3,hs]
 rfl
theorem yBU {L:List PV}{l:List (Nat×Int)}{d:List Key×List PV}(R:RR w rows (HL g c.rn w q own) h c s) (hi:q.cw[q.i]?=some q.hd) (ed:s.dd=[d]) (hd:sortI d.1 d.2=some (l.map ybI)) (hb:∀ p∈l,p.1<q.bx.length) (hsp:q.sp.length=q.bx.length) (hL:sortI (sK s.sn) (sA s.sn)=some L) (hr:Due q.ds (q.nth+1) rows') (hl:q.en.length<1000) :
  ∃ h1 c',(∀ h2,ybl [.loc g.H] h1=some (.non,h2)->ycE [.loc g.H,.int (q.i:Nat)] h=some (.non,h2))/\RR w rows' (HL g c'.rn w { q with bx:=ylS q.bx l,sp:=ylT q.sp l,en:=q.en++[yzp q (.tup [.str "done"]) L (l.map ybI) s.hs],nth:=q.nth+1,bf:=s.hs } own) h1 c' (S0 s.hs):=by
 have A:=R.hl
 obtain ⟨l0,el⟩:∃ l0,c.ly=[l0]:=by
  have:=R.len
  rw [ed] at this
  exact List.length_eq_one_iff.mp this
 have G:=R.lg
 rw [el,ed] at G
 have wr:=yvk G hd
 obtain ⟨g1,g2,g3,g4⟩:=yeF (A.get 0 rfl)
 obtain ⟨k1,k2,k3,k4,k5,k6⟩:=ygM (A.get 5 rfl)
 obtain ⟨r1,r2,r3,r4,r5,r6,r7⟩:=ydo R.run
 have i2:=yvg A hi
 obtain ⟨h3,v4,v5,lp,A2⟩:=yow (v1:=.val (.int (q.i:Nat))) (v2:=.val (.loc c.rn)) (v3:=.val (.lst (l.map ybI))) l q h .no .no A hb hsp
 obtain ⟨h',c',q1,q2⟩:=ynb (en:=.tup [.str "done"]) (v:=.loc c.hl) (laid:=l.map ybI) (bf:=s.hs) A2 hi hL (fun h1 q' a=>yfD (a.get 7 rfl)) hr hl
 refine ⟨h',c',fun h2 wk=>?_,q2⟩
 obtain ⟨u1,u2,u3,u4,u5,u6,u7⟩:=ydo (A2.get 6 rfl)
 have i7:xIL (yf 3) [.val (.loc g.H),.val (.int (q.i:Nat)),.val (.loc c.rn),.val (.lst (l.map ybI)),.no,.no] h=some (l.map ybI,h):=ymR rfl
 unfold ycE
 rw [yp]
 show ob (ym _ (ym _ (ym (ymz (xIL (yf 3)) _ ldB) _)) [.val (.loc g.H),.val (.int (q.i:Nat)),.no,.no,.no,.no] h) fnK=_
 simp_all? only [yhn,g3,i2,k6,r3,yY (m:="wrote") R.lg.ob (by rfl'),wr,i7,lp,u1,yY (m:="end_deed") (A2.get 0 rfl) (by rfl'),q1,yY (m:="wake_stale") (q2.rest.get 0 rfl) (by rfl'),wk]
theorem ysn {L:List PV}{l:List (Nat×Int)}{d:List Key×List PV}(R:RR w rows (HL g c.rn w q own) h c s) (hi:q.cw[q.i]?=some q.hd) (er:rows[s.t]?=some (yW .lay)) (hw:1<=w) (hn:q.nth<q.ds.length) (hs:q.sl=false) (ok:OkS s) (F:NF q.sp.length s) (fr:stB s.sn q.sp=false) (ed:s.dd=[d]) (hd:sortI d.1 d.2=some (l.map ybI)) (hb:∀ p∈l,p.1<q.bx.length) (hsp:q.sp.length=q.bx.length) (hL:sortI (sK s.sn) (sA s.sn)=some L) (hr:Due q.ds (q.nth+1) rows') (hl:q.en.length<1000) :
  ∃ h1 c',(∀ h2,ybl [.loc g.H] h1=some (.non,h2)->ybs [.loc g.H,.int (q.i:Nat)] h=some (.tup [.str "done",.int s.t],h2))/\RR w rows' (HL g c'.rn w { q with bx:=ylS q.bx l,sp:=ylT q.sp l,en:=q.en++[yzp q (.tup [.str "done"]) L (l.map ybI) s.hs],nth:=q.nth+1,bf:=s.hs } own) h1 c' (S0 s.hs):=by
 obtain ⟨h',c',q1,q2⟩:=yBU R hi ed hd hb hsp hL hr hl
 refine ⟨h',c',fun h2 wk=>?_,q2⟩
 have q1:=q1 h2 wk
 rw [ysm R hi er hw hn hs ok trivial rfl F fr]
 have A:=R.rest
 obtain ⟨f1,f2,f3,f4,f5,f6⟩:=ygM (A.get 5 rfl)
 obtain ⟨g1,g2,g3,g4⟩:=yeF (A.get 0 rfl)
 have i2:=yvg A hi
 have i4:∀ h,yce (yW .lay) (.int 0) h=some (.str "lay",h):=fun _=>rfl
 unfold ybh
 rw [yp]
 show ob (ob (ym _ _ [.val (.loc g.H),.val (.int (q.i:Nat)),.val (.int s.t),.no,.no,.no] h) fnK) _=_
 simp_all? only [yhn,g3,i2,f6,yY (m:="row") R.run (by rfl'),ysa R.run rfl er,i4,yps,ypt,ync,yY (m:="lay_down") (A.get 0 rfl) (by rfl'),q1]
end
structure HD where
 ds:List PV
 nth:Nat
 sl:Bool
 bf:List Int
 rows:List PV
 s:RS
def HN (w:Int) (a:Nat×Lc) (x:HD) (m:List (Nat×Nd)):List (Nat×Nd):=(a.1,ydR x.ds w x.nth x.sl x.bf a.2.rn)::RM w x.rows a.2 x.s m
def CR (w:Int):List (Nat×Lc)->List HD->List (Nat×Nd)->List (Nat×Nd)
 | a::as,x::xs,m=>HN w a x (CR w as xs m)
 | _,_,m=>m
def LyOk:List (Nat×Lc)->List HD->Prop
 | a::as,x::xs=>a.2.ly.length=x.s.dd.length/\LyOk as xs
 | [],[]=>True
 | _,_=>False
noncomputable def H5 (g:HC) (bx sp:List Int) (en:List PV) (cw:List Nat):List (Nat×Nd):=[(g.H,ypr g.nu g.ma g.cr g.en),(g.nu,.lst (bx.map .int)),(g.ma,.lst (sp.map .int)),(g.cr,.lst (cw.map .loc)),(g.en,.lst en)]
structure HH (h:AH) (g:HC) (w:Int) (bx sp:List Int) (en:List PV) (as:List (Nat×Lc)) (xs:List HD) (own:List (Nat×Nd)):Prop where
 at_:At h (H5 g bx sp en (as.map (·.1))++CR w as xs own)
 ly:LyOk as xs
def qOf (bx sp:List Int) (en:List PV) (cw:List Nat) (i hd:Nat) (x:HD):HQ:=⟨bx,sp,en,cw,i,hd,x.ds,x.nth,x.sl,x.bf⟩
section
variable {h:AH}{w:Int}{g:HC}{bx sp:List Int}{en:List PV}{as as1 as2:List (Nat×Lc)}{xs xs1 xs2:List HD}{a:Nat×Lc}{x x':HD}{own m:List (Nat×Nd)}{c:Lc}
theorem ygO:HN w a x m=HN w a x []++m:=by
 unfold HN
 rw [yim,yim,append_nil]
 rfl
theorem ykp:∀ {as1:List (Nat×Lc)}{xs1:List HD},as1.length=xs1.length->(CR w (as1++a::as2) (xs1++x::xs2) m).Perm (HN w a x (CR w as1 xs1 (CR w as2 xs2 m)))
 | [],[],_=>.refl _
 | b::as1,y::xs1,e=>by
  show (HN w b y (CR w (as1++a::as2) (xs1++x::xs2) m)).Perm (HN w a x (HN w b y (CR w as1 xs1 (CR w as2 xs2 m))))
  have ih:=ykp (as1:=as1) (xs1:=xs1) (by simpa using e)
  rw [ygO (a:=b),ygO (a:=a) (m:=HN w b y _),ygO (a:=b) (m:=CR w as1 xs1 _)]
  refine (ih.append_left _).trans ?_
  rw [ygO (a:=a)]
  exact List.perm_append_comm_assoc _ _ _
theorem LyOk.split:∀ {as1:List (Nat×Lc)}{xs1:List HD},as1.length=xs1.length->(LyOk (as1++a::as2) (xs1++x::xs2) ↔ LyOk as1 xs1/\a.2.ly.length=x.s.dd.length/\LyOk as2 xs2)
 | [],[],_=>⟨fun k=>⟨trivial,k⟩,fun k=>k.2⟩
 | b::as1,y::xs1,e=>by
  have ih:=LyOk.split (as1:=as1) (xs1:=xs1) (by simpa using e)
  show _/\LyOk (as1++a::as2) (xs1++x::xs2) ↔ (_/\LyOk as1 xs1)/\_
  rw [ih,and_assoc]
theorem yBV {rows:List PV}{s:RS}{rn:Nat}{q:HQ}:(H5 g q.bx q.sp q.en q.cw++((q.hd,ydR q.ds w q.nth q.sl q.bf rn)::RM w rows c s m)).Perm (RM w rows c s (HL g rn w q m)):=by
 rw [yim,yim]
 refine .trans ?_ (show (H5 g q.bx q.sp q.en q.cw++(EX c w rows s++((q.hd,ydR q.ds w q.nth q.sl q.bf rn)::m))).Perm (EX c w rows s++HL g rn w q m) from List.perm_append_comm_assoc _ _ _)
 exact (List.perm_middle.symm).append_left _
theorem HH.foc (X:HH h g w bx sp en (as1++a::as2) (xs1++x::xs2) own) (l:as1.length=xs1.length):RR w x.rows (HL g a.2.rn w (qOf bx sp en ((as1++a::as2).map (·.1)) as1.length a.1 x) (CR w as1 xs1 (CR w as2 xs2 own))) h a.2 x.s:=by
 refine ⟨?_,((LyOk.split l).mp X.ly).2.1⟩
 exact X.at_.perm (((ykp l).append_left _).trans (yBV (q:=qOf bx sp en _ _ _ _))).symm
theorem HH.unf {bx' sp':List Int}{en':List PV}(L:LyOk (as1++a::as2) (xs1++x::xs2)) (l:as1.length=xs1.length) (R:RR w x'.rows (HL g c.rn w (qOf bx' sp' en' ((as1++a::as2).map (·.1)) as1.length a.1 x') (CR w as1 xs1 (CR w as2 xs2 own))) h c x'.s):HH h g w bx' sp' en' (as1++(a.1,c)::as2) (xs1++x'::xs2) own:=by
 obtain ⟨l1,l2,l3⟩:=(LyOk.split l).mp L
 refine ⟨?_,(LyOk.split l).mpr ⟨l1,R.len,l3⟩⟩
 have e:(as1++(a.1,c)::as2).map (·.1)=(as1++a::as2).map (·.1):=by simp
 rw [e]
 exact R.at_.perm (((ykp l).append_left _).trans (yBV (q:=qOf bx' sp' en' _ _ _ _)))
theorem yvl:((as1++a::as2).map (·.1))[as1.length]?=some a.1:=by simp
theorem yiK:(("ended":Str) = "asleep")=False:=eq_false (by rfl')
theorem yiL:(("awake":Str) = "asleep")=False:=eq_false (by rfl')
theorem yBW (X:HH h g w bx sp en (as1++a::as2) (xs1++x::xs2) own) (l:as1.length=xs1.length) (es:x.sl=false):wkB [.val (.loc g.H),.val (.loc a.1)] h=some (.nx [.val (.loc g.H),.val (.loc a.1)],h):=by
 have R:=X.foc l
 have A:=R.rest
 have st:=yho A
 have hh:h[a.1]?=some (ydR x.ds w x.nth x.sl x.bf a.2.rn):=A.get 5 rfl
 by_cases e:x.nth=x.ds.length
 .have st':stN (qOf bx sp en ((as1++a::as2).map (·.1)) as1.length a.1 x) = "ended":=if_pos e
  rw [st'] at st
  unfold wkB
  dsimp only [qOf] at st
  simp_all? only [yhn,yY (m:="state") hh (by rfl'),st,yiK]
 .have st':stN (qOf bx sp en ((as1++a::as2).map (·.1)) as1.length a.1 x) = "awake":=(if_neg e).trans (if_neg (by rw [show (qOf bx sp en ((as1++a::as2).map (·.1)) as1.length a.1 x).sl=x.sl from rfl,es];decide))
  rw [st'] at st
  unfold wkB
  dsimp only [qOf] at st
  simp_all? only [yhn,yY (m:="state") hh (by rfl'),st,yiL]
theorem LyOk.len:∀ {as:List (Nat×Lc)}{xs:List HD},LyOk as xs->as.length=xs.length
 | [],[],_=>rfl
 | _::_,_::_,k=>by rw [length_cons,length_cons,LyOk.len k.2]
theorem LyOk.app:∀ {as1 as2:List (Nat×Lc)}{xs1 xs2:List HD},as1.length=xs1.length->LyOk (as1++as2) (xs1++xs2)->LyOk as2 xs2
 | [],_,[],_,_,k=>k
 | _::_,_,_::_,_,e,k=>LyOk.app (by simpa using e) k.2
theorem yso:∀ (as2:List (Nat×Lc)) (xs2:List HD) (as1:List (Nat×Lc)) (xs1:List HD) (v:PVar),HH h g w bx sp en (as1++as2) (xs1++xs2) own->as1.length=xs1.length->(∀ x∈xs2,x.sl=false) ->
  ∃ v',yph g.cr false (yu 1) wkB as2.length as1.length [.val (.loc g.H),v] h=some (.nx [.val (.loc g.H),v'],h)
 | [],xs2,as1,xs1,v,X,l,_=>by
  have e:h[g.cr]?=some (.lst (((as1++([]:List (Nat×Lc))).map (fun a=>a.1)).map .loc)):=X.at_.get 3 rfl
  refine ⟨v,?_⟩
  show yph g.cr false (yu 1) wkB 0 as1.length _ h=_
  unfold yph
  simp only [e]
  rw [if_pos (by simp)]
 | a::as2,[],as1,xs1,v,X,l,_=>by
  have l2:=(LyOk.app l X.ly).len
  cases l2
 | a::as2,x::xs2,as1,xs1,v,X,l,hx=>by
  have e:h[g.cr]?=some (.lst (((as1++a::as2).map (·.1)).map .loc)):=X.at_.get 3 rfl
  have q1:=yBW X l (hx x mem_cons_self)
  obtain ⟨v',q2⟩:=yso as2 xs2 (as1++[a]) (xs1++[x]) (.val (.loc a.1)) (by rw [append_assoc,append_assoc];exact X) (by simp [l]) (fun y hy=>hx y (mem_cons_of_mem _ hy))
  refine ⟨v',?_⟩
  rw [length_append] at q2
  have y1:yu 1 (.loc a.1) [.val (.loc g.H),v]=some [.val (.loc g.H),.val (.loc a.1)]:=rfl
  have ei:(((as1++a::as2).map (·.1)).map PV.loc)[as1.length]?=some (.loc a.1):=by rw [getElem?_map,yvl];rfl
  show yph g.cr false (yu 1) wkB (as2.length+1) as1.length _ h=_
  unfold yph
  simp only [e,Bool.false_eq_true,if_false,ei,y1,bind_some,q1,ybK]
  exact q2
theorem yyT (X:HH h g w bx sp en as xs own) (hx:∀ x∈xs,x.sl=false):ybl [.loc g.H] h=some (.non,h):=by
 obtain ⟨v',q1⟩:=yso as xs [] [] .no X rfl hx
 obtain ⟨g1,g2,g3,g4⟩:=yeF (X.at_.get 0 rfl)
 have e:h[g.cr]?=some (.lst ((as.map (·.1)).map .loc)):=X.at_.get 3 rfl
 unfold ybl
 rw [yp]
 show ob (yrd false _ (yu 1) wkB [.val (.loc g.H),.no] h) fnK=_
 unfold yrd
 simp_all? only [g3]
 simp only [e]
 rw [length_map,length_map]
 exact (congrArg (fun o=>ob o fnK) q1).trans rfl
end
section
variable {h:AH}{w:Int}{g:HC}{bx sp:List Int}{en:List PV}{as as1 as2:List (Nat×Lc)}{xs xs1 xs2:List HD}{a:Nat×Lc}{x x':HD}{own m:List (Nat×Nd)}{c:Lc}{s s':RS}{r:Rw}
theorem ywk {rws:List Rw}{t:Nat}(er:rws[t]?=some r):(rws.map yW)[t]?=some (yW r):=by rw [getElem?_map,er];rfl
theorem yEP {rws:List Rw}(X:HH h g bx.length bx sp en (as1++a::as2) (xs1++x::xs2) own) (l:as1.length=xs1.length) (h1:1<=bx.length) (hr:x.rows=rws.map yW) (hn:x.nth<x.ds.length) (hs:x.sl=false) (er:rws[x.s.t]?=some r) (ok:OkS x.s) (okr:okR r) (hlk:ysj x.s r=false) (e:ykn bx.length r x.s=some s') :
  ∃ h' c',ybs [.loc g.H,.int (as1.length:Nat)] h=some (.tup [.str "gone",.int x.s.t],h')/\HH h' g bx.length bx sp en (as1++(a.1,c')::as2) (xs1++{ x with s:=s' }::xs2) own:=by
 have R:=X.foc l
 obtain ⟨h',c',q1,R'⟩:=ysl (q:=qOf bx sp en _ as1.length a.1 x) R (by exact yvl) (by rw [hr];exact ywk er) (by omega) hn hs ok okr hlk e
 exact ⟨h',c',q1,HH.unf (x':={ x with s:=s' }) X.ly l R'⟩
def stX (x:HD):Str:=if x.nth=x.ds.length then "ended" else if x.sl=true then "asleep" else "awake"
noncomputable def yFR (i:Nat) (x:HD) (en:PV) (L laid:List PV) (bf:List Int):PV:=.tup [.int (i:Nat),.int (x.nth:Nat),en,.lst L,.lst laid,.lst (bf.map .int)]
theorem yEQ {rws:List Rw}{rows' L:List PV}{ls:List (Nat×Int)}{d:List Key×List PV}(X:HH h g bx.length bx sp en (as1++a::as2) (xs1++x::xs2) own) (l:as1.length=xs1.length) (hbs:sp.length=bx.length) (h1:1<=bx.length) (hr:x.rows=rws.map yW) (hn:x.nth<x.ds.length) (hs:x.sl=false) (F:NF bx.length x.s) (fr:stB x.s.sn sp=false) (er:rws[x.s.t]?=some .lay) (ok:OkS x.s) (ed:x.s.dd=[d]) (hd:sortI d.1 d.2=some (ls.map ybI)) (hb:∀ p∈ls,p.1<bx.length) (hL:sortI (sK x.s.sn) (sA x.s.sn)=some L) (hdu:Due x.ds (x.nth+1) rows') (hl:en.length<1000) (ho:∀ y∈xs1++xs2,y.sl=false) :
  ∃ h' c',ybs [.loc g.H,.int (as1.length:Nat)] h=some (.tup [.str "done",.int x.s.t],h')/\HH h' g bx.length (ylS bx ls) (ylT sp ls) (en++[yFR as1.length x (.tup [.str "done"]) L (ls.map ybI) x.s.hs]) (as1++(a.1,c')::as2) (xs1++{ x with nth:=x.nth+1,bf:=x.s.hs,rows:=rows',s:=S0 x.s.hs }::xs2) own:=by
 have R:=X.foc l
 obtain ⟨h2,c',q1,R'⟩:=ysn (q:=qOf bx sp en _ as1.length a.1 x) R (by exact yvl) (by rw [hr];exact ywk er) (by omega) hn hs ok (show NF sp.length x.s by rw [hbs];exact F) fr ed hd hb hbs hL hdu hl
 have X':=HH.unf (x':={ x with nth:=x.nth+1,bf:=x.s.hs,rows:=rows',s:=S0 x.s.hs }) X.ly l R'
 have q2:=yyT X' (fun y hy=>by
  rcases List.mem_append.mp hy with z|z
  .exact ho y (mem_append_left _ z)
  .rcases mem_cons.mp z with rfl|z
   .exact hs
   .exact ho y (mem_append_right _ z))
 exact ⟨h2,c',q1 h2 q2,X'⟩
theorem yeH:∀ {as:List (Nat×Lc)}{xs:List HD}{m:List (Nat×Nd)},CR w as xs m=CR w as xs []++m
 | [],_,_=>by unfold CR;rfl
 | _::_,[],_=>by unfold CR;rfl
 | a::as,x::xs,m=>by
  show HN w a x (CR w as xs m)=HN w a x (CR w as xs [])++m
  rw [ygO,ygO (m:=CR w as xs []),yeH,append_assoc]
theorem HH.upd {o1 o2:List (Nat×Nd)}{n:Nat}{d:Nd}(d':Nd) (X:HH h g w bx sp en as xs (o1++(n,d)::o2)):HH (h.set n d') g w bx sp en as xs (o1++(n,d')::o2):=by
 refine ⟨?_,X.ly⟩
 have A:=X.at_
 rw [yeH (m:=_++_::_),<- append_assoc,<- append_assoc] at A
 rw [yeH (m:=_++_::_),<- append_assoc,<- append_assoc]
 exact At.upd d' A
theorem HH.new (d:Nd) (X:HH h g w bx sp en as xs own):HH (h++[d]) g w bx sp en as xs ((h.length,d)::own):=by
 refine ⟨?_,X.ly⟩
 have A:=X.at_
 rw [yeH,<- append_assoc] at A
 rw [yeH,<- append_assoc]
 exact At.new d A
theorem HH.get (X:HH h g w bx sp en as xs own) (i:Nat) {n:Nat}{d:Nd}(e:own[i]?=some (n,d)):h[n]?=some d:=by
 have A:=X.at_
 rw [yeH,<- append_assoc] at A
 exact A.2 (n,d) (mem_append_right _ (mem_of_getElem? e))
end
section
variable {h:AH}{w:Int}{g:HC}{bx sp:List Int}{en:List PV}{as as1 as2:List (Nat×Lc)}{xs xs1 xs2:List HD}{a:Nat×Lc}{x x':HD}{own m:List (Nat×Nd)}
def Shp (e:PV):Prop:=∃ a b c x y z,e=.tup [a,b,c,.lst x,.lst y,.lst z]
theorem ysp {n:Nat}{en:List PV}{E:XE}{inn:PV->PSt}(e:h[n]?=some (.lst en)) (hE:∀ x∈en,E (inn x) h=some (x,h)):∀ k i,i+k=en.length->yuv n E inn k i h=some (en.drop i,h)
 | 0,i,hi=>by
  unfold yuv
  simp only [e]
  rw [if_pos (by omega),List.drop_of_length_le (by omega)]
 | k+1,i,hi=>by
  have hlt:i<en.length:=by omega
  unfold yuv
  simp only [e,List.getElem?_eq_getElem hlt]
  rw [hE _ (getElem_mem hlt),ybK,ysp e hE k (i+1) (by omega),ybK,List.drop_eq_getElem_cons hlt]
theorem ywl (X:HH h g w bx sp en as xs own):ycP [.loc g.H] h=some (.lst (bx.map .int),h):=by
 obtain ⟨f1,f2,f3,f4⟩:=yeF (X.at_.get 0 rfl)
 unfold ycP
 rw [yp]
 show ob (yO _ [.val (.loc g.H)] h) fnK=_
 simp_all? only [f1,yfD (X.at_.get 1 rfl)]
theorem yox (X:HH h g w bx sp en as xs own) (hs:∀ e∈en,Shp e) (hl:en.length<1000):ycm [.loc g.H] h=some (.lst en,h):=by
 obtain ⟨f1,f2,f3,f4⟩:=yeF (X.at_.get 0 rfl)
 have e:h[g.en]?=some (.lst en):=X.at_.get 4 rfl
 unfold ycm
 rw [yp]
 show ob (yO (xFz (ylr _ _ _)) [.val (.loc g.H)] h) fnK=_
 rw [ytZ,yCw]
 unfold ylr
 simp_all? only [f4]
 simp only [e]
 rw [if_pos (by omega),ysp e (fun x hx=>?_) en.length 0 (by omega)]
 .rfl
 .obtain ⟨a,b,c,x,y,z,rfl⟩:=hs x hx
  rfl
theorem ysq (X:HH h g w bx sp en as xs own):ycC [.loc g.H] h=some (.lst (sp.map .int),h):=by
 obtain ⟨f1,f2,f3,f4⟩:=yeF (X.at_.get 0 rfl)
 unfold ycC
 rw [yp]
 show ob (yO _ [.val (.loc g.H)] h) fnK=_
 simp_all? only [f2,yfD (X.at_.get 2 rfl)]
variable (X:HH h g w bx sp en (as1++a::as2) (xs1++x::xs2) own) (l:as1.length=xs1.length)
include X l
theorem yER:ybN [.loc g.H,.int (as1.length:Nat)] h=some (.loc a.1,h)/\h[a.1]?=some (ydR x.ds w x.nth x.sl x.bf a.2.rn)/\h[g.H]?=some (ypr g.nu g.ma g.cr g.en) :=
 ⟨ygx (q:=qOf bx sp en _ as1.length a.1 x) (X.foc l).rest (by exact yvl),(X.foc l).rest.get 5 rfl,(X.foc l).rest.get 0 rfl⟩
theorem yBX:ycQ [.loc g.H,.int (as1.length:Nat)] h=some (.str (stX x),h):=by
 obtain ⟨q1,q2,q3⟩:=yER X l
 have st:ybX [.loc a.1] h=some (.str (stX x),h):=yho (X.foc l).rest
 unfold ycQ
 rw [yp]
 show ob (yO _ [.val (.loc g.H),.val (.int (as1.length:Nat))] h) fnK=_
 simp_all? only [yhn,yY (m:="hand_at") q3 (by rfl'),q1,yY (m:="state") q2 (by rfl'),st]
end
structure Pc where
 w:Nat
 b:Nat
 n:Int
noncomputable def pcT (p:Pc):List T:=match p.w with
 | 0=>[.either [.let_ "a" p.b,.let_ "b" p.n,.put "a" "b"] [.wait]]
 | 1=>[.either [.let_ "a" p.b,.let_ "b" p.n,.put "a" "b",.wait] []]
 | 2=>[.try_ [.let_ "a" p.b,.let_ "b" p.n,.put "a" "b"] "low" "c" [.throw "low" "c"]]
 | 3=>[.try_ [.let_ "a" p.b,.let_ "b" p.n,.put "a" "b",.throw "low" "b"] "low" "c" []]
 | 4=>[.try_ [.either [.let_ "a" p.b,.let_ "b" p.n,.put "a" "b",.throw "low" "b"] []] "low" "c" []]
 | _=>[.let_ "a" p.b,.let_ "b" p.n,.put "a" "b"]
noncomputable def pcR (p:Pc) (f:Nat):List Rw:=match p.w with
 | 0=>[.either (f+6:Nat),.let_ "a" p.b,.let_ "b" p.n,.put "a" "b",.settle,.jump (f+7:Nat),.wait]
 | 1=>[.either (f+7:Nat),.let_ "a" p.b,.let_ "b" p.n,.put "a" "b",.wait,.settle,.jump (f+7:Nat)]
 | 2=>[.guard "low" "c" (f+6:Nat),.let_ "a" p.b,.let_ "b" p.n,.put "a" "b",.settle,.jump (f+7:Nat),.throw "low" "c"]
 | 3=>[.guard "low" "c" (f+7:Nat),.let_ "a" p.b,.let_ "b" p.n,.put "a" "b",.throw "low" "b",.settle,.jump (f+7:Nat)]
 | 4=>[.guard "low" "c" (f+10:Nat),.either (f+8:Nat),.let_ "a" p.b,.let_ "b" p.n,.put "a" "b",.throw "low" "b",.settle,.jump (f+8:Nat),.settle,.jump (f+10:Nat)]
 | _=>[.let_ "a" p.b,.let_ "b" p.n,.put "a" "b"]
def pcL (w:Nat):Nat:=match w with|0=>7|1=>7|2=>7|3=>7|4=>10|_=>3
def goR (w:Int) (rws:List Rw):Nat->RS->RS->Prop
 | 0,s,s'=>s=s'
 | k+1,s,s'=>∃ r s1,rws[s.t]?=some r/\okR r/\OkS s/\ysj s r=false/\ykn w r s=some s1/\goR w rws k s1 s'
theorem yft {w:Int}{rws:List Rw}{b:Nat}{s2:RS}:∀ {a:Nat}{s s1:RS},goR w rws a s s1->goR w rws b s1 s2->goR w rws (a+b) s s2
 | 0,s,s1,e,f=>by
  cases e
  rw [Nat.zero_add]
  exact f
 | a+1,s,s1,⟨r,t,h1,h2,h3,h4,h5,h6⟩,f=>by
  rw [Nat.add_right_comm]
  exact ⟨r,t,h1,h2,h3,h4,h5,yft h6 f⟩
abbrev DK:=List Key×List PV
def pcD (p:Pc) (d:DK):DK:=match p.w with|1=>d|3=>d|4=>d|_=>ych d.1 d.2 (.inl (p.b:Int)) (.int p.n)
def pcS (p:Pc) (hs:List Int):List Int:=match p.w with|1=>hs|3=>hs.set 2 p.n|4=>hs.set 2 p.n|_=>(hs.set 0 p.b).set 1 p.n
def pcK (w:Nat):Nat:=match w with|0=>6|1=>5|2=>6|3=>5|4=>6|_=>3
section
variable {W:Nat}{rws:List Rw}{f:Nat}{d:DK}
theorem yBY:("a":Str)∈SL/\("b":Str)∈SL/\("c":Str)∈SL:=by rfl'
theorem yES:sx "a" = 0/\sx "b" = 1/\sx "c" = 2:=by rfl'
theorem ywm {hs:List Int}{t:Nat}{sd:List (Rw×List Int)}{dd:List DK}{n:Int}{w:Int}:ykn w (.let_ "a" n) ⟨t,hs,sd,dd,[]⟩=some ⟨t+1,hs.set 0 n,sd,dd,[]⟩/\ykn w (.let_ "b" n) ⟨t,hs,sd,dd,[]⟩=some ⟨t+1,hs.set 1 n,sd,dd,[]⟩:=by
 obtain ⟨e1,e2,_⟩:=yES
 constructor
 .show some (RS.mk (t+1) (hs.set (sx "a") n) sd dd [])=_
  rw [e1]
 .show some (RS.mk (t+1) (hs.set (sx "b") n) sd dd [])=_
  rw [e2]
theorem ygy {hs:List Int}{sd:List (Rw×List Int)}{dd:List DK}{e:DK}{b:Nat}{n:Int}(hb:b<W) (hn:0<=n/\n<B64) (hW:W<=16) (h8:hs.length=8) (ok:OkS ⟨f,hs,sd,dd++[e],[]⟩) (r0:rws[f]?=some (.let_ "a" b)) (r1:rws[f+1]?=some (.let_ "b" n)) (r2:rws[f+2]?=some (.put "a" "b")) :
  goR W rws 3 ⟨f,hs,sd,dd++[e],[]⟩ ⟨f+3,(hs.set 0 b).set 1 n,sd,dd++[ych e.1 e.2 (.inl (b:Int)) (.int n)],[]⟩:=by
 obtain ⟨k1,k2,k3⟩:=yBY
 have bb:(0:Int)<=(b:Int)/\(b:Int)<B64:=by unfold B64;omega
 have o1:OkS ⟨f+1,hs.set 0 b,sd,dd++[e],[]⟩:=⟨by show (hs.set 0 (b:Int)).length=8;rw [length_set];exact h8,ok.dl,ok.sl,ok.sd,ok.d4⟩
 have o2:OkS ⟨f+2,(hs.set 0 b).set 1 n,sd,dd++[e],[]⟩:=⟨by show ((hs.set 0 (b:Int)).set 1 n).length=8;rw [length_set,length_set];exact h8,ok.dl,ok.sl,ok.sd,ok.d4⟩
 refine ⟨_,_,r0,⟨k1,bb⟩,ok,rfl,ywm.1,_,_,r1,⟨k2,hn⟩,o1,rfl,ywm.2,_,_,r2,⟨k1,k2⟩,o2,rfl,?_,rfl⟩
 obtain ⟨e1,e2,_⟩:=yES
 show some (RS.mk (f+3) _ sd (yjn (dd++[e]) (((hs.set 0 (b:Int)).set 1 n).getD (sx "a") 0%(W:Int)) (((hs.set 0 (b:Int)).set 1 n).getD (sx "b") 0)) [])=_
 have g0:((hs.set 0 (b:Int)).set 1 n).getD 0 0=b:=by
  match hs,h8 with
  | [a0,a1,a2,a3,a4,a5,a6,a7],_=>rfl
 have g1:((hs.set 0 (b:Int)).set 1 n).getD 1 0=n:=by
  match hs,h8 with
  | [a0,a1,a2,a3,a4,a5,a6,a7],_=>rfl
 rw [e1,e2,g0,g1,Int.emod_eq_of_lt (by omega) (by omega)]
 unfold yjn
 rw [List.getLast?_append,List.dropLast_concat]
 rfl
end
section
variable {W:Nat}{rws:List Rw}{f:Nat}{d:DK}
theorem ykq {ks:List Key}{ys:List PV}{j:Key}{v:PV}:(ych ks ys j v).1.length<=ks.length+1:=by
 unfold ych
 split
 .exact Nat.le_succ _
 .simp
theorem yBZ {w b:Nat}{n:Int}{hs:List Int}(hb:b<W) (hn:0<=n/\n<B64) (hW:W<=16) (h8:hs.length=8) (dl:d.1.length<300) (rw:∀ i r,(pcR ⟨w,b,n⟩ f)[i]?=some r->rws[f+i]?=some r) :
  goR W rws (pcK w) ⟨f,hs,[],[d],[]⟩ ⟨f+pcL w,pcS ⟨w,b,n⟩ hs,[],[pcD ⟨w,b,n⟩ d],[]⟩:=by
 obtain ⟨k1,k2,k3⟩:=yBY
 obtain ⟨e1,e2,e3⟩:=yES
 have o0:OkS ⟨f,hs,[],[d],[]⟩:=⟨h8,rfl,by simp,(fun x hx=>by cases hx),fun e he=>by rw [List.mem_singleton.mp he];omega⟩
 have h8':((hs.set 0 (b:Int)).set 1 n).length=8:=by rw [length_set,length_set];exact h8
 have dd2:∀ (e:DK),e.1.length<10->∀ x∈[d,e],x.1.length<400:=fun e he x hx=>by
  rcases mem_cons.mp hx with rfl|hx
  .omega
  .rw [List.mem_singleton.mp hx];omega
 have dd3:∀ (e:DK),e.1.length<10->∀ x∈[d,([],[]),e],x.1.length<400:=fun e he x hx=>by
  simp only [mem_cons,not_mem_nil,or_false] at hx
  rcases hx with rfl|rfl|rfl
  .omega
  .decide
  .omega
 have pl:∀ x∈[ych d.1 d.2 (.inl (b:Int)) (.int n)],x.1.length<400:=fun x hx=>by
  rw [List.mem_singleton.mp hx]
  have:=ykq (ks:=d.1) (ys:=d.2) (j:=.inl (b:Int)) (v:=.int n)
  omega
 have sd1:∀ r:Rw,yhc r=true->okR r->∀ x∈[(r,hs)],yhc x.1=true/\okR x.1/\x.2.length=8:=fun r h1 h2 x hx=>by
  rw [List.mem_singleton.mp hx];exact ⟨h1,h2,h8⟩
 have sd2:∀ r r':Rw,yhc r=true->okR r->yhc r'=true->okR r'->∀ x∈[(r,hs),(r',hs)],yhc x.1=true/\okR x.1/\x.2.length=8:=fun r r' h1 h2 h3 h4 x hx=>by
  rcases mem_cons.mp hx with rfl|hx
  .exact ⟨h1,h2,h8⟩
  .rw [List.mem_singleton.mp hx];exact ⟨h3,h4,h8⟩
 have nn:∀ k:Nat,(0:Int)<=(k:Nat):=fun k=>by omega
 have g1:((hs.set 0 (b:Int)).set 1 n).getD 1 0=n:=by
  match hs,h8 with
  | [a0,a1,a2,a3,a4,a5,a6,a7],_=>rfl
 have sdn:∀ x∈([]:List (Rw×List Int)),yhc x.1=true/\okR x.1/\x.2.length=8:=fun x hx=>by cases hx
 match w,rw with
 | 0,rw =>
  have q1:=ygy (rws:=rws) (f:=f+1) (hs:=hs) (sd:=[(.either (f+6:Nat),hs)]) (dd:=[d]) (e:=([],[])) hb hn hW h8 ⟨h8,rfl,by simp,sd1 _ rfl (nn _),dd2 _ (by simp)⟩ (rw 1 _ rfl) (rw 2 _ rfl) (rw 3 _ rfl)
  have q2:goR W rws 2 ⟨f+4,(hs.set 0 (b:Int)).set 1 n,[(.either (f+6:Nat),hs)],[d,([.inl (b:Int)],[.int n])],[]⟩ ⟨f+7,(hs.set 0 (b:Int)).set 1 n,[],[ych d.1 d.2 (.inl (b:Int)) (.int n)],[]⟩ :=
   ⟨.settle,_,rw 4 _ rfl,trivial,⟨h8',rfl,by simp,sd1 _ rfl (nn _),dd2 _ (by simp)⟩,rfl,rfl,.jump (f+7:Nat),_,rw 5 _ rfl,nn _,⟨h8',rfl,by simp,sdn,pl⟩,rfl,rfl,rfl⟩
  exact ⟨_,_,rw 0 _ rfl,nn _,o0,rfl,rfl,yft (b:=2) q1 q2⟩
 | 1,rw =>
  have q1:=ygy (rws:=rws) (f:=f+1) (hs:=hs) (sd:=[(.either (f+7:Nat),hs)]) (dd:=[d]) (e:=([],[])) hb hn hW h8 ⟨h8,rfl,by simp,sd1 _ rfl (nn _),dd2 _ (by simp)⟩ (rw 1 _ rfl) (rw 2 _ rfl) (rw 3 _ rfl)
  have q2:goR W rws 1 ⟨f+4,(hs.set 0 (b:Int)).set 1 n,[(.either (f+7:Nat),hs)],[d,([.inl (b:Int)],[.int n])],[]⟩ ⟨f+7,hs,[],[d],[]⟩ :=
   ⟨.wait,_,rw 4 _ rfl,trivial,⟨h8',rfl,by simp,sd1 _ rfl (nn _),dd2 _ (by simp)⟩,rfl,rfl,rfl⟩
  exact ⟨_,_,rw 0 _ rfl,nn _,o0,rfl,rfl,yft (b:=1) q1 q2⟩
 | 2,rw =>
  have q1:=ygy (rws:=rws) (f:=f+1) (hs:=hs) (sd:=[(.guard "low" "c" (f+6:Nat),hs)]) (dd:=[d]) (e:=([],[])) hb hn hW h8 ⟨h8,rfl,by simp,sd1 _ rfl ⟨k3,nn _⟩,dd2 _ (by simp)⟩ (rw 1 _ rfl) (rw 2 _ rfl) (rw 3 _ rfl)
  have q2:goR W rws 2 ⟨f+4,(hs.set 0 (b:Int)).set 1 n,[(.guard "low" "c" (f+6:Nat),hs)],[d,([.inl (b:Int)],[.int n])],[]⟩ ⟨f+7,(hs.set 0 (b:Int)).set 1 n,[],[ych d.1 d.2 (.inl (b:Int)) (.int n)],[]⟩ :=
   ⟨.settle,_,rw 4 _ rfl,trivial,⟨h8',rfl,by simp,sd1 _ rfl ⟨k3,nn _⟩,dd2 _ (by simp)⟩,rfl,rfl,.jump (f+7:Nat),_,rw 5 _ rfl,nn _,⟨h8',rfl,by simp,sdn,pl⟩,rfl,rfl,rfl⟩
  exact ⟨_,_,rw 0 _ rfl,⟨k3,nn _⟩,o0,rfl,rfl,yft (b:=2) q1 q2⟩
 | 3,rw =>
  have q1:=ygy (rws:=rws) (f:=f+1) (hs:=hs) (sd:=[(.guard "low" "c" (f+7:Nat),hs)]) (dd:=[d]) (e:=([],[])) hb hn hW h8 ⟨h8,rfl,by simp,sd1 _ rfl ⟨k3,nn _⟩,dd2 _ (by simp)⟩ (rw 1 _ rfl) (rw 2 _ rfl) (rw 3 _ rfl)
  have tk:tkL [(Rw.guard "low" "c" (f+7:Nat),hs)] (.throw "low" "b") 1=1:=by
   show (if decide (("low":Str) = "low")=true then 1 else 0)=1
   rw [if_pos (by decide)]
  have q2:goR W rws 1 ⟨f+4,(hs.set 0 (b:Int)).set 1 n,[(.guard "low" "c" (f+7:Nat),hs)],[d,([.inl (b:Int)],[.int n])],[]⟩ ⟨f+7,hs.set 2 n,[],[d],[]⟩:=by
   refine ⟨.throw "low" "b",_,rw 4 _ rfl,k2,⟨h8',rfl,by simp,sd1 _ rfl ⟨k3,nn _⟩,dd2 _ (by simp)⟩,?_,?_,rfl⟩
   .show decide (((tkL [(Rw.guard "low" "c" (f+7:Nat),hs)] (.throw "low" "b") 1:Nat):Int)=0)=false
    rw [tk]
    rfl
   .show (match tkL [(Rw.guard "low" "c" (f+7:Nat),hs)] (.throw "low" "b") 1 with|0=>none|L+1=>match ([(Rw.guard "low" "c" (f+7:Nat),hs)]:List (Rw×List Int))[L]? with|some x=>some (RS.mk (toB x.1).toNat (x.2.set (sx (slB x.1)) (((hs.set 0 (b:Int)).set 1 n).getD (sx "b") 0)) ([(Rw.guard "low" "c" (f+7:Nat),hs)].take L) ([d,([.inl (b:Int)],[.int n])].take (L+1)) [])|none=>none)=_
    rw [tk]
    show some (RS.mk (f+7) (hs.set (sx "c") (((hs.set 0 (b:Int)).set 1 n).getD (sx "b") 0)) [] [d] [])=_
    rw [e2,e3,g1]
  exact ⟨_,_,rw 0 _ rfl,⟨k3,nn _⟩,o0,rfl,rfl,yft (b:=1) q1 q2⟩
 | 4,rw =>
  have q1:=ygy (rws:=rws) (f:=f+2) (hs:=hs) (sd:=[(.guard "low" "c" (f+10:Nat),hs),(.either (f+8:Nat),hs)]) (dd:=[d,([],[])]) (e:=([],[])) hb hn hW h8 ⟨h8,rfl,by simp,sd2 _ _ rfl ⟨k3,nn _⟩ rfl (nn _),dd3 _ (by simp)⟩ (rw 2 _ rfl) (rw 3 _ rfl) (rw 4 _ rfl)
  have tk:tkL [(Rw.guard "low" "c" (f+10:Nat),hs),(.either (f+8:Nat),hs)] (.throw "low" "b") 2=1:=by
   show (if decide (("low":Str) = "low")=true then 1 else 0)=1
   rw [if_pos (by decide)]
  have q2:goR W rws 1 ⟨f+5,(hs.set 0 (b:Int)).set 1 n,[(.guard "low" "c" (f+10:Nat),hs),(.either (f+8:Nat),hs)],[d,([],[]),([.inl (b:Int)],[.int n])],[]⟩ ⟨f+10,hs.set 2 n,[],[d],[]⟩:=by
   refine ⟨.throw "low" "b",_,rw 5 _ rfl,k2,⟨h8',rfl,by simp,sd2 _ _ rfl ⟨k3,nn _⟩ rfl (nn _),dd3 _ (by simp)⟩,?_,?_,rfl⟩
   .show decide (((tkL [(Rw.guard "low" "c" (f+10:Nat),hs),(.either (f+8:Nat),hs)] (.throw "low" "b") 2:Nat):Int)=0)=false
    rw [tk]
    rfl
   .show (match tkL [(Rw.guard "low" "c" (f+10:Nat),hs),(.either (f+8:Nat),hs)] (.throw "low" "b") 2 with|0=>none|L+1=>match ([(Rw.guard "low" "c" (f+10:Nat),hs),(.either (f+8:Nat),hs)]:List (Rw×List Int))[L]? with|some x=>some (RS.mk (toB x.1).toNat (x.2.set (sx (slB x.1)) (((hs.set 0 (b:Int)).set 1 n).getD (sx "b") 0)) ([(Rw.guard "low" "c" (f+10:Nat),hs),(.either (f+8:Nat),hs)].take L) ([d,([],[]),([.inl (b:Int)],[.int n])].take (L+1)) [])|none=>none)=_
    rw [tk]
    show some (RS.mk (f+10) (hs.set (sx "c") (((hs.set 0 (b:Int)).set 1 n).getD (sx "b") 0)) [] [d] [])=_
    rw [e2,e3,g1]
  exact ⟨_,_,rw 0 _ rfl,⟨k3,nn _⟩,o0,rfl,rfl,_,_,rw 1 _ rfl,nn _,⟨h8,rfl,by simp,sd1 _ rfl ⟨k3,nn _⟩,dd2 _ (by simp)⟩,rfl,rfl,yft (b:=1) q1 q2⟩
 | w+5,rw=>exact ygy (dd:=[]) hb hn hW h8 o0 (rw 0 _ rfl) (rw 1 _ rfl) (rw 2 _ rfl)
end
def ylU:List Pc->Nat->List Rw
 | [],_=>[]
 | p::ps,f=>pcR p f++ylU ps (f+pcL p.w)
theorem yin (p:Pc) (f:Nat):(pcR p f).length=pcL p.w:=by
 obtain ⟨w,b,n⟩:=p
 match w with
 | 0=>rfl
 | 1=>rfl
 | 2=>rfl
 | 3=>rfl
 | 4=>rfl
 | w+5=>rfl
def yCF (ps:List Pc) (d:DK):DK:=ps.foldl (fun d p=>pcD p d) d
def Pc.ok (W:Nat) (p:Pc):Prop:=p.b<W/\0<=p.n/\p.n<B64
theorem yyU (p:Pc) (d:DK):(pcD p d).1.length<=d.1.length+1:=by
 obtain ⟨w,b,n⟩:=p
 match w with
 | 0=>exact ykq
 | 1=>exact Nat.le_succ _
 | 2=>exact ykq
 | 3=>exact Nat.le_succ _
 | 4=>exact Nat.le_succ _
 | w+5=>exact ykq
theorem yyV (p:Pc) (hs:List Int):(pcS p hs).length=hs.length:=by
 obtain ⟨w,b,n⟩:=p
 match w with
 | 0=>simp [pcS]
 | 1=>rfl
 | 2=>simp [pcS]
 | 3=>simp [pcS]
 | 4=>simp [pcS]
 | w+5=>simp [pcS]
theorem yCa (w:Nat):pcK w<=6:=by
 match w with
 | 0=>decide
 | 1=>decide
 | 2=>decide
 | 3=>decide
 | 4=>decide
 | w+5=>show 3<=6;decide
theorem ywn {W:Nat}{rws:List Rw}(hW:W<=16):∀ (ps:List Pc) (f:Nat) (hs:List Int) (d:DK),(∀ p∈ps,p.ok W)->hs.length=8->d.1.length+ps.length<300->(∀ i r,(ylU ps f)[i]?=some r->rws[f+i]?=some r) ->
  ∃ k hs',k<=6*ps.length/\hs'.length=8/\goR W rws k ⟨f,hs,[],[d],[]⟩ ⟨f+(ylU ps f).length,hs',[],[yCF ps d],[]⟩
 | [],f,hs,d,_,h8,_,_=>⟨0,hs,Nat.le_refl _,h8,rfl⟩
 | p::ps,f,hs,d,ok,h8,hl,rw=>by
  have hl:d.1.length+(ps.length+1)<300:=hl
  obtain ⟨o1,o2,o3⟩:=ok p mem_cons_self
  have hk:=yCa p.w
  have q1:=yBZ (W:=W) (rws:=rws) (f:=f) (d:=d) (w:=p.w) (b:=p.b) (n:=p.n) (hs:=hs) o1 ⟨o2,o3⟩ hW h8 (by omega) (fun i r e=>rw i r (by
   show (pcR p f++_)[i]?=_
   have hi:i<(pcR p f).length:=(List.getElem?_eq_some_iff.mp e).1
   rw [getElem?_append_left hi]
   exact e))
  have dl:=yyU p d
  obtain ⟨k,hs',k1,k2,q2⟩:=ywn hW ps (f+pcL p.w) (pcS p hs) (pcD p d) (fun q hq=>ok q (mem_cons_of_mem _ hq)) (by rw [yyV];exact h8) (by omega) (fun i r e=>by
   rw [add_assoc]
   refine rw (pcL p.w+i) r ?_
   show (pcR p f++_)[_]?=_
   rw [getElem?_append_right (by rw [yin];omega),yin,Nat.add_sub_cancel_left]
   exact e)
  refine ⟨pcK p.w+k,hs',by show _<=6*(ps.length+1);omega,k2,?_⟩
  have e:f+(ylU (p::ps) f).length=f+pcL p.w+(ylU ps (f+pcL p.w)).length:=by
   show f+(pcR p f++ylU ps (f+pcL p.w)).length=_
   rw [length_append,yin,add_assoc]
  rw [e]
  exact yft q1 q2
section
variable {h:AH}{w:Int}{g:HC}{bx sp:List Int}{en:List PV}{as2:List (Nat×Lc)}{xs2:List HD}{a:Nat×Lc}{x:HD}{b0 s0:Nat}{rws:List Rw}{s':RS}{d:DK}{ls:List (Nat×Int)}{rows':List PV}{o:List (Nat×Nd)}
theorem yfP {f:PV->PV->Option Bool}{x y:PV}{xs ys:List PV}(e1:f x y=some true) (e2:ygX f xs ys=some true):ygX f (x::xs) (y::ys)=some true:=by
 show (match f x y,ygX f xs ys with|some b,some c=>some (b && c)|_,_=>none)=_
 rw [e1,e2]
 rfl
theorem ysr {n:Nat}{i:Int}:eqP (n+1) h (.int i) (.int i)=some true:=by
 show some (eqV (.int i) (.int i))=_
 rw [yjT rfl]
theorem yoy {n:Nat}:∀ xs:List Int,ygX (eqP (n+1) h) (xs.map .int) (xs.map .int)=some true
 | []=>rfl
 | _::xs=>yfP ysr (yoy xs)
theorem yoz {m:Nat}{xs:List Int}(e:h[m]?=some (.lst (xs.map .int))):ypB (.lst (xs.map .int)) (.loc m) h=some (.bl false,h):=by
 unfold ypB pairE ybw
 simp only [e,yoy,if_true]
 rfl
theorem ynd:(("gone":Str) = "done")=False:=eq_false (by rfl')
theorem yss (h1:1<=bx.length) (hbs:sp.length=bx.length) (hr:x.rows=rws.map yW) (hn:x.nth<x.ds.length) (hs0:x.sl=false) (er:rws[s'.t]?=some .lay) (ok:OkS s') (es:s'.sn=[]) (ed:s'.dd=[d]) (hd:sortI d.1 d.2=some (ls.map ybI)) (hb:∀ p∈ls,p.1<bx.length) (hdu:Due x.ds (x.nth+1) rows') (hl:en.length<1000) (ho:∀ y∈xs2,y.sl=false) :
  ∀ (k:Nat) (us:List PV) (h:AH) (s:RS) (a:Nat×Lc) (v3 v4:PVar),k<us.length->goR bx.length rws k s s'->HH h g bx.length bx sp en (a::as2) ({ x with s:=s }::xs2) ((b0,.lst (bx.map .int))::(s0,.lst (sp.map .int))::o) ->
  ∃ h' c',ygb (yu 3) gsB us [.val (.loc g.H),.val (.loc b0),.val (.loc s0),v3,v4] h=some (.rt (.bl true),h')/\HH h' g bx.length (ylS bx ls) (ylT sp ls) (en++[yFR 0 x (.tup [.str "done"]) [] (ls.map ybI) s'.hs]) ((a.1,c')::as2) ({ x with nth:=x.nth+1,bf:=s'.hs,rows:=rows',s:=S0 s'.hs }::xs2) ((b0,.lst (bx.map .int))::(s0,.lst (sp.map .int))::o)
 | 0,u::us,h,s,a,v3,v4,_,e,X=>by
  cases e
  obtain ⟨h',c',q1,X'⟩:=yEQ (as1:=[]) (xs1:=[]) (x:={ x with s:=s' }) (rws:=rws) (d:=d) (ls:=ls) (L:=[]) (rows':=rows') X rfl hbs h1 hr hn hs0 ⟨by rw [es];exact List.nodup_nil,(fun p hp=>by rw [es] at hp;cases hp),by rw [es];show 0<=900;omega⟩ (by show stB s'.sn sp=false;rw [es];rfl) er ok ed hd hb (by show sortI (sK s'.sn) (sA s'.sn)=_;rw [es];rfl) hdu hl ho
  refine ⟨h',c',?_,X'⟩
  have q1:ybs [.loc g.H,.int 0] h=some (.tup [.str "done",.int s'.t],h'):=q1
  have gH:=X.at_.get 0 rfl
  have e1:gsB [.val (.loc g.H),.val (.loc b0),.val (.loc s0),.val u,v4] h=some (.rt (.bl true),h'):=by
   unfold gsB
   simp_all? only [yhn,yY (m:="turn") gH (by rfl'),q1]
  show (yu 3 u [.val (.loc g.H),.val (.loc b0),.val (.loc s0),v3,v4]).bind _=_
  rw [show yu 3 u [.val (.loc g.H),.val (.loc b0),.val (.loc s0),v3,v4]=some [.val (.loc g.H),.val (.loc b0),.val (.loc s0),.val u,v4] from rfl,bind_some,e1,ybK]
 | k+1,u::us,h,s,a,v3,v4,hk,⟨r,s1,r1,r2,r3,r4,r5,r6⟩,X=>by
  obtain ⟨h1',c1,q1,X1⟩:=yEP (as1:=[]) (xs1:=[]) (x:={ x with s:=s }) (rws:=rws) X rfl h1 hr hn hs0 r1 r3 r2 r4 r5
  have q1:ybs [.loc g.H,.int 0] h=some (.tup [.str "gone",.int s.t],h1'):=q1
  obtain ⟨h',c',q2,X'⟩:=yss h1 hbs hr hn hs0 er ok es ed hd hb hdu hl ho k us h1' s1 (a.1,c1) (.val u) (.val (.tup [.str "gone",.int s.t])) (by simpa using hk) r6 X1
  refine ⟨h',c',?_,X'⟩
  have gH:=X.at_.get 0 rfl
  have gH1:=X1.at_.get 0 rfl
  have b1:=ywl X1
  have t1:=ysq X1
  have n1:=yoz (X1.get 0 rfl)
  have n2:=yoz (X1.get 1 rfl)
  rw [yyS (ρ1:=[.val (.loc g.H),.val (.loc b0),.val (.loc s0),.val u,v4]) (ρ2:=[.val (.loc g.H),.val (.loc b0),.val (.loc s0),.val u,.val (.tup [.str "gone",.int s.t])]) (h1:=h1') rfl (by
   unfold gsB
   simp_all? only [yhn,yY (m:="turn") gH (by rfl'),q1,ynd,yY (m:="boxes") gH1 (by rfl'),b1,n1,yY (m:="stamps") gH1 (by rfl'),t1,n2])]
  exact q2
end
section
variable {h:AH}{b n f:Int}
theorem pr_0:ybo 44 [ybf (.either [.let_ "a" b,.let_ "b" n,.put "a" "b"] [.wait]),.int f] h=some (.lst (([.either (f+7-1),.let_ "a" b,.let_ "b" n,.put "a" "b",.settle,.jump (f+7),.wait]:List Rw).map yW),h):=by kernel_rfl!
theorem pr_1:ybo 44 [ybf (.either [.let_ "a" b,.let_ "b" n,.put "a" "b",.wait] []),.int f] h=some (.lst (([.either (f+7-0),.let_ "a" b,.let_ "b" n,.put "a" "b",.wait,.settle,.jump (f+7)]:List Rw).map yW),h):=by kernel_rfl!
theorem pr_2:ybo 44 [ybf (.try_ [.let_ "a" b,.let_ "b" n,.put "a" "b"] "low" "c" [.throw "low" "c"]),.int f] h=some (.lst (([.guard "low" "c" (f+7-1),.let_ "a" b,.let_ "b" n,.put "a" "b",.settle,.jump (f+7),.throw "low" "c"]:List Rw).map yW),h):=by kernel_rfl!
theorem pr_3:ybo 44 [ybf (.try_ [.let_ "a" b,.let_ "b" n,.put "a" "b",.throw "low" "b"] "low" "c" []),.int f] h=some (.lst (([.guard "low" "c" (f+7-0),.let_ "a" b,.let_ "b" n,.put "a" "b",.throw "low" "b",.settle,.jump (f+7)]:List Rw).map yW),h):=by kernel_rfl!
theorem pr_4:ybo 44 [ybf (.try_ [.either [.let_ "a" b,.let_ "b" n,.put "a" "b",.throw "low" "b"] []] "low" "c" []),.int f] h=some (.lst (([.guard "low" "c" (f+10-0),.either (f+1+0+7-0),.let_ "a" b,.let_ "b" n,.put "a" "b",.throw "low" "b",.settle,.jump (f+1+0+7),.settle,.jump (f+10)]:List Rw).map yW),h):=by kernel_rfl!
theorem yET:ybo 44 [ybf (.let_ "a" b),.int f] h=some (.lst [yW (.let_ "a" b)],h)/\ybo 44 [ybf (.let_ "b" n),.int f] h=some (.lst [yW (.let_ "b" n)],h)/\ybo 44 [ybf (.put "a" "b"),.int f] h=some (.lst [yW (.put "a" "b")],h):=⟨by kernel_rfl!,by kernel_rfl!,by kernel_rfl!⟩
end
abbrev TI':=T×(Nat->List Rw)
def ycI:List TI'->Nat->List Rw
 | [],_=>[]
 | t::r,f=>t.2 f++ycI r (f+(t.2 f).length)
theorem yfQ:∀ (a b:List TI') (f:Nat),ycI (a++b) f=ycI a f++ycI b (f+(ycI a f).length)
 | [],b,f=>rfl
 | t::a,b,f=>by
  show t.2 f++ycI (a++b) (f+(t.2 f).length)=(t.2 f++ycI a (f+(t.2 f).length))++ycI b (f+(t.2 f++ycI a (f+(t.2 f).length)).length)
  rw [yfQ a b,append_assoc,length_append,add_assoc]
def pcI (p:Pc):List TI':=match p.w with
 | 0=>[(.either [.let_ "a" p.b,.let_ "b" p.n,.put "a" "b"] [.wait],pcR p)]
 | 1=>[(.either [.let_ "a" p.b,.let_ "b" p.n,.put "a" "b",.wait] [],pcR p)]
 | 2=>[(.try_ [.let_ "a" p.b,.let_ "b" p.n,.put "a" "b"] "low" "c" [.throw "low" "c"],pcR p)]
 | 3=>[(.try_ [.let_ "a" p.b,.let_ "b" p.n,.put "a" "b",.throw "low" "b"] "low" "c" [],pcR p)]
 | 4=>[(.try_ [.either [.let_ "a" p.b,.let_ "b" p.n,.put "a" "b",.throw "low" "b"] []] "low" "c" [],pcR p)]
 | _=>[(.let_ "a" p.b,fun _=>[.let_ "a" p.b]),(.let_ "b" p.n,fun _=>[.let_ "b" p.n]),(.put "a" "b",fun _=>[.put "a" "b"])]
def yEU (t:TI'):Prop:=∀ (f:Nat) (h:AH),ybo 44 [ybf t.1,.int (f:Nat)] h=some (.lst ((t.2 f).map yW),h)
theorem yEV (p:Pc):(pcI p).map (·.1)=pcT p:=by
 obtain ⟨w,b,n⟩:=p
 match w with
 | 0=>rfl
 | 1=>rfl
 | 2=>rfl
 | 3=>rfl
 | 4=>rfl
 | w+5=>rfl
theorem yEW (p:Pc) (f:Nat):ycI (pcI p) f=pcR p f:=by
 obtain ⟨w,b,n⟩:=p
 match w with
 | 0=>rfl
 | 1=>rfl
 | 2=>rfl
 | 3=>rfl
 | 4=>rfl
 | w+5=>rfl
theorem yCb (p:Pc):∀ t∈pcI p,yEU t:=by
 obtain ⟨w,b,n⟩:=p
 match w with
 | 0 =>
  intro t ht f h
  rw [List.mem_singleton.mp ht]
  refine pr_0.trans ?_
  show _=some (PV.lst ((pcR ⟨0,b,n⟩ f).map yW),h)
  rw [show (f:Int)+7-1=((f+6:Nat):Int) by omega,show (f:Int)+7=((f+7:Nat):Int) by omega]
  rfl
 | 1 =>
  intro t ht f h
  rw [List.mem_singleton.mp ht]
  refine pr_1.trans ?_
  show _=some (PV.lst ((pcR ⟨1,b,n⟩ f).map yW),h)
  rw [show (f:Int)+7-0=((f+7:Nat):Int) by omega,show (f:Int)+7=((f+7:Nat):Int) by omega]
  rfl
 | 2 =>
  intro t ht f h
  rw [List.mem_singleton.mp ht]
  refine pr_2.trans ?_
  show _=some (PV.lst ((pcR ⟨2,b,n⟩ f).map yW),h)
  rw [show (f:Int)+7-1=((f+6:Nat):Int) by omega,show (f:Int)+7=((f+7:Nat):Int) by omega]
  rfl
 | 3 =>
  intro t ht f h
  rw [List.mem_singleton.mp ht]
  refine pr_3.trans ?_
  show _=some (PV.lst ((pcR ⟨3,b,n⟩ f).map yW),h)
  rw [show (f:Int)+7-0=((f+7:Nat):Int) by omega,show (f:Int)+7=((f+7:Nat):Int) by omega]
  rfl
 | 4 =>
  intro t ht f h
  rw [List.mem_singleton.mp ht]
  refine pr_4.trans ?_
  show _=some (PV.lst ((pcR ⟨4,b,n⟩ f).map yW),h)
  rw [show (f:Int)+10-0=((f+10:Nat):Int) by omega,show (f:Int)+1+0+7-0=((f+8:Nat):Int) by omega,show (f:Int)+1+0+7=((f+8:Nat):Int) by omega,show (f:Int)+10=((f+10:Nat):Int) by omega]
  rfl
 | w+5 =>
  intro t ht f h
  have ht:t∈[((.let_ "a" (b:Int),fun _=>[.let_ "a" (b:Int)]):TI'),(.let_ "b" n,fun _=>[.let_ "b" n]),(.put "a" "b",fun _=>[.put "a" "b"])]:=ht
  simp only [mem_cons,not_mem_nil,or_false] at ht
  rcases ht with rfl|rfl|rfl
  .exact (yET (n:=0)).1
  .exact (yET (b:=0)).2.1
  .exact (yET (b:=0) (n:=0)).2.2
def yzq (ps:List Pc):List TI':=ps.flatMap pcI
theorem yst:∀ (ps:List Pc) (f:Nat),ycI (yzq ps) f=ylU ps f
 | [],_=>rfl
 | p::ps,f=>by
  show ycI (pcI p++yzq ps) f=pcR p f++ylU ps (f+pcL p.w)
  rw [yfQ,yEW,yst ps,yin]
section
variable {h:AH}
theorem yCc {i:Nat}{e:XE}{ρ:PSt}{xs:List PV}(hx:ρ[i]?=some (.own (.lst xs))) {ys:List PV}{h1:AH}(he:e ρ h=some (.lst ys,h1)) (hl:xs.length+ys.length<=100000):ype i e ρ h=some (.nx (ρ.set i (.own (.lst (xs++ys)))),h1):=by
 unfold ype
 rw [hx]
 show ob (e ρ h) _=_
 rw [he,ybK]
 show (if _ then _ else _)=_
 rw [if_pos hl]
theorem ylB {ts:List TI'}(ok:∀ t∈ts,yEU t) (hl:(ycI ts 0).length<=1000):ycM 45 [.lst (ts.map fun t=>ybf t.1),.int 0] h=some (.lst ((ycI ts 0).map yW),h):=by
 unfold ycM
 rw [yp]
 show ob (ym _ _ [.val (.lst (ts.map fun t=>ybf t.1)),.val (.int 0),.no,.no] h) fnK=_
 symm
 rw [ymR rfl,ybK]
 refine yqU (fun i ρ h1=>h1=h/\∃ v,ρ=[.val (.lst (ts.map fun t=>ybf t.1)),.val (.int 0),.own (.lst ((ycI (ts.take i) 0).map yW)),v]) ⟨rfl,.no,rfl⟩ ?_ ?_
 .intro i x ρ h1 hx ⟨e1,v,e2⟩
  subst e1;subst e2
  rw [getElem?_map] at hx
  cases ht:ts[i]? with
  | none=>rw [ht] at hx;cases hx
  | some t =>
   rw [ht] at hx;cases hx
   have e3:ts.take (i+1)=ts.take i++[t]:=by rw [List.take_add_one,ht];rfl
   have e4:ycI (ts.take (i+1)) 0=ycI (ts.take i) 0++t.2 (ycI (ts.take i) 0).length:=by
    rw [e3,yfQ,Nat.zero_add]
    show _++(t.2 _++[])=_
    rw [append_nil]
   have lt:(ycI (ts.take (i+1)) 0).length<=(ycI ts 0).length:=by
    have:=yfQ (ts.take (i+1)) (ts.drop (i+1)) 0
    rw [List.take_append_drop] at this
    rw [this,length_append]
    omega
   refine ⟨_,[.val (.lst (ts.map fun t=>ybf t.1)),.val (.int 0),.own (.lst ((ycI (ts.take (i+1)) 0).map yW)),.val (ybf t.1)],h1,rfl,.inl ?_,rfl,_,rfl⟩
   rw [e4,length_append] at lt
   rw [e4,map_append]
   refine (yCc (xs:=(ycI (ts.take i) 0).map yW) rfl (ys:=(t.2 (ycI (ts.take i) 0).length).map yW) (h1:=h1) ?_ (by rw [length_map,length_map];omega)).trans rfl
   have ln:yhG 2 ([.val (.lst (ts.map fun t=>ybf t.1)),.val (.int 0),.own (.lst ((ycI (ts.take i) 0).map yW)),.val (ybf t.1)]:PSt) h1=some (.int ((ycI (ts.take i) 0).map yW).length,h1):=rfl
   have pk:=ok t (mem_of_getElem? ht) (ycI (ts.take i) 0).length h1
   simp_all? only [ln,length_map,zero_add,pk]
 .intro ρ h1 ⟨e1,v,e2⟩
  subst e1;subst e2
  rw [length_map,take_length]
  symm
end
theorem ysu:∀ {a b:List T},gdL a->gdL b->gdL (a++b)
 | [],_,_,k=>k
 | _::_,_,h,k=>⟨h.1,ysu h.2 k⟩
theorem ysv:∀ {a b:List T},rdL a<=8->rdL b<=8->rdL (a++b)<=8
 | [],_,_,k=>k
 | t::a,b,h,k=>by
  have h:max (rdT t) (rdL a)<=8:=h
  have:=ysv (a:=a) (b:=b) (by omega) k
  show max (rdT t) (rdL (a++b))<=8
  omega
theorem ylC:∀ (a b:List T),(ybU (a++b)).sum=(ybU a).sum+(ybU b).sum
 | [],b=>by show _=(([]:List Int)).sum+_;simp
 | t::a,b=>by
  show (ygn t::ybU (a++b)).sum=(ygn t::ybU a).sum+_
  rw [List.sum_cons,List.sum_cons,ylC a b]
  omega
def yhp (ps:List Pc):List T:=ps.flatMap pcT
theorem ywo:∀ ps:List Pc,(yzq ps).map (·.1)=yhp ps
 | []=>rfl
 | p::ps=>by
  show (pcI p++yzq ps).map (·.1)=pcT p++yhp ps
  rw [map_append,yEV,ywo ps]
theorem yGs:yeA "a"/\yeA "b"/\yeA "c"/\yjh "low":=⟨⟨97,by decide,by decide,by rfl'⟩,⟨98,by decide,by decide,by rfl'⟩,⟨99,by decide,by decide,by rfl'⟩,by rfl',by rfl',by rfl'⟩
theorem ywp {W:Nat}{p:Pc}(hW:W<=16) (ok:p.ok W):gdL (pcT p)/\rdL (pcT p)<=8/\(ybU (pcT p)).sum=pcL p.w:=by
 obtain ⟨w,b,n⟩:=p
 obtain ⟨h1,h2,h3⟩:=ok
 obtain ⟨sa,sb,sc,nl⟩:=yGs
 have h1:b<W:=h1
 have bb:(0:Int)<=(b:Int)/\(b:Int)<B64:=by unfold B64;omega
 have la:gdT (.let_ "a" (b:Int)):=⟨sa,bb⟩
 have lb:gdT (.let_ "b" n):=⟨sb,h2,h3⟩
 have pt:gdT (.put "a" "b"):=⟨sa,sb⟩
 match w with
 | 0=>exact ⟨⟨⟨⟨la,lb,pt,trivial⟩,trivial,trivial⟩,trivial⟩,by simp only [pcT,rdL,rdT];omega,rfl⟩
 | 1=>exact ⟨⟨⟨⟨la,lb,pt,trivial,trivial⟩,trivial⟩,trivial⟩,by simp only [pcT,rdL,rdT];omega,rfl⟩
 | 2=>exact ⟨⟨⟨nl,sc,⟨la,lb,pt,trivial⟩,⟨nl,sc⟩,trivial⟩,trivial⟩,by simp only [pcT,rdL,rdT];omega,rfl⟩
 | 3=>exact ⟨⟨⟨nl,sc,⟨la,lb,pt,⟨nl,sb⟩,trivial⟩,trivial⟩,trivial⟩,by simp only [pcT,rdL,rdT];omega,rfl⟩
 | 4=>exact ⟨⟨⟨nl,sc,⟨⟨⟨la,lb,pt,⟨nl,sb⟩,trivial⟩,trivial⟩,trivial⟩,trivial⟩,trivial⟩,by simp only [pcT,rdL,rdT];omega,rfl⟩
 | w+5=>exact ⟨⟨la,lb,pt,trivial⟩,by simp only [pcT,rdL,rdT];omega,rfl⟩
theorem ywq (w:Nat):pcL w<=10:=by
 match w with
 | 0=>decide
 | 1=>decide
 | 2=>decide
 | 3=>decide
 | 4=>decide
 | w+5=>show 3<=10;decide
theorem ysw {W:Nat}(hW:W<=16):∀ {ps:List Pc},(∀ p∈ps,p.ok W)->gdL (yhp ps)/\rdL (yhp ps)<=8/\(ybU (yhp ps)).sum<=10*ps.length
 | [],_=>⟨trivial,by decide,by decide⟩
 | p::ps,ok=>by
  obtain ⟨g1,g2,g3⟩:=ywp hW (ok p mem_cons_self)
  obtain ⟨k1,k2,k3⟩:=ysw hW (ps:=ps) fun q hq=>ok q (mem_cons_of_mem _ hq)
  have:=ywq p.w
  refine ⟨ysu g1 k1,ysv g2 k2,?_⟩
  show (ybU (pcT p++yhp ps)).sum<=10*((ps.length+1:Nat):Int)
  rw [ylC,g3]
  omega
theorem yoA:∀ (ps:List Pc) (f:Nat),(ylU ps f).length<=10*ps.length
 | [],_=>Nat.le_refl _
 | p::ps,f=>by
  have:=yoA ps (f+pcL p.w)
  have:=ywq p.w
  show (pcR p f++ylU ps (f+pcL p.w)).length<=10*(ps.length+1)
  rw [length_append,yin]
  omega
section
variable {h:AH}
theorem ypu {ts:List TI'}(ok:∀ t∈ts,yEU t) (hl:(ycI ts 0).length<=1000):ydN [.lst (ts.map fun t=>ybf t.1)] h=some (.lst ((ycI ts 0++[Rw.lay]).map yW),h):=by
 unfold ydN
 rw [yp]
 show ob (yO _ [.val (.lst (ts.map fun t=>ybf t.1))] h) fnK=_
 symm
 rw [ylB ok hl]
 symm
 rw [if_pos (by rw [length_map];omega),map_append]
 rfl
def Z8:List Int:=[0,0,0,0,0,0,0,0]
end
abbrev Fr (h h':AH):Prop:=∀ m,At h m->At h' m
section
variable {h:AH}{w:Int}
def Rdb (d:Str×List Rw):Prop:=∀ h:AH,∃ h',yM ydN (yc (yM yjf (yc (yf 0) yh)) yh) [.val (.str d.1)] h=some (.lst (d.2.map yW),h')/\Fr h h'
def txV (d:Str×List Rw):PV:=.str d.1
def yiB (d:Str×List Rw):PV:=.lst (d.2.map yW)
theorem At.seen {m:List (Nat×Nd)}{d d':Nd}(A:At h m):At ((h++[d]).set h.length d') m:=⟨A.1,fun p hp=>by
 have:=A.lt hp
 rw [getElem?_set_ne (by omega),getElem?_append_left this];exact A.2 p hp⟩
theorem yne {α:Type}{E:XE}{inn:PV->PSt}{f g:α->PV}:∀ (l:List α),(∀ h a,a∈l->∃ h',E (inn (f a)) h=some (g a,h')/\Fr h h')->∀ h,∃ h',yhA E inn (l.map f) h=some (l.map g,h')/\Fr h h'
 | [],_,h=>⟨h,rfl,fun _ A=>A⟩
 | a::l,hE,h=>by
  obtain ⟨h1,q1,F1⟩:=hE h a mem_cons_self
  obtain ⟨h2,q2,F2⟩:=yne l (fun h b hb=>hE h b (mem_cons_of_mem _ hb)) h1
  refine ⟨h2,?_,fun m A=>F2 m (F1 m A)⟩
  show ob (E (inn (f a)) h) _=_
  rw [q1,ybK,q2,ybK]
  rfl
theorem yvm {ds:List (Str×List Rw)}(hd:∀ d∈ds,Rdb d) (hl:ds.length<=100):∃ h',ybr [.lst (ds.map txV)] h=some (.lst (ds.map yiB),h')/\Fr h h':=by
 obtain ⟨h',q1,q2⟩:=yne (inn:=yfb [] [.val (.lst (ds.map txV))]) (f:=txV) (g:=yiB) ds (fun h a ha=>hd a ha h) h
 refine ⟨h',?_,q2⟩
 unfold ybr
 rw [yp]
 show ob (yO (xFz (yfj (xIL (yf 0)) _ _)) [.val (.lst (ds.map txV))] h) fnK=_
 rw [ytZ,yCw,yvT,ymR rfl,ybK,if_pos (by rw [length_map];omega),q1]
 rfl
def hsV (hs:List (List (Str×List Rw))):List PV:=hs.map fun ds=>.lst (ds.map txV)
theorem yvn {hs:List (List (Str×List Rw))}(hd:∀ p∈hs,p.length<=6/\∀ d∈p,Rdb d) (h1:1<=hs.length) (h8:hs.length<=8):∃ h',ybY [.lst (hsV hs)] h=some (.lst (hs.map fun p=>.lst (p.map yiB)),h')/\Fr h h':=by
 obtain ⟨h',q3,q4⟩:=yne (E:=yM ybr (yc (yf 0) (yh))) (inn:=yfb [] [.val (.lst (hsV hs))]) (f:=fun p:List (Str×List Rw)=>.lst (p.map txV)) (g:=fun p=>.lst (p.map yiB)) hs (fun h a ha=>by
  obtain ⟨h',q,F⟩:=yvm (h:=h) (hd a ha).2 (by have:=(hd a ha).1;omega)
  refine ⟨h',?_,F⟩
  show yM ybr (yc (yf 0) (yh)) [.val (.lst (a.map txV))] h=_
  simp_all? only [q]) h
 have q1:yhA (xOp (oGt) (xCB (ybP) (yc (yf 0) (yh))) (xC (.int 6))) (yfb [] [.val (.lst (hsV hs))]) (hsV hs) h=some (hs.map fun _=>.bl false,h):=ygk (f:=fun p:List (Str×List Rw)=>.lst (p.map txV)) (g:=fun _=>.bl false) fun a ha=>by
  have l2:((6:Int)<((a.map txV).length:Nat))=False:=eq_false (by have:=(hd _ ha).1;rw [length_map];omega)
  show xOp (oGt) (xCB (ybP) (yc (yf 0) (yh))) (xC (.int 6)) [.val (.lst (a.map txV))] h=_
  simp_all? only [l2]
 have an:∀ h,yuu [.lst (hs.map fun _=>PV.bl false)] h=some (.bl false,h):=fun h=>by
  unfold yuu ybw
  simp only [yna (fun _:List (Str×List Rw)=>false)]
  rw [show (hs.map fun _=>false).any id=false by simp]
 refine ⟨h',?_,q4⟩
 have ll:(hsV hs).length=hs.length:=by unfold hsV;rw [length_map]
 have l1:((1:Int)<=((hsV hs).length:Nat))=True:=eq_true (by rw [ll];omega)
 have l2:((((hsV hs).length:Nat):Int)<=8)=True:=eq_true (by rw [ll];omega)
 have l3:((hsV hs).length<=100000)=True:=eq_true (by rw [ll];omega)
 have i0:∀ h,xIL (yf 0) [.val (.lst (hsV hs))] h=some (hsV hs,h):=fun _=>ymR rfl
 unfold ybY
 rw [yp]
 show ob (ym _ _ [.val (.lst (hsV hs))] h) fnK=_
 have q3:yhA (yM ybr (yc (yf 0) (yh))) (yfb [] [.val (.lst (hsV hs))]) (hsV hs) h=some (hs.map fun p=>.lst (p.map yiB),h'):=q3
 simp_all? only [l1,l2,l3,i0,q1,an,q3,↓reduceIte]
noncomputable def hv (k:Nat) (ds:List PV) (w:Int):Nd:=.ins 14 ((["deeds","width","nth","sleeps","before"]:List Str).take k) (([.lst ds,.int w,.int 0,.bl false,.lst (Z8.map .int)]:List PV).take k)
theorem ysx {ds rows:List PV}(hr:Due ds 0 rows):∃ h' c',ybn [.loc h.length,.lst ds,.int w] (h++[Nd.ins 14 [] []])=some (.non,h')/\∀ m,At h m->RR w rows ((h.length,ydR ds w 0 false Z8 c'.rn)::m) h' c' (S0 Z8):=by
 have N:∀ {k:AH}{d d':Nd},k[h.length]?=some d->(k.set h.length d')[h.length]?=some d':=fun e=>getElem?_set_self (List.getElem?_eq_some_iff.mp e).1
 have n0:(h++[Nd.ins 14 [] []])[h.length]?=some (hv 0 ds w):=by simp [hv]
 generalize hk0:h++[Nd.ins 14 [] []]=k0 at *
 have s1:∀ ρ,fL [14] "deeds" ρ (.lst ds) (.loc h.length) k0=some (.nx ρ,k0.set h.length (hv 1 ds w)):=fun ρ=>yfs n0 (by decide) (by kernel_rfl!)
 have n1:=N (d':=hv 1 ds w) n0
 have s2:∀ ρ,fL [12,14] "width" ρ (.int w) (.loc h.length) (k0.set h.length (hv 1 ds w))=some (.nx ρ,(k0.set h.length (hv 1 ds w)).set h.length (hv 2 ds w)):=fun ρ=>yfs n1 (by decide) (by kernel_rfl!)
 have n2:=N (d':=hv 2 ds w) n1
 rw [List.set_set] at s2 n2
 have s3:∀ ρ,fL [14] "nth" ρ (.int 0) (.loc h.length) (k0.set h.length (hv 2 ds w))=some (.nx ρ,(k0.set h.length (hv 2 ds w)).set h.length (hv 3 ds w)):=fun ρ=>yfs n2 (by decide) (by kernel_rfl!)
 have n3:=N (d':=hv 3 ds w) n2
 rw [List.set_set] at s3 n3
 have s4:∀ ρ,fL [14] "sleeps" ρ (.bl false) (.loc h.length) (k0.set h.length (hv 3 ds w))=some (.nx ρ,(k0.set h.length (hv 3 ds w)).set h.length (hv 4 ds w)):=fun ρ=>yfs n3 (by decide) (by kernel_rfl!)
 have n4:=N (d':=hv 4 ds w) n3
 rw [List.set_set] at s4 n4
 have s5:∀ ρ,fL [14] "before" ρ (.lst (Z8.map .int)) (.loc h.length) (k0.set h.length (hv 4 ds w))=some (.nx ρ,(k0.set h.length (hv 4 ds w)).set h.length (hv 5 ds w)):=fun ρ=>yfs n4 (by decide) (by kernel_rfl!)
 have n5:=N (d':=hv 5 ds w) n4
 rw [List.set_set] at s5 n5
 obtain ⟨h',c',q1,q2⟩:=yjp (rows:=rows) (nth:=0) (bf:=Z8) (w:=w) (ds:=ds) (fl 0 n5 (by decide) (by rfl') rfl) (fl 1 n5 (by decide) (by rfl') rfl) (fl 2 n5 (by decide) (by rfl') rfl) (fl 4 n5 (by decide) (by rfl') rfl) hr
 have R:∀ m,At h m->RR w rows ((h.length,hv 5 ds w)::m) h' c' (S0 Z8):=fun m A=>q2 _ (by
  have A1:=At.new (Nd.ins 14 [] []) (a:=[]) A
  rw [hk0] at A1
  exact At.upd (a:=[]) (hv 5 ds w) A1)
 have e0:At h []:=⟨List.nodup_nil,fun p hp=>by simp at hp⟩
 have n6:h'[h.length]?=some (hv 5 ds w):=(R [] e0).rest.get 0 rfl
 have s6:∀ ρ,fL [14] "run" ρ (.loc c'.rn) (.loc h.length) h'=some (.nx ρ,h'.set h.length (ydR ds w 0 false Z8 c'.rn)):=fun ρ=>yfs n6 (by decide) (by kernel_rfl!)
 refine ⟨_,c',?_,fun m A=>RR.urest (a:=[]) _ (R m A)⟩
 have l0:∀ k,yR [.lst ds] k=some (.lst ds,k):=fun _=>rfl
 unfold ybn
 rw [yp]
 show ob (ym _ _ [.val (.loc h.length),.val (.lst ds),.val (.int w)] k0) fnK=_
 simp_all? only [yyI,l0,s1,s2,s3,s4]
 rw [if_pos (by decide),show PV.lst (repL ((8:Nat):Int).toNat [PV.int 0])=.lst (Z8.map .int) from rfl]
 simp_all? only [yyI,s5,yhn,yY (m:="new_run") n5 (by rfl'),q1,s6]
end
section
variable {h:AH}
theorem yCd {i:Int}(hi:0<=i/\i<B64):ycJ [.int i] h=some (.bl true,h):=by
 have e1:ydL [.int i] h=some (.bl true,h):=by kernel_rfl!
 have e2:(0<=i)=True:=eq_true hi.1
 have e3:(i<18446744073709551616)=True:=eq_true hi.2
 unfold ycJ
 rw [yp]
 show ob (yO _ [.val (.int i)] h) fnK=_
 simp_all? only [e1,e2,e3]
theorem ysy {ρ:PSt}:∀ bx:List Int,(∀ i∈bx,0<=i/\i<B64)->yhA (yM ycJ (yc (yf 0) (yh))) (yfb [] ρ) (bx.map .int) h=some (replicate bx.length (.bl true),h)
 | [],_=>rfl
 | i::bx,hb=>by
  show ob (ycJ [.int i] h) _=_
  rw [yCd (hb i mem_cons_self),ybK]
  show ob (yhA _ _ (bx.map .int) h) _=_
  rw [ysy bx fun j hj=>hb j (mem_cons_of_mem _ hj),ybK]
  rfl
theorem ysz:∀ n,yhD (replicate n (PV.bl true))=some (replicate n true)
 | 0=>rfl
 | n+1=>by
  rw [List.replicate_succ,List.replicate_succ]
  unfold yhD
  simp only [ysz n]
  try rfl
theorem yvo {bx:List Int}(h1:1<=bx.length) (h16:bx.length<=16) (hb:∀ i∈bx,0<=i/\i<B64):ydd [.lst (bx.map .int)] h=some (.non,h):=by
 have e1:=ysy (h:=h) (ρ:=[.val (.lst (bx.map .int))]) bx hb
 have e2:yvP [.lst (replicate bx.length (PV.bl true))] h=some (.bl true,h):=by
  unfold yvP ybw
  simp only [ysz]
  rw [List.all_eq_true.mpr fun x hx=>by rw [List.eq_of_mem_replicate hx];rfl]
 have i1:xIL (yf 0) [.val (.lst (bx.map .int))] h=some (bx.map .int,h):=rfl
 have l1:(((bx.map PV.int).length:Nat):Int)=bx.length:=by rw [length_map]
 have l2:((1:Int)<=(bx.length:Nat))=True:=eq_true (by omega)
 have l3:(((bx.length:Nat):Int)<=16)=True:=eq_true (by omega)
 have l4:((bx.map PV.int).length<=100000)=True:=eq_true (by rw [length_map];omega)
 unfold ydd
 rw [yp]
 show ob (ym _ _ [.val (.lst (bx.map .int))] h) fnK=_
 simp_all? only [l1,l2,l3,l4,i1,e1,e2]
end
noncomputable def av (k nu ma cr en:Nat):Nd:=.ins 15 ((["numbers","marks","crew","entries"]:List Str).take k) (([.loc nu,.loc ma,.loc cr,.loc en]:List PV).take k)
def hd0 (ds:List (Str×List Rw)):HD:=⟨ds.map yiB,0,false,Z8,match ds with|[]=>[]|d::_=>d.2.map yW,S0 Z8⟩
theorem yFS:∀ ds:List (Str×List Rw),Due (hd0 ds).ds 0 (hd0 ds).rows
 | []=>.inr ⟨rfl,rfl⟩
 | d::r=>.inl ⟨by simp [hd0],rfl⟩
section
variable {h:AH}{w:Int}
theorem yGt (n:Nat):repL ((n:Nat):Int).toNat [PV.int 0]=(replicate n (0:Int)).map .int:=by
 show (replicate n [PV.int 0]).flatten=_
 rw [List.map_replicate]
 induction n with
 | zero=>rfl
 | succ n ih=>rw [List.replicate_succ,List.replicate_succ,List.flatten_cons,ih];rfl
theorem ysA {bx:List Int}{ρ:PSt}(hρ:∀ x,yfb [1] ρ x=[.val x,.val (.lst (bx.map .int))]):∀ (hs:List (List (Str×List Rw))) (h:AH),∃ h' as,yhA (yhL 14 ybn (yc (yf 0) (yc (xCB (ybP) (yc (yf 1) (yh))) (yh)))) (yfb [1] ρ) (hs.map fun ds=>.lst (ds.map yiB)) h=some ((as.map (·.1)).map .loc,h')/\LyOk as (hs.map hd0)/\∀ m,At h m->At h' (CR bx.length as (hs.map hd0) m)
 | [],h=>⟨h,[],rfl,trivial,fun _ A=>A⟩
 | ds::hs,h=>by
  obtain ⟨h1,c1,q1,q2⟩:=ysx (h:=h) (w:=bx.length) (yFS ds)
  obtain ⟨h',as,q3,q4,q5⟩:=ysA hρ hs h1
  have lw:(((bx.map PV.int).length:Nat):Int)=bx.length:=by rw [length_map]
  have e0:At h []:=⟨List.nodup_nil,fun p hp=>by simp at hp⟩
  refine ⟨h',(h.length,c1)::as,?_,⟨(q2 [] e0).len,q4⟩,fun m A=>?_⟩
  .show ob (yhL 14 ybn _ (yfb [1] ρ (.lst (ds.map yiB))) h) _=_
   rw [hρ,yrl]
   have q1:ybn [.loc h.length,.lst (ds.map yiB),.int bx.length] (h++[Nd.ins 14 [] []])=some (.non,h1):=q1
   simp_all? only [lw,q1,q3]
   rfl
  .have R:=q2 m A
   have A1:At h1 (HN bx.length (h.length,c1) (hd0 ds) m):=by
    have A2:=R.at_
    rw [yim] at A2
    show At h1 ((h.length,ydR (ds.map yiB) bx.length 0 false Z8 c1.rn)::RM _ _ _ _ _)
    rw [yim]
    exact A2.perm List.perm_middle.symm
   have A3:=q5 _ A1
   rw [yeH,ygO] at A3
   show At h' (HN bx.length (h.length,c1) (hd0 ds) (CR bx.length as (hs.map hd0) m))
   rw [ygO,yeH]
   exact A3.perm (List.perm_append_comm_assoc _ _ _)
theorem ysB {bx:List Int}{hs:List (List (Str×List Rw))}(h1:1<=bx.length) (h16:bx.length<=16) (hb:∀ i∈bx,0<=i/\i<B64) (hd:∀ p∈hs,p.length<=6/\∀ d∈p,Rdb d) (hh1:1<=hs.length) (hh8:hs.length<=8) :
  ∃ h' g as,ybZ [.loc h.length,.lst (bx.map .int),.lst (hsV hs)] (h++[Nd.ins 15 [] []])=some (.non,h')/\g.H=h.length/\∀ m,At h m->HH h' g bx.length bx (replicate bx.length 0) [] as (hs.map hd0) m:=by
 have e0:At h []:=⟨List.nodup_nil,fun p hp=>by simp at hp⟩
 have A0:∀ m,At h m->At (h++[Nd.ins 15 [] []]) ((h.length,.ins 15 [] [])::m):=fun m A=>At.new _ (a:=[]) A
 have c0:=yvo (h:=h++[Nd.ins 15 [] []]) h1 h16 hb
 generalize h++[Nd.ins 15 [] []]=k0 at *
 have A1:∀ m,At h m->At (k0++[Nd.lst (bx.map .int)]) ((h.length,.ins 15 [] [])::(k0.length,.lst (bx.map .int))::m):=fun m A=>At.new _ (a:=[_]) (A0 m A)
 have s1:∀ ρ,fL [15] "numbers" ρ (.loc k0.length) (.loc h.length) (k0++[Nd.lst (bx.map .int)])=some (.nx ρ,(k0++[Nd.lst (bx.map .int)]).set h.length (av 1 k0.length 0 0 0)):=fun ρ=>yfs ((A1 [] e0).get 0 rfl) (by decide) (by kernel_rfl!)
 have A2:=fun m A=>At.upd (a:=[]) (av 1 k0.length 0 0 0) (A1 m A)
 generalize hnu:k0.length=nu at *
 generalize (k0++[Nd.lst (bx.map .int)]).set h.length (av 1 nu 0 0 0)=k1 at *
 have A3:∀ m,At h m->At (k1++[Nd.lst ((replicate bx.length (0:Int)).map .int)]) ((h.length,av 1 nu 0 0 0)::(nu,.lst (bx.map .int))::(k1.length,.lst ((replicate bx.length (0:Int)).map .int))::m):=fun m A=>At.new _ (a:=[_,_]) (A2 m A)
 have s2:∀ ρ,fL [15] "marks" ρ (.loc k1.length) (.loc h.length) (k1++[Nd.lst ((replicate bx.length (0:Int)).map .int)])=some (.nx ρ,(k1++[Nd.lst ((replicate bx.length (0:Int)).map .int)]).set h.length (av 2 nu k1.length 0 0)):=fun ρ=>yfs ((A3 [] e0).get 0 rfl) (by decide) (by kernel_rfl!)
 have A4:=fun m A=>At.upd (a:=[]) (av 2 nu k1.length 0 0) (A3 m A)
 generalize hma:k1.length=ma at *
 generalize (k1++[Nd.lst ((replicate bx.length (0:Int)).map .int)]).set h.length (av 2 nu ma 0 0)=k2 at *
 have F2:Fr h k2:=fun m A=>(A4 m A).sub (((List.Sublist.refl m).cons _).cons _ |>.cons _)
 obtain ⟨k3,q1,q2⟩:=yvn (h:=k2) hd hh1 hh8
 obtain ⟨k4,as,q3,q4,q5⟩:=ysA (bx:=bx) (ρ:=[.val (.loc h.length),.val (.lst (bx.map .int)),.val (.lst (hsV hs))]) (fun _=>rfl) hs k3
 have R4:=fun m A=>q5 _ (q2 _ (A4 m A))
 have R4':∀ m,At h m->At k4 ((h.length,av 2 nu ma 0 0)::(nu,.lst (bx.map .int))::(ma,.lst ((replicate bx.length (0:Int)).map .int))::CR bx.length as (hs.map hd0) m):=fun m A=>by
  have:=R4 m A
  rw [yeH] at this
  rw [yeH]
  exact this.perm (show ([_,_,_]++(CR bx.length as (hs.map hd0) []++m)).Perm (CR bx.length as (hs.map hd0) []++([_,_,_]++m)) from List.perm_append_comm_assoc _ _ _)
 have R5:=fun m A=>At.new (Nd.lst ((as.map (·.1)).map .loc)) (a:=[_,_,_]) (R4' m A)
 have s3:∀ ρ,fL [15] "crew" ρ (.loc k4.length) (.loc h.length) (k4++[Nd.lst ((as.map (·.1)).map .loc)])=some (.nx ρ,(k4++[Nd.lst ((as.map (·.1)).map .loc)]).set h.length (av 3 nu ma k4.length 0)):=fun ρ=>yfs ((R5 [] e0).get 0 rfl) (by decide) (by kernel_rfl!)
 have R6:=fun m A=>At.upd (a:=[]) (av 3 nu ma k4.length 0) (R5 m A)
 generalize hcr:k4.length=cr at *
 generalize (k4++[Nd.lst ((as.map (·.1)).map .loc)]).set h.length (av 3 nu ma cr 0)=k6 at *
 have R7:=fun m A=>At.new (Nd.lst []) (a:=[_,_,_,_]) (R6 m A)
 have s4:∀ ρ,fL [15] "entries" ρ (.loc k6.length) (.loc h.length) (k6++[Nd.lst []])=some (.nx ρ,(k6++[Nd.lst []]).set h.length (av 4 nu ma cr k6.length)):=fun ρ=>yfs ((R7 [] e0).get 0 rfl) (by decide) (by kernel_rfl!)
 have R8:=fun m A=>At.upd (a:=[]) (av 4 nu ma cr k6.length) (R7 m A)
 refine ⟨_,⟨h.length,nu,ma,cr,k6.length⟩,as,?_,rfl,fun m A=>⟨R8 m A,q4⟩⟩
 have l0:∀ k,yR [.lst (bx.map .int)] k=some (.lst (bx.map .int),k):=fun _=>rfl
 have lw:(((bx.map PV.int).length:Nat):Int)=bx.length:=by rw [length_map]
 unfold ybZ
 rw [yp]
 show ob (ym _ _ [.val (.loc h.length),.val (.lst (bx.map .int)),.val (.lst (hsV hs))] k0) fnK=_
 simp_all? only [yyI,c0,l0,hnu,s1,lw]
 rw [if_pos (by omega),yGt]
 have i1:xIL (yM ybY (yc (yf 2) (yh))) [.val (.loc h.length),.val (.lst (bx.map .int)),.val (.lst (hsV hs))] k2=some (hs.map fun p=>.lst (p.map yiB),k3):=by
  unfold xIL
  simp_all? only [q1]
 have l8:((hs.map fun p=>PV.lst (p.map yiB)).length<=100000)=True:=eq_true (by rw [length_map];omega)
 simp_all? only [yyI,hma,s2,i1,l8,q3,hcr,s3,s4]
end
section
variable {h:AH}
theorem yCe {W:Nat}{ps:List Pc}(hW:W<=16) (ok:∀ p∈ps,p.ok W) (hn:ps.length<=7):Rdb (ygL (yhp ps),ylU ps 0++[Rw.lay]):=fun h=>by
 obtain ⟨k1,k2,k3⟩:=ysw hW ok
 have g:OkL (yhp ps):=⟨k1,k2,by omega⟩
 have rl:=yoA ps 0
 have rr:=ypu (h:=hR (h++[rdr (wdL (yhp ps)) 0]) h.length (wdL (yhp ps)) (0+(wdL (yhp ps)).length)) (ts:=yzq ps) (fun t ht=>by
  obtain ⟨p,_,hp⟩:=List.mem_flatMap.mp ht
  exact yCb p t hp) (by rw [yst];omega)
 rw [yst,show ((yzq ps).map fun t=>ybf t.1)=ycn (yhp ps) by rw [ygo,<- ywo,map_map];rfl] at rr
 refine ⟨_,?_,fun m A=>At.seen (d:=rdr (wdL (yhp ps)) 0) (d':=rdr (wdL (yhp ps)) (0+(wdL (yhp ps)).length)) A⟩
 show yM ydN (yc (yM yjf (yc (yf 0) yh)) yh) [.val (.str (ygL (yhp ps)))] h=_
 simp_all? only [yyF g,rr]
 rfl
end
theorem ygz {a b:Str}(e:a.cps.toList=b.cps.toList):a=b:=by
 cases a;cases b
 exact congrArg _ (Array.toList_inj.mp e)
theorem ypv (a b:Str):(a++b).cps.toList=a.cps.toList++b.cps.toList:=Array.toList_append
theorem yjq (s a b:Str) (r:List Str):Str.join s (a::b::r)=a++s++Str.join s (b::r):=rfl
theorem join_1 (s a:Str):Str.join s [a]=a:=rfl
def puS (X Y:Str):Str:="let a "++X++" ; let b "++Y++" ; put a b"
noncomputable def pcX (w:Nat) (X Y:Str):Str:=match w with
 | 0=>"either ( "++puS X Y++" ) or ( wait )"
 | 1=>"either ( "++puS X Y++" ; wait ) or ( )"
 | 2=>"try ( "++puS X Y++" ) on low c ( throw low c )"
 | 3=>"try ( "++puS X Y++" ; throw low b ) on low c ( )"
 | 4=>"try ( either ( "++puS X Y++" ; throw low b ) or ( ) ) on low c ( )"
 | _=>puS X Y
theorem ywr {W:Nat}{p:Pc}(hW:W<=16) (ok:p.ok W):pcX p.w (toString (p.b:Int):String) (toString p.n:String)=ygL (pcT p):=by
 refine .trans ?_ (ydQ _ (ywp hW ok).1).symm
 obtain ⟨w,b,n⟩:=p
 generalize eX:(Str.ofString (toString (b:Int)))=X
 generalize eY:(Str.ofString (toString n))=Y
 match w with
 | 0=>refine ygz ?_;simp only [pcX,puS,pcT,wdL,wdT,wdR,wsd,List.cons_append,List.nil_append,append_nil,yjq,join_1,ypv,append_assoc,eX,eY];kernel_rfl!
 | 1=>refine ygz ?_;simp only [pcX,puS,pcT,wdL,wdT,wdR,wsd,List.cons_append,List.nil_append,append_nil,yjq,join_1,ypv,append_assoc,eX,eY];kernel_rfl!
 | 2=>refine ygz ?_;simp only [pcX,puS,pcT,wdL,wdT,wdR,wsd,List.cons_append,List.nil_append,append_nil,yjq,join_1,ypv,append_assoc,eX,eY];kernel_rfl!
 | 3=>refine ygz ?_;simp only [pcX,puS,pcT,wdL,wdT,wdR,wsd,List.cons_append,List.nil_append,append_nil,yjq,join_1,ypv,append_assoc,eX,eY];kernel_rfl!
 | 4=>refine ygz ?_;simp only [pcX,puS,pcT,wdL,wdT,wdR,wsd,List.cons_append,List.nil_append,append_nil,yjq,join_1,ypv,append_assoc,eX,eY];kernel_rfl!
 | w+5=>refine ygz ?_;simp only [pcX,puS,pcT,wdL,wdT,wdR,wsd,List.cons_append,List.nil_append,append_nil,yjq,join_1,ypv,append_assoc,eX,eY];kernel_rfl!
def ysW (c:Int):Int:=if c%3=1 then c/3%5 else if c%3=2 then 18446744073709551616-1-c/3%5 else c/3%18446744073709551616
theorem ysC (c:Int):0<=ysW c/\ysW c<B64:=by
 unfold ysW B64
 repeat' split
 all_goals omega
section
variable {h:AH}
theorem ygP (c:Int):ybL [.int c] h=some (.int (ysW c),h):=by
 unfold ybL
 rw [yp]
 show ob (ym _ _ [.val (.int c),.no] h) fnK=_
 symm
 unfold ysW
 split
 .rfl
 .split<;>rfl
theorem ygA {ns:List Int}(k:Nat):yX [.scr ns,.int (k:Nat)] h=some (.int (ns.getD k 0),h):=by
 unfold yX
 rw [yp]
 show ob (ym _ _ [.val (.scr ns),.val (.int (k:Nat))] h) fnK=_
 by_cases e:k<ns.length
 .have e1:(((k:Nat):Int)<(ns.length:Nat))=True:=eq_true (by omega)
  have e3:atI ns (k:Nat)=some (ns.getD k 0):=ycw (by rw [List.getElem?_eq_getElem e,getD_eq_getElem?_getD,List.getElem?_eq_getElem e];rfl)
  have e2:ycj (.scr ns) (.int (k:Nat)) h=some (.int (ns.getD k 0),h):=by
   unfold ycj
   simp only [e3]
  simp_all? only [e1,e2,e3]
 .have e1:(((k:Nat):Int)<(ns.length:Nat))=False:=eq_false (by omega)
  rw [show ns.getD k 0=0 by rw [getD_eq_getElem?_getD,getElem?_eq_none (by omega)];rfl]
  simp_all? only [e1]
theorem yyW {n:Int}(hn:0<=n/\n<B64):n.natAbs.log2<1920:=by
 by_cases hz:n.natAbs=0
 .rw [hz];decide
 .rw [Nat.log2_lt hz]
  have e1:n.natAbs<2 ^ 64:=by
   have:(2:Nat) ^ 64=18446744073709551616:=by decide
   rw [this]
   unfold B64 at hn
   omega
  exact lt_of_lt_of_le e1 (Nat.pow_le_pow_right (by decide) (by decide))
theorem yCf {n:Int}(hn:0<=n/\n<B64):ypa [.int n] h=some (.str (toString n:String),h):=by rw [yvS,if_pos (yyW hn)]
theorem yvp {n:Int}(hn:0<=n/\n<B64):(Str.ofString (toString n)).length<=20:=str_len hn.1 (by decide) (Int.lt_trans hn.2 yrM)
end
section
variable {h:AH}
theorem yvq {w b:Nat}{n:Int}(hw:w<8) (hb:b<16) (hn:0<=n/\n<B64):yca [.int (w:Nat),.int (b:Nat),.int n] h=some (.str (pcX w (toString (b:Int):String) (toString n:String)),h):=by
 have bx:(0:Int)<=(b:Nat)/\((b:Nat):Int)<B64:=by unfold B64;omega
 have s1:=yCf (h:=h) bx
 have s2:=yCf (h:=h) hn
 have g1:=eq_true (yyW bx)
 have g2:=eq_true (yyW hn)
 have l1:=yvp bx
 have l2:=yvp hn
 unfold yca
 rw [yp]
 show ob (ym _ _ [.val (.int (w:Nat)),.val (.int (b:Nat)),.val (.int n),.no] h) fnK=_
 simp_all? only [s1,s2,g1,g2]
 have:w=0\/w=1\/w=2\/w=3\/w=4\/w=5\/w=6\/w=7:=by omega
 rcases this with rfl|rfl|rfl|rfl|rfl|rfl|rfl|rfl
 all_goals
  repeat first|rw [if_neg (by omega)]|rw [if_pos (by first|omega|(simp_all? only [yez];omega))]
  rfl
end
theorem ygB:∀ a b:List T,yN (a++b)=yN a++yN b
 | [],_=>rfl
 | t::a,b=>by
  show yey t::yN (a++b)=yey t::(yN a++yN b)
  rw [ygB a b]
theorem yws (p:Pc):yN (pcT p)≠[]:=by
 obtain ⟨w,b,n⟩:=p
 match w with
 | 0=>exact fun z=>by cases z
 | 1=>exact fun z=>by cases z
 | 2=>exact fun z=>by cases z
 | 3=>exact fun z=>by cases z
 | 4=>exact fun z=>by cases z
 | w+5=>exact fun z=>by cases z
theorem ywt:∀ ps:List Pc,Str.join " ; " (ps.map fun p=>ygL (pcT p))=ygL (yhp ps)
 | []=>rfl
 | [p]=>by
  show ygL (pcT p)=ygL (pcT p++[])
  rw [append_nil]
 | p::q::ps=>by
  have ih:=ywt (q::ps)
  show ygL (pcT p)++" ; "++Str.join " ; " ((q::ps).map fun p=>ygL (pcT p))=Str.join " ; " (yN (pcT p++yhp (q::ps)))
  have ne:yN (yhp (q::ps))≠[]:=by
   show yN (pcT q++yhp ps)≠[]
   rw [ygB]
   exact fun z=>yws q (List.append_eq_nil_iff.mp z).1
  rw [ih,ygB,ycF (yws p) ne]
  rfl
noncomputable def pcV (bx:List Int) (c:Int):Pc:=⟨(yia c%8).toNat,(yia c/8%bx.length).toNat,if yia c/200%3=0 then bx.getD (yia c/8%bx.length).toNat 0 else ysW c⟩
theorem ysD {bx:List Int}{c:Int}(h1:1<=bx.length) (hb:∀ i∈bx,0<=i/\i<B64):(pcV bx c).ok bx.length/\(pcV bx c).w<8/\yia c%8=((pcV bx c).w:Nat)/\yia c/8%(bx.length:Nat)=((pcV bx c).b:Nat):=by
 have a:=Int.emod_nonneg (yia c/8) (show (bx.length:Int)≠0 by omega)
 have b:=Int.emod_lt_of_pos (yia c/8) (show (0:Int)<bx.length by omega)
 have hlt:(yia c/8%bx.length).toNat<bx.length:=by omega
 refine ⟨⟨hlt,?_⟩,?_,?_,?_⟩
 .show 0<=(if yia c/200%3=0 then bx.getD (yia c/8%bx.length).toNat 0 else ysW c)/\(if yia c/200%3=0 then bx.getD (yia c/8%bx.length).toNat 0 else ysW c)<B64
  split
  .refine hb _ ?_
   rw [getD_eq_getElem?_getD,List.getElem?_eq_getElem hlt]
   exact getElem_mem hlt
  .exact ysC c
 .show (yia c%8).toNat<8
  omega
 .show _=(((yia c%8).toNat:Nat):Int)
  omega
 .show _=(((yia c/8%bx.length).toNat:Nat):Int)
  omega
section
variable {v:PV}
theorem yEX {f:Nat×Int×Int->PV}{k:Nat}{a b:Int}{m:List (Nat×Int×Int)}(hf:f (k,a,b)=v):ych (sK m) (m.map f) (.inl (k:Int)) v=(sK (ymZ m k a b),(ymZ m k a b).map f):=by
 have e1:∀ m:List (Nat×Int×Int),yqQ (sK m) (.inl (k:Int))=decide (k∈m.map (·.1)):=by
  intro m
  induction m with
  | nil=>rfl
  | cons q m ih =>
   show (if (Sum.inl (q.1:Int):Key)=.inl (k:Int) then true else yqQ (sK m) (.inl (k:Int)))=_
   rw [ih]
   by_cases e:q.1=k
   .rw [if_pos (by rw [e])]
    simp [e]
   .rw [if_neg (fun z=>e (by have:=Sum.inl.inj z;omega))]
    simp [Ne.symm e]
 have e2:∀ m:List (Nat×Int×Int),setK (sK m) (m.map f) (.inl (k:Int)) v=(m.map fun p=>if p.1=k then (k,a,b) else p).map f:=by
  intro m
  induction m with
  | nil=>rfl
  | cons q m ih =>
   show (if (Sum.inl (q.1:Int):Key)=.inl (k:Int) then v::setK (sK m) (m.map f) (.inl (k:Int)) v else f q::setK (sK m) (m.map f) (.inl (k:Int)) v)=f (if q.1=k then (k,a,b) else q)::_
   rw [ih]
   by_cases e:q.1=k
   .rw [if_pos (by rw [e]),if_pos e,hf]
   .rw [if_neg (fun z=>e (by have:=Sum.inl.inj z;omega)),if_neg e]
 unfold ych ymZ
 rw [e1]
 by_cases e:k∈m.map (·.1)
 .rw [if_pos (decide_eq_true e),if_pos e,e2]
  refine Prod.ext ?_ rfl
  show sK m=(m.map fun p=>if p.1=k then (k,a,b) else p).map _
  rw [map_map]
  refine List.map_congr_left fun p _=>?_
  show _=(Sum.inl (((if p.1=k then (k,a,b) else p).1:Nat):Int):Key)
  split
  .rename_i e;rw [e]
  .rfl
 .rw [if_neg (by simp [e]),if_neg e,map_append]
  unfold sK
  rw [map_append,<- hf]
  rfl
end
theorem yyX {m:List (Nat×Int×Int)}{k:Nat}{u v:Int}{p:Nat×Int×Int}(hp:p∈ymZ m k u v):p=(k,u,v)\/p∈m:=by
 unfold ymZ at hp
 split at hp
 .obtain ⟨q,hq,e⟩:=List.mem_map.mp hp
  split at e
  .exact .inl e.symm
  .exact .inr (e ▸ hq)
 .rcases List.mem_append.mp hp with z|z
  .exact .inr z
  .exact .inl (List.mem_singleton.mp z)
theorem yvr (m:List (Nat×Int×Int)) (k:Nat) (u v:Int):(ymZ m k u v).map (·.1)=if k∈m.map (·.1) then m.map (·.1) else m.map (·.1)++[k]:=by
 unfold ymZ
 split
 .rw [map_map]
  refine List.map_congr_left fun p _=>?_
  show (if p.1=k then (k,u,v) else p).1=p.1
  split
  .rename_i e;exact e.symm
  .rfl
 .simp
theorem ysE:∀ m:List (Nat×Int×Int),yqZ (sK m)=some (m.map fun p=>(p.1:Int))
 | []=>rfl
 | p::m=>by
  show (yqZ (sK m)).map ((p.1:Int)::·)=_
  rw [ysE m]
  rfl
def pr2 (p:Nat×Int×Int):Nat×Int:=(p.1,p.2.1)
theorem ykc (m:List (Nat×Int×Int)) (hl:m.length<64):∃ l:List (Nat×Int),sortI (sK m) (sA m)=some (l.map ybI)/\l.Perm (m.map pr2):=by
 have ez:(m.map fun p=>(p.1:Int)).zip (sA m)=m.map fun p=>((p.1:Int),PV.int p.2.1):=by
  unfold sA
  rw [List.zip_map']
 have pm:=yeR (m.map fun p=>((p.1:Int),PV.int p.2.1))
 refine ⟨(ypg (m.map fun p=>((p.1:Int),PV.int p.2.1))).map fun q=>(q.1.toNat,match q.2 with|.int v=>v|_=>0),?_,?_⟩
 .unfold sortI
  simp only [ysE]
  rw [if_pos (by rw [length_map];omega),ez,map_map]
  refine congrArg some (List.map_congr_left fun q hq=>?_)
  obtain ⟨p,_,rfl⟩:=List.mem_map.mp (pm.mem_iff.mp hq)
  show PV.tup [.int (p.1:Int),.int p.2.1]=PV.tup [.int (((p.1:Int).toNat:Nat):Int),.int p.2.1]
  rw [Int.toNat_natCast]
 .have:=pm.map fun q:Int×PV=>(q.1.toNat,match q.2 with|.int v=>v|_=>0)
  rw [map_map] at this
  refine this.trans (List.Perm.of_eq (List.map_congr_left fun p _=>?_))
  show ((p.1:Int).toNat,p.2.1)=(p.1,p.2.1)
  rw [Int.toNat_natCast]
theorem yvs {l l':List (Nat×Int)}(e:l.Perm l'):(l.map (·.1)).Nodup->∀ bx,ylS bx l=ylS bx l':=by
 induction e with
 | nil=>exact fun _ _=>rfl
 | cons x _ ih=>exact fun nd bx=>ih (List.nodup_cons.mp nd).2 _
 | swap x y l =>
  intro nd bx
  have ne:y.1≠x.1:=fun z=>(List.nodup_cons.mp nd).1 (by show y.1∈x.1::_;rw [z];exact mem_cons_self)
  show ylS ((bx.set y.1 y.2).set x.1 x.2) l=ylS ((bx.set x.1 x.2).set y.1 y.2) l
  rw [List.set_comm _ _ ne]
 | trans p1 _ ih1 ih2=>exact fun nd bx=>(ih1 nd bx).trans (ih2 ((p1.map _).nodup_iff.mp nd) bx)
theorem yoB:∀ m:List (Nat×Int×Int),ymM (sK m) (sA m)=m.map fun p=>ybI (pr2 p)
 | []=>rfl
 | p::m=>by
  show PV.tup [.int (p.1:Int),.int p.2.1]::ymM (sK m) (sA m)=_
  rw [yoB m]
  rfl
def pcM (p:Pc) (m:List (Nat×Int×Int)):List (Nat×Int×Int):=match p.w with|1=>m|3=>m|4=>m|_=>ymZ m p.b p.n 0
def ydJ (ps:List Pc):List (Nat×Int×Int):=ps.foldl (fun m p=>pcM p m) []
theorem ysF {p:Pc}{m:List (Nat×Int×Int)}:(p.w=1\/p.w=3\/p.w=4)/\pcM p m=m\/¬ (p.w=1\/p.w=3\/p.w=4)/\pcM p m=ymZ m p.b p.n 0:=by
 obtain ⟨w,b,n⟩:=p
 match w with
 | 0=>exact .inr ⟨by simp,rfl⟩
 | 1=>exact .inl ⟨by simp,rfl⟩
 | 2=>exact .inr ⟨by simp,rfl⟩
 | 3=>exact .inl ⟨by simp,rfl⟩
 | 4=>exact .inl ⟨by simp,rfl⟩
 | w+5=>exact .inr ⟨by show ¬ (w+5=1\/w+5=3\/w+5=4);omega,rfl⟩
theorem yvt {m:List (Nat×Int×Int)}{b:Nat}{n:Int}:ych (sK m) (sA m) (.inl (b:Int)) (.int n)=(sK (ymZ m b n 0),sA (ymZ m b n 0)):=yEX (f:=fun p=>.int p.2.1) rfl
theorem yEY (p:Pc) (m:List (Nat×Int×Int)):pcD p (sK m,sA m)=(sK (pcM p m),sA (pcM p m)):=by
 obtain ⟨w,b,n⟩:=p
 match w with
 | 0=>exact yvt
 | 1=>rfl
 | 2=>exact yvt
 | 3=>rfl
 | 4=>rfl
 | w+5=>exact yvt
theorem ywu:∀ (ps:List Pc) (m:List (Nat×Int×Int)),yCF ps (sK m,sA m)=(sK (ps.foldl (fun m p=>pcM p m) m),sA (ps.foldl (fun m p=>pcM p m) m))
 | [],_=>rfl
 | p::ps,m=>by
  show yCF ps (pcD p (sK m,sA m))=_
  rw [yEY]
  exact ywu ps (pcM p m)
structure MO (W k:Nat) (m:List (Nat×Int×Int)):Prop where
 nd:(m.map (·.1)).Nodup
 hb:∀ p∈m,p.1<W
 len:m.length<=k
theorem MO.put {W k b:Nat}{n:Int}{m:List (Nat×Int×Int)}(M:MO W k m) (hb:b<W):MO W (k+1) (ymZ m b n 0):=by
 refine ⟨?_,fun p hp=>?_,?_⟩
 .rw [yvr]
  split
  .exact M.nd
  .rename_i e
   rw [List.nodup_append]
   exact ⟨M.nd,by simp,fun a ha b hb=>by rw [List.mem_singleton.mp hb];exact fun z=>e (z ▸ ha)⟩
 .rcases yyX hp with rfl|z
  .exact hb
  .exact M.hb p z
 .have:=M.len
  unfold ymZ
  split
  .rw [length_map];omega
  .rw [length_append];show m.length+1<=_;omega
theorem MO.step {W k:Nat}{p:Pc}{m:List (Nat×Int×Int)}(M:MO W k m) (ok:p.ok W):MO W (k+1) (pcM p m):=by
 rcases ysF (p:=p) (m:=m) with ⟨_,e⟩|⟨_,e⟩
 .rw [e];exact ⟨M.nd,M.hb,Nat.le_succ_of_le M.len⟩
 .rw [e];exact M.put ok.1
theorem yvu (ps:List Pc) (p:Pc):ydJ (ps++[p])=pcM p (ydJ ps):=by
 unfold ydJ
 rw [List.foldl_append]
 rfl
theorem MO.fold {W:Nat}:∀ (ps:List Pc) (k:Nat) (m:List (Nat×Int×Int)),MO W k m->(∀ p∈ps,p.ok W)->MO W (k+ps.length) (ps.foldl (fun m p=>pcM p m) m)
 | [],k,m,M,_=>M
 | p::ps,k,m,M,ok=>by
  have:=MO.fold ps (k+1) (pcM p m) (M.step (ok p mem_cons_self)) fun q hq=>ok q (mem_cons_of_mem _ hq)
  show MO W (k+(ps.length+1)) _
  rw [show k+(ps.length+1)=k+1+ps.length by omega]
  exact this
theorem ynf {W:Nat}{ps:List Pc}(ok:∀ p∈ps,p.ok W):MO W ps.length (ydJ ps):=by
 have:=MO.fold ps 0 [] ⟨List.nodup_nil,(fun p hp=>by cases hp),Nat.le_refl 0⟩ ok
 rw [Nat.zero_add] at this
 exact this
def txP (p:Pc):PV:=.str (ygL (pcT p))
section
variable {h:AH}
theorem yCg {w:Nat}(hw:w<8):yCy true (.int (w:Nat)) (.lst [.int 1,.int 3,.int 4]) h=some (.bl (!decide (w=1\/w=3\/w=4)),h):=by
 have:w=0\/w=1\/w=2\/w=3\/w=4\/w=5\/w=6\/w=7:=by omega
 rcases this with rfl|rfl|rfl|rfl|rfl|rfl|rfl|rfl
 all_goals rfl
theorem yEZ {b0 dk:Nat}{bx:List Int}{m:List (Nat×Nd)}{ps:List Pc}{c:Int}{v0 v5 v6 v7 v8:PVar}(A:At h ((dk,.dct (sK (ydJ ps)) (sA (ydJ ps)))::(b0,.lst (bx.map .int))::m)) (h1:1<=bx.length) (h16:bx.length<=16) (hb:∀ i∈bx,0<=i/\i<B64) (ok:∀ p∈ps,p.ok bx.length) (hn:ps.length<100) :
  ∃ h' v5' v6' v7' v8',deB [v0,.val (.loc b0),.own (.lst (ps.map txP)),.val (.loc dk),.val (.int c),v5,v6,v7,v8] h=some (.nx [v0,.val (.loc b0),.own (.lst ((ps++[pcV bx c]).map txP)),.val (.loc dk),.val (.int c),v5',v6',v7',v8'],h')/\At h' ((dk,.dct (sK (ydJ (ps++[pcV bx c]))) (sA (ydJ (ps++[pcV bx c]))))::(b0,.lst (bx.map .int))::m):=by
 obtain ⟨o1,o2,o3,o4⟩:=ysD (c:=c) h1 hb
 have tx:=ywr h16 o1
 have en:(if yia c/200%3=0 then bx.getD (pcV bx c).b 0 else ysW c)=(pcV bx c).n:=rfl
 have M:=ynf ok
 rw [yvu]
 generalize pcV bx c=p at *
 have mx:c*48271%2147483647=yia c:=rfl
 have mk:MulOk c 48271=True:=ynJ (by decide) (by decide)
 have eb:=A.get 1 rfl
 have ed:=A.get 0 rfl
 have ln:=ygl eb
 rw [length_map] at ln
 have lz:((0:Int)<((bx.length:Nat):Int))=True:=eq_true (by omega)
 have ix:=ygv eb o1.1
 have hp16:p.b<16:=lt_of_lt_of_le o1.1 h16
 have pe:=yvq (h:=h) (w:=p.w) (b:=p.b) (n:=p.n) o2 hp16 o1.2
 rw [tx] at pe
 have inn:=yCg (h:=h) o2
 have ap:∀ v5,yfA 2 (yM yca (yc (yf 6) (yc (yf 7) (yc (yf 8) (yh))))) [v0,.val (.loc b0),.own (.lst (ps.map txP)),.val (.loc dk),.val (.int c),v5,.val (.int (p.w:Nat)),.val (.int (p.b:Nat)),.val (.int p.n)] h=some (.nx [v0,.val (.loc b0),.own (.lst ((ps++[p]).map txP)),.val (.loc dk),.val (.int c),v5,.val (.int (p.w:Nat)),.val (.int (p.b:Nat)),.val (.int p.n)],h):=fun v5=>by
  rw [ynQ (xs:=ps.map txP) rfl,show yM yca (yc (yf 6) (yc (yf 7) (yc (yf 8) (yh)))) [v0,.val (.loc b0),.own (.lst (ps.map txP)),.val (.loc dk),.val (.int c),v5,.val (.int (p.w:Nat)),.val (.int (p.b:Nat)),.val (.int p.n)] h=yca [.int (p.w:Nat),.int (p.b:Nat),.int p.n] h from rfl,pe,ybK,if_pos (by rw [length_map];omega),map_append]
  rfl
 have dp:=yoo (h:=h) (n:=dk) (i:=(p.b:Nat)) (x:=.int p.n) (ed:=yf 3) (ek:=yf 7) (ev:=yf 8) (ρ:=[v0,.val (.loc b0),.own (.lst ((ps++[p]).map txP)),.val (.loc dk),.val (.int c),.val (.int (yia c)),.val (.int (p.w:Nat)),.val (.int (p.b:Nat)),.val (.int p.n)]) rfl rfl rfl ed (by unfold sK;rw [length_map];have:=M.len;omega)
 rw [yvt] at dp
 have nb:=ygP (h:=h) c
 unfold deB
 rcases ysF (p:=p) (m:=ydJ ps) with ⟨e1,e2⟩|⟨e1,e2⟩
 .rw [e2]
  refine ⟨h,.val (.int (yia c)),.val (.int (p.w:Nat)),.val (.int (p.b:Nat)),.val (.int p.n),?_,A⟩
  rw [decide_eq_true e1] at inn
  by_cases e3:yia c/200%3=0
  .rw [if_pos e3] at en
   rw [en] at ix
   simp_all? only [mk,mx,ln,lz,o3,o4,nb,e3,ix,ap,inn]
  .rw [if_neg e3] at en
   have e3:=eq_false e3
   simp_all? only [mk,mx,ln,lz,o3,o4,nb,e3,en,ap,inn]
 .rw [e2]
  refine ⟨_,.val (.int (yia c)),.val (.int (p.w:Nat)),.val (.int (p.b:Nat)),.val (.int p.n),?_,At.upd (a:=[]) (.dct (sK (ymZ (ydJ ps) p.b p.n 0)) (sA (ymZ (ydJ ps) p.b p.n 0))) A⟩
  rw [decide_eq_false e1] at inn
  by_cases e3:yia c/200%3=0
  .rw [if_pos e3] at en
   rw [en] at ix
   simp_all? only [mk,mx,ln,lz,o3,o4,nb,e3,ix,ap,inn,dp]
  .rw [if_neg e3] at en
   have e3:=eq_false e3
   simp_all? only [mk,mx,ln,lz,o3,o4,nb,e3,en,ap,inn,dp]
end
theorem yCh {X Y:Str}(hX:X.length<=20) (hY:Y.length<=20):(puS X Y).length<=80:=by
 have e:(puS X Y).length=("let a ":Str).length+X.length+(" ; let b ":Str).length+Y.length+(" ; put a b":Str).length:=by simp only [puS,yez]
 rw [e,show ("let a ":Str).length=6 by rfl',show (" ; let b ":Str).length=9 by rfl',show (" ; put a b":Str).length=10 by rfl']
 omega
theorem yyY {w:Nat}{X Y:Str}(hX:X.length<=20) (hY:Y.length<=20):(pcX w X Y).length<=300:=by
 have hp:=yCh hX hY
 have k:∀ a b:Str,a.length<=100->b.length<=100->(a++puS X Y++b).length<=300:=fun a b ha hb=>by rw [yez,yez];omega
 match w with
 | 0=>exact k _ _ (by rfl') (by rfl')
 | 1=>exact k _ _ (by rfl') (by rfl')
 | 2=>exact k _ _ (by rfl') (by rfl')
 | 3=>exact k _ _ (by rfl') (by rfl')
 | 4=>exact k _ _ (by rfl') (by rfl')
 | w+5=>exact Nat.le_trans hp (by decide)
theorem yyZ {W:Nat}{p:Pc}(hW:W<=16) (ok:p.ok W):(ygL (pcT p)).length<=300:=by
 rw [<- ywr hW ok]
 have:=ok.1
 exact yyY (yvp (by unfold B64;omega)) (yvp ok.2)
theorem ysG {W:Nat}(hW:W<=16):∀ {ps:List Pc},(∀ p∈ps,p.ok W)->((ps.map fun p=>ygL (pcT p)).map (·.length)).sum<=300*ps.length
 | [],_=>Nat.le_refl _
 | p::ps,ok=>by
  have h1:=yyZ hW (ok p mem_cons_self)
  have h2:=ysG hW (ps:=ps) fun q hq=>ok q (mem_cons_of_mem _ hq)
  show (ygL (pcT p)).length+((ps.map fun p=>ygL (pcT p)).map (·.length)).sum<=300*(ps.length+1)
  omega
theorem yza {W:Nat}{h:AH}{ps:List Pc}(hW:W<=16) (ok:∀ p∈ps,p.ok W) (hn:ps.length<=7):ypb (.str " ; ") [.lst (ps.map txP)] h=some (.str (ygL (yhp ps)),h):=by
 have l:=ysG hW ok
 rw [<- ywt]
 refine yBw (ts:=ps.map fun p=>ygL (pcT p)) ?_ (by rfl') (by rw [length_map];omega)
 rw [<- yiW,map_map]
 rfl
section
variable {h:AH}{b0:Nat}{bx:List Int}{m:List (Nat×Nd)}
theorem yzb {cs:List Int}(A:At h ((b0,.lst (bx.map .int))::m)) (h1:1<=bx.length) (h16:bx.length<=16) (hb:∀ i∈bx,0<=i/\i<B64) (hc:cs.length<=7) :
  ∃ h' dk,ybt [.lst (cs.map .int),.loc b0] h=some (.tup [.str (ygL (yhp (cs.map (pcV bx)))),.loc dk],h')/\At h' ((dk,.dct (sK (ydJ (cs.map (pcV bx)))) (sA (ydJ (cs.map (pcV bx)))))::(b0,.lst (bx.map .int))::m):=by
 have A0:=At.new (a:=[]) (.dct [] []) A
 have pok:∀ c,(pcV bx c).ok bx.length:=fun c=>(ysD h1 hb).1
 obtain ⟨ρ',h',e,v4,v5,v6,v7,v8,rfl,A'⟩:=yhF (g:=yu 4) (s:=deB) (xs:=cs.map PV.int) (h:=h++[.dct [] []]) (ρ:=[.val (.lst (cs.map .int)),.val (.loc b0),.own (.lst []),.val (.loc h.length),.no,.no,.no,.no,.no]) (fun i ρ h'=>∃ v4 v5 v6 v7 v8,ρ=[.val (.lst (cs.map .int)),.val (.loc b0),.own (.lst (((cs.take i).map (pcV bx)).map txP)),.val (.loc h.length),v4,v5,v6,v7,v8]/\At h' ((h.length,.dct (sK (ydJ ((cs.take i).map (pcV bx)))) (sA (ydJ ((cs.take i).map (pcV bx)))))::(b0,.lst (bx.map .int))::m)) ⟨_,_,_,_,_,rfl,A0⟩ (by
  rintro i x ρ h' hx ⟨v4,v5,v6,v7,v8,rfl,A⟩
  rw [getElem?_map] at hx
  cases hc':cs[i]? with
  | none=>rw [hc'] at hx;cases hx
  | some c =>
   rw [hc'] at hx
   cases hx
   obtain ⟨h2,w5,w6,w7,w8,q1,A2⟩:=yEZ (c:=c) (v0:=.val (.lst (cs.map .int))) (v5:=v5) (v6:=v6) (v7:=v7) (v8:=v8) A h1 h16 hb (fun p hp=>by obtain ⟨c,_,rfl⟩:=List.mem_map.mp hp;exact pok c) (by rw [length_map,length_take];omega)
   have et:(cs.take (i+1)).map (pcV bx)=(cs.take i).map (pcV bx)++[pcV bx c]:=by rw [List.take_add_one,hc',map_append];rfl
   exact ⟨_,_,h2,rfl,.inl q1,_,w5,w6,w7,w8,by rw [et],by rw [et];exact A2⟩)
 rw [length_map,take_length] at A' e
 refine ⟨h',h.length,?_,A'⟩
 have jn:=yza (h:=h') (ps:=cs.map (pcV bx)) h16 (fun p hp=>by obtain ⟨c,_,rfl⟩:=List.mem_map.mp hp;exact pok c) (by rw [length_map];exact hc)
 have i1:xIL (yf 0) [.val (.lst (cs.map .int)),.val (.loc b0),.own (.lst []),.val (.loc h.length),.no,.no,.no,.no,.no] (h++[.dct [] []])=some (cs.map .int,h++[.dct [] []]):=ymR rfl
 have dn:∀ (ρ:PSt) (h:AH),ylk ρ h=some (.dct [] [],h):=fun _ _=>rfl
 unfold ybt
 rw [yp]
 show ob (ym _ (ym _ (ym (ymz _ _ deB) _)) [.val (.lst (cs.map .int)),.val (.loc b0),.no,.no,.no,.no,.no,.no,.no] h) fnK=_
 simp_all? only [dn,i1,e,jn]
end
section
variable {h:AH}{n:Nat}{xs:List Int}
theorem yoC (e:h[n]?=some (.lst (xs.map .int))) (hl:xs.length<1000):ycR [.lst (xs.map .int),.loc n] h=some (.bl true,h):=by
 have ln:=ygl e
 rw [length_map] at ln
 have l2:∀ h,ybP [.lst (xs.map .int)] h=some (.int (xs.length:Nat),h):=fun h=>by
  show some (PV.int ((xs.map PV.int).length:Nat),h)=_
  rw [length_map]
 have i1:yqC (yc (xCB (ybP) (yc (yf 1) (yh))) (yh)) [.val (.lst (xs.map .int)),.val (.loc n),.no] h=some (yhC 0 xs.length,h):=by
  unfold yqC
  simp_all? only [ln]
  rw [if_pos (by omega)]
  rfl
 obtain ⟨ρ',h',q,v2,rfl,eh⟩:=yhF (g:=yu 2) (s:=whB) (xs:=yhC 0 xs.length) (h:=h) (ρ:=[.val (.lst (xs.map .int)),.val (.loc n),.no]) (fun i ρ h'=>∃ v2,ρ=[.val (.lst (xs.map .int)),.val (.loc n),v2]/\h'=h) ⟨_,rfl,rfl⟩ (by
  rintro i x ρ h' hx ⟨v2,rfl,rfl⟩
  obtain ⟨hi,rfl⟩:=yqV hx
  rw [zero_add]
  have ix:=ygv e hi
  have a3:atI (xs.map PV.int) (i:Nat)=some (.int (xs.getD i 0)):=ycw (by rw [getElem?_map,getD_eq_getElem?_getD,List.getElem?_eq_getElem hi];rfl)
  have iy:ycj (.lst (xs.map .int)) (.int (i:Nat)) h'=some (.int (xs.getD i 0),h'):=by
   unfold ycj
   simp only [a3]
  refine ⟨[.val (.lst (xs.map .int)),.val (.loc n),.val (.int (i:Nat))],[.val (.lst (xs.map .int)),.val (.loc n),.val (.int (i:Nat))],h',rfl,.inl ?_,_,rfl,rfl⟩
  have b1:∀ (i:Int) (h:AH),yiA ydC [.int i,.ty "int"] h=some (.bl true,h):=fun _ _=>rfl
  have b2:∀ (i:Int) (h:AH),yiA ydC [.int i,.ty "bool"] h=some (.bl false,h):=fun _ _=>rfl
  unfold whB
  simp_all? only [ix,iy,a3,b1,b2]
)
 rw [eh] at q
 have b3:yiA ydC [.lst (xs.map .int),.ty "list"] h=some (.bl true,h):=rfl
 unfold ycR
 rw [yp]
 show ob (ym _ (ym (ymz _ _ whB) _) [.val (.lst (xs.map .int)),.val (.loc n),.no] h) fnK=_
 simp_all? only [b3,ln,l2,i1,q]
end
abbrev Dq:=Nat×List Pc
def dqM (d:Dq):Nat×Nd:=(d.1,.dct (sK (ydJ d.2)) (sA (ydJ d.2)))
def dqV (d:Dq):PV:=.tup [.str (ygL (yhp d.2)),.loc d.1]
def dqR (d:Dq):Str×List Rw:=(ygL (yhp d.2),ylU d.2 0++[Rw.lay])
theorem ysH {l l':List (Nat×Int)}(e:l.Perm l'):(l.map (·.1)).Nodup->∀ sp,ylT sp l=ylT sp l':=by
 induction e with
 | nil=>exact fun _ _=>rfl
 | cons x _ ih=>exact fun nd sp=>ih (List.nodup_cons.mp nd).2 _
 | swap x y l =>
  intro nd sp
  have ne:y.1≠x.1:=fun z=>(List.nodup_cons.mp nd).1 (by show y.1∈x.1::_;rw [z];exact mem_cons_self)
  show ylT ((sp.set y.1 (sp.getD y.1 0+1)).set x.1 ((sp.set y.1 (sp.getD y.1 0+1)).getD x.1 0+1)) l=ylT ((sp.set x.1 (sp.getD x.1 0+1)).set y.1 ((sp.set x.1 (sp.getD x.1 0+1)).getD y.1 0+1)) l
  have g1:(sp.set y.1 (sp.getD y.1 0+1)).getD x.1 0=sp.getD x.1 0:=by
   rw [getD_eq_getElem?_getD,getElem?_set_ne ne,<- getD_eq_getElem?_getD]
  have g2:(sp.set x.1 (sp.getD x.1 0+1)).getD y.1 0=sp.getD y.1 0:=by
   rw [getD_eq_getElem?_getD,getElem?_set_ne (Ne.symm ne),<- getD_eq_getElem?_getD]
  rw [g1,g2,List.set_comm _ _ ne]
 | trans p1 _ ih1 ih2=>exact fun nd sp=>(ih1 nd sp).trans (ih2 ((p1.map _).nodup_iff.mp nd) sp)
section
variable {h:AH}{ns:List Int}{g:HC}{bx bx' sp sp' hs:List Int}{en:List PV}{as as2:List (Nat×Lc)}{xs xs2:List HD}{a:Nat×Lc}{x:HD}{n b0 s0:Nat}{w:Int}{own:List (Nat×Nd)}
theorem HH.mem {d:Nd}(X:HH h g w bx sp en as xs own) (e:(n,d)∈own):h[n]?=some d:=by
 obtain ⟨i,hi⟩:=List.mem_iff_getElem?.mp e
 exact X.get i hi
theorem ysI {n:Nat}{xs:List PV}(e:ygX (eqP (n+1) h) xs xs=some true):eqP (n+2) h (.tup xs) (.tup xs)=some true:=by
 show (match ygX (eqP (n+1) h) xs xs with|some b=>some (b && xs.length == xs.length)|none=>none)=_
 rw [e]
 simp
theorem yFa {xs:List PV}(e:ygX (eqP 40 h) xs xs=some true):ypB (.lst xs) (.lst xs) h=some (.bl false,h):=by
 unfold ypB pairE ybw
 simp only [e,if_true]
 rfl
theorem yoD {n:Nat}:∀ l:List (Nat×Int),ygX (eqP (n+2) h) (l.map ybI) (l.map ybI)=some true
 | []=>rfl
 | _::l=>yfP (ysI (yfP ysr (yfP ysr rfl))) (yoD l)
noncomputable def lwP (v0 v1:PVar) (b0:Nat) (v3 v4:PVar) (D:List PV) (v6:PVar) (H s0:Nat) (v9 v10 v11:PVar):PSt:=[v0,v1,.val (.loc b0),v3,v4,.val (.lst D),v6,.val (.loc H),.val (.loc s0),v9,v10,v11]
theorem ysJ {v0 v1 v3 v4 v6 v11:PVar}{D:List PV}{o2:List (Nat×Nd)}{H:Nat}:∀ (m:List (Nat×Int×Int)) (h:AH) (bx sp:List Int) (v9 v10:PVar),HH h g w bx' sp' en as xs ((b0,.lst (bx.map .int))::(s0,.lst (sp.map .int))::o2)->(∀ p∈m,p.1<bx.length)->sp.length=bx.length ->
  ∃ h' v9' v10',ygb (yzi 2 (ylf (yu 9) (ylf (yu 10) (yAm)))) fiB (m.map fun p=>ybI (pr2 p)) (lwP v0 v1 b0 v3 v4 D v6 H s0 v9 v10 v11) h=some (.nx (lwP v0 v1 b0 v3 v4 D v6 H s0 v9' v10' v11),h')/\HH h' g w bx' sp' en as xs ((b0,.lst ((ylS bx (m.map pr2)).map .int))::(s0,.lst ((ylT sp (m.map pr2)).map .int))::o2)
 | [],h,bx,sp,v9,v10,X,_,_=>⟨h,v9,v10,rfl,X⟩
 | p::m,h,bx,sp,v9,v10,X,hb,hl=>by
  have hp:=hb p mem_cons_self
  have X1:=X.upd (o1:=[]) (.lst ((bx.set p.1 p.2.1).map .int))
  have s1:ygj (yf 2) (yf 9) (yf 10) (lwP v0 v1 b0 v3 v4 D v6 H s0 (.val (.int (p.1:Nat))) (.val (.int p.2.1)) v11) h=some (.nx (lwP v0 v1 b0 v3 v4 D v6 H s0 (.val (.int (p.1:Nat))) (.val (.int p.2.1)) v11),h.set b0 (.lst ((bx.set p.1 p.2.1).map .int))):=yko rfl rfl rfl (X.get 0 rfl) hp
  have X2:=X1.upd (o1:=[_]) (.lst ((sp.set p.1 (sp.getD p.1 0+1)).map .int))
  have ix:=ygv (X1.get 1 rfl) (show p.1<sp.length by omega)
  have s2:ygj (yf 8) (yf 9) (xOp yhk (xOp (ycj) (yf 8) (yf 9)) (xC (.int 1))) (lwP v0 v1 b0 v3 v4 D v6 H s0 (.val (.int (p.1:Nat))) (.val (.int p.2.1)) v11) (h.set b0 (.lst ((bx.set p.1 p.2.1).map .int)))=some (.nx (lwP v0 v1 b0 v3 v4 D v6 H s0 (.val (.int (p.1:Nat))) (.val (.int p.2.1)) v11),(h.set b0 (.lst ((bx.set p.1 p.2.1).map .int))).set s0 (.lst ((sp.set p.1 (sp.getD p.1 0+1)).map .int))):=yko (by
   unfold lwP
   simp_all? only [ix]) rfl rfl (X1.get 1 rfl) (by omega)
  have e:fiB (lwP v0 v1 b0 v3 v4 D v6 H s0 (.val (.int (p.1:Nat))) (.val (.int p.2.1)) v11) h=some (.nx (lwP v0 v1 b0 v3 v4 D v6 H s0 (.val (.int (p.1:Nat))) (.val (.int p.2.1)) v11),(h.set b0 (.lst ((bx.set p.1 p.2.1).map .int))).set s0 (.lst ((sp.set p.1 (sp.getD p.1 0+1)).map .int))):=by
   unfold fiB
   rw [ypd,s1,ybK]
   exact s2
  obtain ⟨h',u,v,q1,X'⟩:=ysJ m _ (bx.set p.1 p.2.1) (sp.set p.1 (sp.getD p.1 0+1)) (.val (.int (p.1:Nat))) (.val (.int p.2.1)) X2 (fun r hr=>by rw [length_set];exact hb r (mem_cons_of_mem _ hr)) (by rw [length_set,length_set];exact hl)
  refine ⟨h',u,v,?_,X'⟩
  rw [map_cons,yyS (ρ1:=lwP v0 v1 b0 v3 v4 D v6 H s0 (.val (.int (p.1:Nat))) (.val (.int p.2.1)) v11) rfl e]
  exact q1
theorem yFb {v0 v1 v3 v4 v9 v10 v11:PVar}{H:Nat}{ds1 ds2:List Dq}{d:Dq}(X:HH h g w bx' sp' en as xs ((b0,.lst (bx.map .int))::(s0,.lst (sp.map .int))::(ds1++d::ds2).map dqM)) (hb:∀ p∈ydJ d.2,p.1<bx.length) (hl:sp.length=bx.length) :
  ∃ h' v9' v10',yrr (xOp (yce) (xOp (ycj) (yf 5) (yf 6)) (xC (.int 1))) (yzi 2 (ylf (yu 9) (ylf (yu 10) (yAm)))) fiB (lwP v0 v1 b0 v3 v4 ((ds1++d::ds2).map dqV) (.val (.int (ds1.length:Nat))) H s0 v9 v10 v11) h=some (.nx (lwP v0 v1 b0 v3 v4 ((ds1++d::ds2).map dqV) (.val (.int (ds1.length:Nat))) H s0 v9' v10' v11),h')/\HH h' g w bx' sp' en as xs ((b0,.lst ((ylS bx ((ydJ d.2).map pr2)).map .int))::(s0,.lst ((ylT sp ((ydJ d.2).map pr2)).map .int))::(ds1++d::ds2).map dqM):=by
 have em:(ds1++d::ds2).map dqM=ds1.map dqM++dqM d::ds2.map dqM:=by rw [map_append];rfl
 rw [em] at X ⊢
 have X1:=X.upd (o1:=(b0,.lst (bx.map .int))::(s0,.lst (sp.map .int))::ds1.map dqM) (.fz (sK (ydJ d.2)) (sA (ydJ d.2)))
 obtain ⟨h',u,v,q1,X'⟩:=ysJ (v0:=v0) (v1:=v1) (v3:=v3) (v4:=v4) (v6:=.val (.int (ds1.length:Nat))) (v11:=v11) (D:=(ds1++d::ds2).map dqV) (H:=H) (ydJ d.2) _ bx sp v9 v10 X1 hb hl
 refine ⟨_,u,v,?_,X'.upd (o1:=(b0,.lst ((ylS bx ((ydJ d.2).map pr2)).map .int))::(s0,.lst ((ylT sp ((ydJ d.2).map pr2)).map .int))::ds1.map dqM) (.dct (sK (ydJ d.2)) (sA (ydJ d.2)))⟩
 have i2':atI ((ds1++d::ds2).map dqV) (ds1.length:Nat)=some (dqV d):=ycw (by rw [getElem?_map,getElem?_append_right (Nat.le_refl _),sub_self];rfl)
 have i2:ycj (.lst ((ds1++d::ds2).map dqV)) (.int (ds1.length:Nat)) h=some (dqV d,h):=by
  unfold ycj
  simp only [i2']
 have d1:yce (dqV d) (.int 1) h=some (.loc d.1,h):=rfl
 have ex:xOp (yce) (xOp (ycj) (yf 5) (yf 6)) (xC (.int 1)) (lwP v0 v1 b0 v3 v4 ((ds1++d::ds2).map dqV) (.val (.int (ds1.length:Nat))) H s0 v9 v10 v11) h=some (.loc d.1,h):=by
  unfold lwP
  simp_all? only [i2,i2',d1]
 have ed:h[d.1]?=some (.dct (sK (ydJ d.2)) (sA (ydJ d.2))):=X.mem (by simp [dqM])
 unfold yrr
 rw [ex,ybK]
 simp only [ed]
 rw [yoB,q1,ybK]
end
theorem yCi (l:List (Str×List Rw)) (n:Nat) (hn:n<=l.length):∃ rows,Due (l.map yiB) n rows:=by
 by_cases e:n<l.length
 .exact ⟨_,.inl ⟨by simpa using e,by rw [getElem?_map,List.getElem?_eq_getElem e];rfl⟩⟩
 .exact ⟨[],.inr ⟨by simp;omega,rfl⟩⟩
structure LS (h:AH) (g:HC) (b0 s0:Nat) (ds:List Dq) (W k:Nat):Prop where
 ex:∃ bx sp en a hs rows,bx.length=W/\sp.length=W/\HH h g W bx sp en [a] [⟨(ds.map dqR).map yiB,k,false,hs,rows,S0 hs⟩] ((b0,.lst (bx.map .int))::(s0,.lst (sp.map .int))::ds.map dqM)/\Due ((ds.map dqR).map yiB) k rows/\en.length=k/\hs.length=8/\∀ e∈en,Shp e
section
variable {h:AH}{g:HC}{bx sp hs:List Int}{en rows:List PV}{a:Nat×Lc}{b0 s0 k:Nat}{ds:List Dq}{d:Dq}{o:List (Nat×Nd)}
theorem yzc (X:HH h g bx.length bx sp en [a] [⟨(ds.map dqR).map yiB,k,false,hs,rows,S0 hs⟩] ((b0,.lst (bx.map .int))::(s0,.lst (sp.map .int))::o)) (h1:1<=bx.length) (h16:bx.length<=16) (hbs:sp.length=bx.length) (D:Due ((ds.map dqR).map yiB) k rows) (hd:ds[k]?=some d) (ok:∀ p∈d.2,p.ok bx.length) (hn:d.2.length<=7) (h8:hs.length=8) (hl:en.length<1000) :
  ∃ h' c' hs' rows' ls,yef [.loc g.H,.loc b0,.loc s0] h=some (.bl true,h')/\hs'.length=8/\Due ((ds.map dqR).map yiB) (k+1) rows'/\sortI (sK (ydJ d.2)) (sA (ydJ d.2))=some (ls.map ybI)/\ls.Perm ((ydJ d.2).map pr2) /\
   HH h' g bx.length (ylS bx ls) (ylT sp ls) (en++[.tup [.int 0,.int (k:Nat),.tup [.str "done"],.lst [],.lst (ls.map ybI),.lst (hs'.map .int)]]) [(a.1,c')] [⟨(ds.map dqR).map yiB,k+1,false,hs',rows',S0 hs'⟩] ((b0,.lst (bx.map .int))::(s0,.lst (sp.map .int))::o):=by
 have hk:k<ds.length:=(List.getElem?_eq_some_iff.mp hd).1
 have er:rows=(ylU d.2 0++[Rw.lay]).map yW:=by
  rcases D with ⟨_,e⟩|⟨e,_⟩
  .rw [map_map,getElem?_map,hd] at e
   have:=Option.some.inj e
   exact (PV.lst.inj this).symm
  .rw [length_map,length_map] at e
   omega
 have M:=ynf ok
 obtain ⟨ls,l1,l2⟩:=ykc (ydJ d.2) (by have:=M.len;omega)
 obtain ⟨rows',D'⟩:=yCi (ds.map dqR) (k+1) (by rw [length_map];omega)
 obtain ⟨kk,hs',k1,k2,q1⟩:=ywn (rws:=ylU d.2 0++[Rw.lay]) h16 d.2 0 hs ([],[]) ok h8 (by show 0+_<300;omega) (fun i r e=>by
  have hi:=(List.getElem?_eq_some_iff.mp e).1
  rw [Nat.zero_add,getElem?_append_left hi]
  exact e)
 have eD:yCF d.2 ([],[])=(sK (ydJ d.2),sA (ydJ d.2)):=ywu d.2 []
 rw [eD] at q1
 obtain ⟨h',c',q2,X'⟩:=yss (x:=⟨(ds.map dqR).map yiB,k,false,hs,rows,S0 hs⟩) (xs2:=[]) (as2:=[]) (rws:=ylU d.2 0++[Rw.lay]) (s':=⟨0+(ylU d.2 0).length,hs',[],[(sK (ydJ d.2),sA (ydJ d.2))],[]⟩) (d:=(sK (ydJ d.2),sA (ydJ d.2))) (ls:=ls) (rows':=rows') h1 hbs er (by show k<_;rw [length_map,length_map];exact hk) rfl (by rw [Nat.zero_add,getElem?_append_right (Nat.le_refl _),sub_self];rfl) ⟨k2,rfl,by show 0<90;omega,(fun x hx=>by cases hx),fun e he=>by
   rw [List.mem_singleton.mp he]
   show (sK (ydJ d.2)).length<400
   unfold sK
   rw [length_map]
   have:=M.len
   omega⟩ rfl rfl l1 (fun p hp=>by
   obtain ⟨q,hq,e⟩:=List.mem_map.mp (l2.mem_iff.mp hp)
   rw [<- e]
   exact M.hb q hq) D' hl (fun y hy=>by cases hy) kk (yhC 0 80) h (S0 hs) a .no .no (by rw [ymK];omega) q1 X
 refine ⟨h',c',hs',rows',ls,?_,k2,D',l1,l2,X'⟩
 have i1:yqC (yc (xC (.int 80)) (yh)) [.val (.loc g.H),.val (.loc b0),.val (.loc s0),.no,.no] h=some (yhC 0 80,h):=rfl
 unfold yef
 rw [yp]
 show ob (ym (ymz _ _ gsB) _ [.val (.loc g.H),.val (.loc b0),.val (.loc s0),.no,.no] h) fnK=_
 simp_all? only [i1,q2]
end
section
variable {h:AH}{g:HC}{b0 s0 W k:Nat}{ds:List Dq}{d:Dq}{v0 v1 v3 v4 v9 v10 v11:PVar}
theorem last_eq {en:List PV}{e:PV}:atI (en++[e]) (-1)=some e:=by
 unfold atI ixN
 simp
 rw [if_pos (by omega),bind_some,show (-1+((en.length:Int)+1)).toNat=en.length by omega]
 simp
theorem yFc {n:Nat}{s:Str}:eqP (n+1) h (.str s) (.str s)=some true:=by
 show some (eqV (.str s) (.str s))=_
 rw [yjT rfl]
theorem yzd:ypB (.tup [.int 0,.int (k:Nat),.tup [.str "done"],.lst []]) (.tup [.int 0,.int (k:Nat),.tup [.str "done"],.lst []]) h=some (.bl false,h):=by
 have e:ygX (eqP 40 h) [.int 0,.int (k:Nat),.tup [.str "done"],.lst []] [.int 0,.int (k:Nat),.tup [.str "done"],.lst []]=some true:=yfP ysr (yfP ysr (yfP (ysI (yfP yFc rfl)) (yfP rfl rfl)))
 unfold ypB pairE
 simp only [e]
 rfl
theorem yFd (L:LS h g b0 s0 ds W k) (h1:1<=W) (h16:W<=16) (hd:ds[k]?=some d) (ok:∀ p∈d.2,p.ok W) (hn:d.2.length<=7) (hk:k<100) :
  ∃ h' v9' v10' v11',mlB (lwP v0 v1 b0 v3 v4 (ds.map dqV) (.val (.int (k:Nat))) g.H s0 v9 v10 v11) h=some (.nx (lwP v0 v1 b0 v3 v4 (ds.map dqV) (.val (.int (k:Nat))) g.H s0 v9' v10' v11'),h')/\LS h' g b0 s0 ds W (k+1):=by
 obtain ⟨bx,sp,en,a,hs,rows,hW,hS,X,D,le,h8,shp⟩:=L
 subst hW
 obtain ⟨ds1,ds2,rfl,rfl⟩:∃ ds1 ds2,ds=ds1++d::ds2/\k=ds1.length:=by
  obtain ⟨hlt,e⟩:=List.getElem?_eq_some_iff.mp hd
  refine ⟨ds.take k,ds.drop (k+1),?_,by rw [length_take];omega⟩
  rw [<- e,<- List.drop_eq_getElem_cons hlt,List.take_append_drop]
 obtain ⟨k1,c',hs',rows',ls,q1,h8',D',l1,l2,X1⟩:=yzc X h1 h16 hS D hd ok hn h8 (by omega)
 have M:=ynf ok
 obtain ⟨k2,w9,w10,q2,X2⟩:=yFb (v0:=v0) (v1:=v1) (v3:=v3) (v4:=v4) (v9:=v9) (v10:=v10) (v11:=v11) (H:=g.H) X1 M.hb hS
 have nd2:(((ydJ d.2).map pr2).map (·.1)).Nodup:=by rw [map_map];exact M.nd
 rw [yvs l2.symm nd2 bx,ysH l2.symm nd2 sp] at X2
 have lb:=you ls bx
 have lp:=yov ls sp
 have shp':∀ e∈en++[.tup [.int 0,.int (ds1.length:Nat),.tup [.str "done"],.lst [],.lst (ls.map ybI),.lst (hs'.map .int)]],Shp e:=fun e he=>by
  rcases List.mem_append.mp he with z|z
  .exact shp e z
  .rw [List.mem_singleton.mp z];exact ⟨_,_,_,_,_,_,rfl⟩
 have H2:k2[g.H]?=some (ypr g.nu g.ma g.cr g.en):=X2.at_.get 0 rfl
 have bo:=ywl X2
 have st:=ysq X2
 have jo:=yox X2 shp' (by rw [length_append];show en.length+1<1000;omega)
 have w1:=yoC (X2.get 0 rfl) (by rw [lb];omega)
 have w2:=yoC (X2.get 1 rfl) (by rw [lp];omega)
 have at1:=last_eq (en:=en) (e:=.tup [.int 0,.int (ds1.length:Nat),.tup [.str "done"],.lst [],.lst (ls.map ybI),.lst (hs'.map .int)])
 have ix:ycj (.lst (en++[.tup [.int 0,.int (ds1.length:Nat),.tup [.str "done"],.lst [],.lst (ls.map ybI),.lst (hs'.map .int)]])) (.int (-1)) k2=some (.tup [.int 0,.int (ds1.length:Nat),.tup [.str "done"],.lst [],.lst (ls.map ybI),.lst (hs'.map .int)],k2):=by
  unfold ycj
  simp only [at1]
 have i2':atI ((ds1++d::ds2).map dqV) (ds1.length:Nat)=some (dqV d):=ycw (by rw [getElem?_map,hd];rfl)
 have i2:ycj (.lst ((ds1++d::ds2).map dqV)) (.int (ds1.length:Nat)) k2=some (dqV d,k2):=by
  unfold ycj
  simp only [i2']
 have d1:yce (dqV d) (.int 1) k2=some (.loc d.1,k2):=rfl
 have d4:yce (.tup [.int 0,.int (ds1.length:Nat),.tup [.str "done"],.lst [],.lst (ls.map ybI),.lst (hs'.map .int)]) (.int 4) k2=some (.lst (ls.map ybI),k2):=rfl
 have cu:yky [PV.int 0,.int (ds1.length:Nat),.tup [.str "done"],.lst [],.lst (ls.map ybI),.lst (hs'.map .int)] none (some 4)=[.int 0,.int (ds1.length:Nat),.tup [.str "done"],.lst []]:=rfl
 have ed:k2[d.1]?=some (.dct (sK (ydJ d.2)) (sA (ydJ d.2))):=X2.mem (by simp [dqM])
 have so:yfE (xOp (yce) (xOp (ycj) (yf 5) (yf 6)) (xC (.int 1))) (lwP v0 v1 b0 v3 v4 ((ds1++d::ds2).map dqV) (.val (.int (ds1.length:Nat))) g.H s0 w9 w10 (.val (.tup [.int 0,.int (ds1.length:Nat),.tup [.str "done"],.lst [],.lst (ls.map ybI),.lst (hs'.map .int)]))) k2=some (.lst (ls.map ybI),k2):=by
  unfold yfE lwP
  simp_all? only [i2,i2',d1]
  unfold yjQ
  simp only [ed,l1]
 have n1:=yzd (h:=k2) (k:=ds1.length)
 have n2:=yFa (yoD (h:=k2) (n:=38) ls)
 refine ⟨k2,w9,w10,.val (.tup [.int 0,.int (ds1.length:Nat),.tup [.str "done"],.lst [],.lst (ls.map ybI),.lst (hs'.map .int)]),?_,⟨_,_,_,_,_,_,lb,lp.trans hS,X2,D',by rw [length_append,le];rfl,h8',shp'⟩⟩
 have q3:mlR (lwP v0 v1 b0 v3 v4 ((ds1++d::ds2).map dqV) (.val (.int (ds1.length:Nat))) g.H s0 w9 w10 v11) k2=some (.nx (lwP v0 v1 b0 v3 v4 ((ds1++d::ds2).map dqV) (.val (.int (ds1.length:Nat))) g.H s0 w9 w10 (.val (.tup [.int 0,.int (ds1.length:Nat),.tup [.str "done"],.lst [],.lst (ls.map ybI),.lst (hs'.map .int)]))),k2):=by
  unfold mlR
  unfold lwP at *
  simp_all? only [yhn,yY (m:="boxes") H2 (by rfl'),bo,w1,yY (m:="stamps") H2 (by rfl'),st,w2,yY (m:="journal") H2 (by rfl'),jo,ix,at1,yEk,cu,n1,d4,so,n2]
 unfold mlB
 unfold lwP at *
 simp_all? only [q1,q2,q3]
end
section
variable {h:AH}{g:HC}{bx sp:List Int}{en:List PV}{as:List (Nat×Lc)}{xs:List HD}{b0 s0 W k:Nat}{w:Int}{ds:List Dq}{v0 v1 v3 v4 v6 v9 v10 v11:PVar}{own:List (Nat×Nd)}{p q:Nat×Nd}
theorem HH.swap (X:HH h g w bx sp en as xs (p::q::own)):HH h g w bx sp en as xs (q::p::own):=by
 refine ⟨?_,X.ly⟩
 have A:=X.at_
 rw [yeH,<- append_assoc] at A ⊢
 exact At.perm A ((List.Perm.swap p q own).append_left _)
theorem yCj:∀ n:Nat,repL n [PV.int 0]=(replicate n (0:Int)).map .int
 | 0=>rfl
 | n+1=>by
  have ih:=yCj n
  unfold repL at *
  rw [List.replicate_succ,List.flatten_cons,ih]
  rfl
theorem yCk (L:LS h g b0 s0 ds W ds.length) (hk:ds.length<100):ob (yEA (lwP v0 v1 b0 v3 v4 (ds.map dqV) v6 g.H s0 v9 v10 v11) h) fnK=some (.bl true,h):=by
 obtain ⟨bx,sp,en,a,hs,rows,hW,hS,X,D,le,h8,shp⟩:=L
 have st:=yBX (as1:=[]) (xs1:=[]) X rfl
 have ex:stX ⟨(ds.map dqR).map yiB,ds.length,false,hs,rows,S0 hs⟩ = "ended":=if_pos (by show ds.length=((ds.map dqR).map yiB).length;rw [length_map,length_map])
 rw [ex] at st
 have st:ycQ [.loc g.H,.int 0] h=some (.str "ended",h):=st
 have jo:=yox X shp (by omega)
 have H2:h[g.H]?=some (ypr g.nu g.ma g.cr g.en):=X.at_.get 0 rfl
 have ln:((en.length:Nat):Int)=(ds.length:Nat):=by rw [le]
 unfold yEA
 unfold lwP
 simp_all? only [yhn,yY (m:="state") H2 (by rfl'),st,yY (m:="journal") H2 (by rfl'),jo,ln,length_map]
 try rfl
theorem yFe {v6:PVar}(A:At h ((b0,.lst (bx.map .int))::ds.map dqM)) (h1:1<=bx.length) (h16:bx.length<=16) (hb:∀ i∈bx,0<=i/\i<B64) (hd6:ds.length<=6) (ok:∀ d∈ds,(∀ p∈d.2,p.ok bx.length)/\d.2.length<=7) :
  ∃ h',ob (laU [v0,.val (.int (bx.length:Nat)),.val (.loc b0),v3,v4,.val (.lst (ds.map dqV)),v6,.no,.no,.no,.no,.no] h) fnK=some (.bl true,h'):=by
 obtain ⟨h2,g,as,q1,gH,XX⟩:=ysB (h:=h) (hs:=[ds.map dqR]) h1 h16 hb (fun p hp=>by
  rw [List.mem_singleton.mp hp]
  refine ⟨by rw [length_map];exact hd6,fun r hr=>?_⟩
  obtain ⟨d,hd,rfl⟩:=List.mem_map.mp hr
  exact yCe h16 (ok d hd).1 (ok d hd).2) (by simp) (by simp)
 have X:=XX _ A
 obtain ⟨a,rfl⟩:∃ a,as=[a]:=by
  have l3:=X.ly.len
  match as,l3 with
  | [a],_=>exact ⟨a,rfl⟩
 have X1:=(X.new (.lst ((replicate bx.length (0:Int)).map .int))).swap
 have L:LS (h2++[.lst ((replicate bx.length (0:Int)).map .int)]) g b0 h2.length ds bx.length 0:=⟨⟨bx,_,[],a,Z8,_,rfl,by simp,X1,yFS _,rfl,rfl,fun e he=>by cases he⟩⟩
 obtain ⟨ρ',h5,q5,v6',v9',v10',v11',rfl,L'⟩:=yhF (g:=yu 6) (s:=mlB) (xs:=yhC 0 ds.length) (h:=h2++[.lst ((replicate bx.length (0:Int)).map .int)]) (ρ:=lwP v0 (.val (.int (bx.length:Nat))) b0 v3 v4 (ds.map dqV) v6 g.H h2.length .no .no .no) (fun i ρ h=>∃ v6 v9 v10 v11,ρ=lwP v0 (.val (.int (bx.length:Nat))) b0 v3 v4 (ds.map dqV) v6 g.H h2.length v9 v10 v11/\LS h g b0 h2.length ds bx.length i) ⟨_,_,_,_,rfl,L⟩ (by
  rintro i z ρ h hz ⟨v6,v9,v10,v11,rfl,L⟩
  obtain ⟨hi,rfl⟩:=yqV hz
  rw [zero_add]
  have hd':ds[i]?=some ds[i]:=List.getElem?_eq_getElem hi
  have o:=ok _ (getElem_mem hi)
  obtain ⟨h',w9,w10,w11,e1,e2⟩:=yFd (v0:=v0) (v1:=.val (.int (bx.length:Nat))) (v3:=v3) (v4:=v4) (v9:=v9) (v10:=v10) (v11:=v11) L h1 h16 hd' o.1 o.2 (by omega)
  exact ⟨_,_,h',rfl,.inl e1,_,_,_,_,rfl,e2⟩)
 rw [ymK] at L'
 have q6:=yCk (v0:=v0) (v1:=.val (.int (bx.length:Nat))) (v3:=v3) (v4:=v4) (v6:=v6') (v9:=v9') (v10:=v10') (v11:=v11') L' (by omega)
 refine ⟨h5,?_⟩
 have lb:=yfD (A.get 0 rfl)
 have cm:yhA (xOp (yce) (yf 0) (xC (.int 0))) (yfb [] [v0,.val (.int (bx.length:Nat)),.val (.loc b0),v3,v4,.val (.lst (ds.map dqV)),v6,.no,.no,.no,.no,.no]) (ds.map dqV) h=some ((ds.map dqR).map txV,h):=by
  rw [map_map]
  exact ygk (f:=dqV) (g:=txV ∘ dqR) fun d hd=>rfl
 have l1:((ds.map dqV).length<=100000)=True:=eq_true (by rw [length_map];omega)
 have i5:xIL (yf 5) [v0,.val (.int (bx.length:Nat)),.val (.loc b0),v3,v4,.val (.lst (ds.map dqV)),v6,.no,.no,.no,.no,.no] h=some (ds.map dqV,h):=ymR rfl
 have q1:ybZ [.loc h.length,.lst (bx.map .int),.lst [.lst ((ds.map dqR).map txV)]] (h++[Nd.ins 15 [] []])=some (.non,h2):=q1
 have rp:∀ h,yxy (.lst [.int 0]) (.int (bx.length:Nat)) h=some (.lst ((replicate bx.length (0:Int)).map .int),h):=fun h=>by
  show (if -1000000<=((bx.length:Nat):Int)/\((bx.length:Nat):Int)<=100000/\1*((bx.length:Nat):Int).toNat<=100000 then some (Nd.lst (repL ((bx.length:Nat):Int).toNat [PV.int 0]),h) else none)=_
  rw [if_pos (by omega),Int.toNat_natCast,yCj]
 have i6:yqC (yc (xCB (ybP) (yc (yf 5) (yh))) (yh)) (lwP v0 (.val (.int (bx.length:Nat))) b0 v3 v4 (ds.map dqV) v6 g.H h2.length .no .no .no) (h2++[.lst ((replicate bx.length (0:Int)).map .int)])=some (yhC 0 ds.length,h2++[.lst ((replicate bx.length (0:Int)).map .int)]):=by
  show (if -1000000000<=(((ds.map dqV).length:Nat):Int)/\(((ds.map dqV).length:Nat):Int)<=1000000000 then some (yhC 0 (((ds.map dqV).length:Nat):Int).toNat,_) else none)=_
  rw [length_map,if_pos (by omega)]
  rfl
 unfold lwP at *
 rw [gH] at *
 unfold laU
 simp_all? only [yrl,lb,i5,l1,cm,q1,rp,i6,q5]
 exact q6
end
def bxV (W:Nat) (c:Int):List Int:=(List.range W).map fun (k:Nat)=>ysW (c+31*(k:Int)*k)
theorem yoE (cs:List Int) (lo hi:Option Int):yky (cs.map PV.int) lo hi=(yky cs lo hi).map .int:=by
 unfold yky
 rw [length_map,List.map_take,List.map_drop]
theorem yCl (cs:List Int):(yky cs (some 2) (some 50)).length<=48:=by
 unfold yky
 rw [show (2:Int)=((2:Nat):Int) from rfl,show (50:Int)=((50:Nat):Int) from rfl,HT.sIx_nat,HT.sIx_nat,length_take]
 omega
theorem yCm (cs:List Int) (a b:Nat):(yky cs (some (a:Nat)) (some ((a+b:Nat):Int))).length<=b:=by
 unfold yky
 rw [HT.sIx_nat,HT.sIx_nat,length_take]
 omega
section
variable {h:AH}{ns:List Int}{W b0:Nat}{bx:List Int}
theorem yFf {ρ:PSt}(hρ:ρ[0]?=some (.val (.scr ns))) (h16:W<=16):yhA bxE (yfb [0] ρ) (yhC 0 W) h=some ((bxV W (ns.getD 1 0)).map .int,h):=by
 have c1:yX [.scr ns,.int 1] h=some (.int (ns.getD 1 0),h):=ygA 1
 have hi:∀ x,yfb [0] ρ x=[.val x,.val (.scr ns)]:=fun x=>by
  unfold yfb yqx
  simp [hρ]
 unfold yhC bxV
 rw [map_map]
 refine (ygk (fun k:Nat=>PV.int (0+(k:Int))) _ fun k hk=>?_)
 have hk:=List.mem_range.mp hk
 rw [hi]
 have m1:PX.MulOk 31 (k:Int)=True:=ynJ (by omega) (by omega)
 have m2:PX.MulOk (31*(k:Int)) (k:Int)=True:=ynJ (by omega) (by omega)
 have z:(0:Int)+(k:Int)=k:=by omega
 rw [z]
 unfold bxE
 simp_all? only [c1,m1,m2,ygP]
 rfl
def yze (W:Nat) (ds:List Dq):Prop:=ds.length<=6/\∀ d∈ds,(∀ p∈d.2,p.ok W)/\d.2.length<=7
theorem yoF {cs:List Int}{ds:List Dq}(A:At h ((b0,.lst (bx.map .int))::ds.map dqM)) (h1:1<=bx.length) (h16:bx.length<=16) (hb:∀ i∈bx,0<=i/\i<B64) (hc:cs.length<=7) (D:yze bx.length ds) (hd:ds.length<6) :
  ∃ h' d,ybt [.lst (cs.map .int),.loc b0] h=some (dqV d,h')/\At h' ((b0,.lst (bx.map .int))::(ds++[d]).map dqM)/\yze bx.length (ds++[d]):=by
 obtain ⟨h',dk,q1,A'⟩:=yzb (cs:=cs) A h1 h16 hb hc
 refine ⟨h',(dk,cs.map (pcV bx)),q1,?_,?_,?_⟩
 .rw [map_append]
  refine At.perm A' ?_
  show ((b0,Nd.lst (bx.map .int))::(ds.map dqM++[dqM (dk,cs.map (pcV bx))])).Perm _
  exact ((List.perm_append_comm (l₁:=ds.map dqM) (l₂:=[dqM (dk,cs.map (pcV bx))])).cons _).trans (List.Perm.swap _ _ _)
 .rw [length_append];show ds.length+1<=6;omega
 .intro d hd
  rcases List.mem_append.mp hd with z|z
  .exact D.2 d z
  .rw [List.mem_singleton.mp z]
   exact ⟨fun p hp=>by obtain ⟨c,_,rfl⟩:=List.mem_map.mp hp;exact (ysD h1 hb).1,by show (cs.map (pcV bx)).length<=7;rw [length_map];exact hc⟩
theorem yFg {cs:List Int}{ds:List Dq}{a S:Nat}{v0 v1:PVar}{tl:PSt}(A:At h ((b0,.lst (bx.map .int))::ds.map dqM)) (h1:1<=bx.length) (h16:bx.length<=16) (hb:∀ i∈bx,0<=i/\i<B64) (hS:S<=7) (D:yze bx.length ds) :
  ∃ h' ds',dsB (v0::v1::.val (.loc b0)::.val (.lst (cs.map .int))::.val (.int (S:Nat))::.own (.lst (ds.map dqV))::.val (.int (a:Nat))::tl) h=some (.nx (v0::v1::.val (.loc b0)::.val (.lst (cs.map .int))::.val (.int (S:Nat))::.own (.lst (ds'.map dqV))::.val (.int (a:Nat))::tl),h')/\At h' ((b0,.lst (bx.map .int))::ds'.map dqM)/\yze bx.length ds':=by
 have lo:yhG 5 (v0::v1::.val (.loc b0)::.val (.lst (cs.map .int))::.val (.int (S:Nat))::.own (.lst (ds.map dqV))::.val (.int (a:Nat))::tl) h=some (.int (ds.length:Nat),h):=by
  show some (PV.int ((ds.map dqV).length:Nat),h)=_
  rw [length_map]
 by_cases e:ds.length<6
 .have e1:(((ds.length:Nat):Int)<6)=True:=eq_true (by omega)
  obtain ⟨h',d,q1,A',D'⟩:=yoF (cs:=yky cs (some (a:Nat)) (some ((a+S:Nat):Int))) A h1 h16 hb (Nat.le_trans (yCm cs a S) hS) D e
  refine ⟨h',ds++[d],?_,A',D'⟩
  have ap:yfA 5 (yM ybt (yc (xFz (ywW yxw (yf 3) (ygT (yf 6)) (ygT (xOp yhk (yf 6) (yf 4))))) (yc (yf 2) (yh)))) (v0::v1::.val (.loc b0)::.val (.lst (cs.map .int))::.val (.int (S:Nat))::.own (.lst (ds.map dqV))::.val (.int (a:Nat))::tl) h=some (.nx (v0::v1::.val (.loc b0)::.val (.lst (cs.map .int))::.val (.int (S:Nat))::.own (.lst ((ds++[d]).map dqV))::.val (.int (a:Nat))::tl),h'):=by
   have q2:yM ybt (yc (xFz (ywW yxw (yf 3) (ygT (yf 6)) (ygT (xOp yhk (yf 6) (yf 4))))) (yc (yf 2) (yh))) (v0::v1::.val (.loc b0)::.val (.lst (cs.map .int))::.val (.int (S:Nat))::.own (.lst (ds.map dqV))::.val (.int (a:Nat))::tl) h=some (dqV d,h'):=by
    rw [<- q1,<- yoE]
    rfl
   rw [ynQ (xs:=ds.map dqV) rfl,q2,ybK,if_pos (by rw [length_map];omega),map_append]
   rfl
  unfold dsB
  simp_all? only [lo,e1,ap]
 .have e1:(((ds.length:Nat):Int)<6)=False:=eq_false (by omega)
  refine ⟨h,ds,?_,A,D⟩
  unfold dsB
  simp_all? only [lo,e1]
theorem yzf {cs:List Int}{S N:Nat}{v0 v1:PVar}{tl:PSt}(A:At h [(b0,.lst (bx.map .int))]) (h1:1<=bx.length) (h16:bx.length<=16) (hb:∀ i∈bx,0<=i/\i<B64) (hS:S<=7) :
  ∃ h' ds v6,ygb (yu 6) dsB (yqW 0 (S:Nat) N) (v0::v1::.val (.loc b0)::.val (.lst (cs.map .int))::.val (.int (S:Nat))::.own (.lst [])::.no::tl) h=some (.nx (v0::v1::.val (.loc b0)::.val (.lst (cs.map .int))::.val (.int (S:Nat))::.own (.lst (ds.map dqV))::v6::tl),h')/\At h' ((b0,.lst (bx.map .int))::ds.map dqM)/\yze bx.length ds:=by
 obtain ⟨ρ',h',e,ds,v6,rfl,A',D'⟩:=yhF (g:=yu 6) (s:=dsB) (xs:=yqW 0 (S:Nat) N) (h:=h) (ρ:=v0::v1::.val (.loc b0)::.val (.lst (cs.map .int))::.val (.int (S:Nat))::.own (.lst [])::.no::tl) (fun i ρ h'=>∃ (ds:List Dq) (v6:PVar),ρ=v0::v1::.val (.loc b0)::.val (.lst (cs.map .int))::.val (.int (S:Nat))::.own (.lst (ds.map dqV))::v6::tl/\At h' ((b0,.lst (bx.map .int))::ds.map dqM)/\yze bx.length ds) ⟨[],_,rfl,A,by show 0<=6;omega,fun d hd=>by cases hd⟩ (by
  rintro i x ρ h' hx ⟨ds,v6,rfl,A,D⟩
  have hi:i<N:=by
   have:=(List.getElem?_eq_some_iff.mp hx).1
   simpa [yqW] using this
  have ex:x=.int ((i*S:Nat):Int):=by
   unfold yqW at hx
   rw [getElem?_map,List.getElem?_range hi] at hx
   have:=Option.some.inj hx
   rw [<- this]
   show PV.int (0+(i:Int)*(S:Int))=_
   rw [zero_add,Int.natCast_mul]
  subst ex
  obtain ⟨h2,ds',q1,A2,D2⟩:=yFg (cs:=cs) (a:=i*S) (v0:=v0) (v1:=v1) (tl:=tl) A h1 h16 hb hS D
  exact ⟨_,_,h2,rfl,.inl q1,ds',_,rfl,A2,D2⟩)
 exact ⟨h',ds,v6,e,A',D'⟩
end
section
variable {h:AH}
theorem yCn (ns:List Int) (_:ns.length<=63):∃ h',yuJ [.scr ns] h=some (.bl true,h'):=by
 obtain ⟨W,hW⟩:∃ W:Nat,1+ns.getD 0 0%16=(W:Nat):=⟨(1+ns.getD 0 0%16).toNat,by omega⟩
 obtain ⟨S,hS⟩:∃ S:Nat,1+ns.getD 1 0/7%7=(S:Nat):=⟨(1+ns.getD 1 0/7%7).toNat,by omega⟩
 have h1:1<=W:=by omega
 have h16:W<=16:=by omega
 have s1:1<=S:=by omega
 have s7:S<=7:=by omega
 have c0:yX [.scr ns,.int 0] h=some (.int (ns.getD 0 0),h):=ygA 0
 have c1:∀ h,yX [.scr ns,.int 1] h=some (.int (ns.getD 1 0),h):=fun _=>ygA 1
 have i1:yqC (yc (yf 1) (yh)) [.val (.scr ns),.val (.int (W:Nat)),.no,.no,.no,.no,.no,.no,.no,.no,.no,.no] h=some (yhC 0 W,h):=by
  show (if -1000000000<=((W:Nat):Int)/\((W:Nat):Int)<=1000000000 then some (yhC 0 ((W:Nat):Int).toNat,h) else none)=_
  rw [if_pos (by omega)]
  rfl
 have l1:((yhC 0 W).length<=100000)=True:=eq_true (by simp [yhC];omega)
 have b1:=yFf (h:=h) (ns:=ns) (W:=W) (ρ:=[.val (.scr ns),.val (.int (W:Nat)),.no,.no,.no,.no,.no,.no,.no,.no,.no,.no]) rfl h16
 have bl:(bxV W (ns.getD 1 0)).length=W:=by simp [bxV]
 have bb:∀ i∈bxV W (ns.getD 1 0),0<=i/\i<B64:=fun i hi=>by
  obtain ⟨k,_,rfl⟩:=List.mem_map.mp hi
  exact ysC _
 generalize bxV W (ns.getD 1 0)=bx at *
 have cl:=yCl ns
 generalize hcs:yky ns (some 2) (some 50)=cs at *
 have cc:yky (ns.map PV.int) (some 2) (some 50)=cs.map .int:=by rw [yoE,hcs]
 have lo:∀ h,yR [.lst (cs.map .int)] h=some (.lst (cs.map .int),h):=fun _=>rfl
 subst bl
 have A:At (h++[.lst (bx.map .int)]) [(h.length,.lst (bx.map .int))]:=⟨by simp,fun p hp=>by rw [List.mem_singleton.mp hp];simp⟩
 generalize hk0:h++[.lst (bx.map .int)]=k0 at *
 generalize hb0:h.length=b0 at *
 obtain ⟨k1,ds,v6,q1,A1,D1⟩:=yzf (cs:=cs) (N:=szR 0 (cs.length:Nat) (S:Nat)) (v0:=.val (.scr ns)) (v1:=.val (.int (bx.length:Nat))) (tl:=[.no,.no,.no,.no,.no]) A h1 h16 bb s7
 have i3:yAV (yc (xC (.int 0)) (yc (xCB (ybP) (yc (yf 3) (yh))) (yc (yf 4) (yh)))) [.val (.scr ns),.val (.int (bx.length:Nat)),.val (.loc b0),.val (.lst (cs.map .int)),.val (.int (S:Nat)),.own (.lst []),.no,.no,.no,.no,.no,.no] k0=some (yqW 0 (S:Nat) (szR 0 (cs.length:Nat) (S:Nat)),k0):=by
  have e:(yc (xC (.int 0)) (yc (xCB (ybP) (yc (yf 3) (yh))) (yc (yf 4) (yh)))) [.val (.scr ns),.val (.int (bx.length:Nat)),.val (.loc b0),.val (.lst (cs.map .int)),.val (.int (S:Nat)),.own (.lst []),.no,.no,.no,.no,.no,.no] k0=some ([.int 0,.int (cs.length:Nat),.int (S:Nat)],k0):=by
   show some ([PV.int 0,.int ((cs.map PV.int).length:Nat),.int (S:Nat)],k0)=_
   rw [length_map]
  unfold yAV
  rw [e,ybK]
  exact if_pos ⟨by omega,by omega,by omega,by omega,by omega,by omega⟩
 have lz:∀ v6:PVar,yhG 5 [.val (.scr ns),.val (.int (bx.length:Nat)),.val (.loc b0),.val (.lst (cs.map .int)),.val (.int (S:Nat)),.own (.lst (ds.map dqV)),v6,.no,.no,.no,.no,.no] k1=some (.int (ds.length:Nat),k1):=fun v6=>by
  show some (PV.int ((ds.map dqV).length:Nat),k1)=_
  rw [length_map]
 have fin:∃ h' ds',(ybF (yo (xOp (oEq) (yhG 5) (xC (.int 0)))) (yfA 5 (yM ybt (yc (xFz (yfi (yc (xC (.int 5)) (yh)))) (yc (yf 2) (yh))))) (yI)) [.val (.scr ns),.val (.int (bx.length:Nat)),.val (.loc b0),.val (.lst (cs.map .int)),.val (.int (S:Nat)),.own (.lst (ds.map dqV)),v6,.no,.no,.no,.no,.no] k1=some (.nx [.val (.scr ns),.val (.int (bx.length:Nat)),.val (.loc b0),.val (.lst (cs.map .int)),.val (.int (S:Nat)),.own (.lst (ds'.map dqV)),v6,.no,.no,.no,.no,.no],h')/\At h' ((b0,.lst (bx.map .int))::ds'.map dqM)/\yze bx.length ds':=by
  by_cases e:ds.length=0
  .have e1:(((ds.length:Nat):Int)=0)=True:=eq_true (by omega)
   obtain ⟨h',d,p1,A',D'⟩:=yoF (cs:=[5]) A1 h1 h16 bb (by decide) D1 (by omega)
   refine ⟨h',ds++[d],?_,A',D'⟩
   have ap:yfA 5 (yM ybt (yc (xFz (yfi (yc (xC (.int 5)) (yh)))) (yc (yf 2) (yh)))) [.val (.scr ns),.val (.int (bx.length:Nat)),.val (.loc b0),.val (.lst (cs.map .int)),.val (.int (S:Nat)),.own (.lst (ds.map dqV)),v6,.no,.no,.no,.no,.no] k1=some (.nx [.val (.scr ns),.val (.int (bx.length:Nat)),.val (.loc b0),.val (.lst (cs.map .int)),.val (.int (S:Nat)),.own (.lst ((ds++[d]).map dqV)),v6,.no,.no,.no,.no,.no],h'):=by
    have q2:yM ybt (yc (xFz (yfi (yc (xC (.int 5)) (yh)))) (yc (yf 2) (yh))) [.val (.scr ns),.val (.int (bx.length:Nat)),.val (.loc b0),.val (.lst (cs.map .int)),.val (.int (S:Nat)),.own (.lst (ds.map dqV)),v6,.no,.no,.no,.no,.no] k1=some (dqV d,h'):=p1
    rw [ynQ (xs:=ds.map dqV) rfl,q2,ybK,if_pos (by rw [length_map];omega),map_append]
    rfl
   simp_all? only [lz,e1,ap]
  .have e1:(((ds.length:Nat):Int)=0)=False:=eq_false (by omega)
   refine ⟨k1,ds,?_,A1,D1⟩
   simp_all? only [lz,e1]
 obtain ⟨k2,ds',q2,A2,D2⟩:=fin
 obtain ⟨k3,q3⟩:=yFe (v0:=.val (.scr ns)) (v3:=.val (.lst (cs.map .int))) (v4:=.val (.int (S:Nat))) (v6:=v6) A2 h1 h16 bb D2.1 D2.2
 refine ⟨k3,?_⟩
 unfold yuJ
 rw [yp]
 show ob (ym _ (ym (ycg (yhy (yfj _ _ bxE)) _) (ym _ (ym _ (ym _ (ym (ymz _ _ dsB) (ym (ybF (yo (xOp (oEq) (yhG 5) (xC (.int 0)))) _ _) (yoX 5 laU))))))) [.val (.scr ns),.no,.no,.no,.no,.no,.no,.no,.no,.no,.no,.no] h) fnK=_
 simp_all? only [c0,hW,i1,l1,b1,cc,lo,c1,hS]
 rw [hk0,hb0,i3,ybK,q1,ybK]
 show ob (ym _ (yoX 5 laU) _ k1) fnK=_
 rw [ypd,q2,ybK]
 exact q3
end
end
def top (i:Nat):Stmt:=PySem.Challenge.pw_retryhall_k25_laid_down_and_stamps.main.body.getD i (.Pass ⟨0,0,0,0⟩)
abbrev FR:=Str×Str×Stmt×Nat×List Str
abbrev fRw (x q:Str) (s:Stmt) (k:Nat) (n:List Str):FR:=(x,q,s,k,n)
abbrev mRw (k:Nat) (x:Str) (n:Nat):Nat×Str×Nat:=(k,x,n)
def r0:FR:=fRw "__init__" "Log.__init__" (inClass (top 8) 0) 1 ["self"]
def r1:FR:=fRw "write" "Log.write" (inClass (top 8) 1) 3 ["self","box","number","top"]
def r2:FR:=fRw "begin" "Log.begin" (inClass (top 8) 3) 1 ["self"]
def r3:FR:=fRw "settle" "Log.settle" (inClass (top 8) 4) 1 ["self","top","beneath"]
def r4:FR:=fRw "drop" "Log.drop" (inClass (top 8) 5) 1 ["self"]
def r5:FR:=fRw "saw" "Log.saw" (inClass (top 8) 8) 1 ["self"]
def r6:FR:=fRw "wrote" "Log.wrote" (inClass (top 8) 9) 1 ["self","lowest"]
def r7:FR:=fRw "is_whole" "is_whole" (top 16) 1 ["value"]
def r8:FR:=fRw "is_number" "is_number" (top 17) 1 ["value"]
def r9:FR:=fRw "is_made_of" "is_made_of" (top 23) 2 ["text","signs"]
def r10:FR:=fRw "number_of" "number_of" (top 18) 1 ["text","number"]
def r11:FR:=fRw "is_slot" "is_slot" (top 20) 1 ["text"]
def r12:FR:=fRw "slot_index" "slot_index" (top 21) 1 ["slot"]
def r13:FR:=fRw "is_name" "is_name" (top 22) 1 ["text"]
def r14:FR:=fRw "__init__" "Doer.__init__" (inClass (top 25) 0) 3 ["self","slots","width"]
def r15:FR:=fRw "held_in" "Doer.held_in" (inClass (top 25) 1) 2 ["self","slot"]
def r16:FR:=fRw "hold" "Doer.hold" (inClass (top 25) 2) 3 ["self","slot","number"]
def r17:FR:=fRw "box_at" "Doer.box_at" (inClass (top 25) 3) 2 ["self","place"]
def r18:FR:=fRw "do_put" "Doer.do_put" (inClass (top 25) 5) 3 ["self","place","slot"]
def r19:FR:=fRw "takes" "takes" (top 27) 2 ["begun_by","row"]
def r20:FR:=fRw "__init__" "Run.__init__" (inClass (top 28) 0) 4 ["self","rows","slots","width"]
def r21:FR:=fRw "row" "Run.row" (inClass (top 28) 1) 1 ["self"]
def r22:FR:=fRw "is_stale" "Run.is_stale" (inClass (top 28) 2) 2 ["self","stamps"]
def r23:FR:=fRw "taker_layer" "Run.taker_layer" (inClass (top 28) 3) 2 ["self","row","layer"]
def r24:FR:=fRw "is_looked_over" "Run.is_looked_over" (inClass (top 28) 4) 1 ["self","row"]
def r25:FR:=fRw "go_plain" "Run.go_plain" (inClass (top 28) 7) 2 ["self","row"]
def r26:FR:=fRw "lead" "Run.lead" (inClass (top 28) 8) 2 ["self","row"]
def r27:FR:=fRw "leave" "Run.leave" (inClass (top 28) 10) 2 ["self","row","layer","side","begun_by"]
def r28:FR:=fRw "throw" "Run.throw" (inClass (top 28) 9) 2 ["self","row","number","begun_by"]
def r29:FR:=fRw "go" "Run.go" (inClass (top 28) 6) 1 ["self","row"]
def r30:FR:=fRw "state" "Hand.state" (inClass (top 29) 1) 1 ["self"]
def r31:FR:=fRw "new_run" "Hand.new_run" (inClass (top 29) 2) 1 ["self","rows"]
def r32:FR:=fRw "go_on" "Hand.go_on" (inClass (top 29) 5) 2 ["self","slots"]
def r33:FR:=fRw "__init__" "Hand.__init__" (inClass (top 29) 0) 3 ["self","deeds","width"]
def r34:FR:=fRw "__init__" "Let.__init__" (inClass (top 33) 0) 3 ["self","slot","number"]
def r35:FR:=fRw "__init__" "Put.__init__" (inClass (top 36) 0) 3 ["self","place","slot"]
def r36:FR:=fRw "__init__" "Either.__init__" (inClass (top 38) 0) 3 ["self","parts","others"]
def r37:FR:=fRw "__init__" "Try.__init__" (inClass (top 39) 0) 5 ["self","parts","name","slot","others"]
def r38:FR:=fRw "__init__" "Throw.__init__" (inClass (top 40) 0) 3 ["self","name","slot"]
def r39:FR:=fRw "long" "Let.long" (inClass (top 33) 2) 1 ["self"]
def r40:FR:=fRw "long" "Put.long" (inClass (top 36) 2) 1 ["self"]
def r41:FR:=fRw "long" "Throw.long" (inClass (top 40) 2) 1 ["self"]
def r42:FR:=fRw "long" "Wait.long" (inClass (top 41) 1) 1 ["self"]
def r43:FR:=fRw "list_long" "list_long" (top 31) 1 ["parts"]
def r44:FR:=fRw "long" "Either.long" (inClass (top 38) 2) 1 ["self"]
def r45:FR:=fRw "long" "Try.long" (inClass (top 39) 2) 1 ["self"]
def r46:FR:=fRw "plain_rows" "plain_rows" (top 46) 1 ["part"]
def r47:FR:=fRw "first_row" "first_row" (top 48) 2 ["part","second"]
def r48:FR:=fRw "rows_between" "rows_between" (top 49) 2 ["part","behind"]
def r49:FR:=fRw "list_rows" "list_rows" (top 44) 2 ["parts","first","rows","part"]
def r50:FR:=fRw "part_rows" "part_rows" (top 45) 2 ["part","first"]
def r51:FR:=fRw "sided_rows" "sided_rows" (top 47) 2 ["part","first","behind","second","inner","outer"]
def r52:FR:=fRw "rows_of" "rows_of" (top 43) 1 ["deed"]
def r53:FR:=fRw "__init__" "Reader.__init__" (inClass (top 55) 0) 2 ["self","words"]
def r54:FR:=fRw "words_of" "words_of" (top 54) 1 ["text"]
def r55:FR:=fRw "ahead" "Reader.ahead" (inClass (top 55) 1) 1 ["self"]
def r56:FR:=fRw "taken" "Reader.taken" (inClass (top 55) 2) 1 ["self","word"]
def r57:FR:=fRw "pass_over" "Reader.pass_over" (inClass (top 55) 3) 2 ["self","wanted","word"]
def r58:FR:=fRw "slot_taken" "Reader.slot_taken" (inClass (top 55) 4) 1 ["self","word"]
def r59:FR:=fRw "name_taken" "Reader.name_taken" (inClass (top 55) 5) 1 ["self","word"]
def r60:FR:=fRw "number_taken" "Reader.number_taken" (inClass (top 55) 6) 1 ["self","word","number"]
def r61:FR:=fRw "plain_taken" "Reader.plain_taken" (inClass (top 55) 13) 2 ["self","word","slot","place","name"]
def r62:FR:=fRw "list_taken" "Reader.list_taken" (inClass (top 55) 7) 2 ["self","around","parts"]
def r63:FR:=fRw "side_taken" "Reader.side_taken" (inClass (top 55) 8) 2 ["self","around","parts"]
def r64:FR:=fRw "part_taken" "Reader.part_taken" (inClass (top 55) 9) 2 ["self","around","word"]
def r65:FR:=fRw "either_taken" "Reader.either_taken" (inClass (top 55) 11) 2 ["self","around","parts","others"]
def r66:FR:=fRw "try_taken" "Reader.try_taken" (inClass (top 55) 12) 2 ["self","around","parts","name","slot","others"]
def r67:FR:=fRw "read" "read" (top 53) 1 ["text","reader","deed"]
def r68:FR:=fRw "check_boxes" "check_boxes" (top 60) 1 ["boxes"]
def r69:FR:=fRw "rows_of_deeds" "rows_of_deeds" (top 62) 1 ["texts"]
def r70:FR:=fRw "rows_of_hands" "rows_of_hands" (top 61) 1 ["hands"]
def r71:FR:=fRw "__init__" "Hall.__init__" (inClass (top 63) 0) 3 ["self","boxes","hands"]
def r72:FR:=fRw "boxes" "Hall.boxes" (inClass (top 63) 1) 1 ["self"]
def r73:FR:=fRw "stamps" "Hall.stamps" (inClass (top 63) 2) 1 ["self"]
def r74:FR:=fRw "hand_at" "Hall.hand_at" (inClass (top 63) 4) 2 ["self","hand"]
def r75:FR:=fRw "state" "Hall.state" (inClass (top 63) 5) 2 ["self","hand"]
def r76:FR:=fRw "journal" "Hall.journal" (inClass (top 63) 9) 1 ["self"]
def r77:FR:=fRw "wake_stale" "Hall.wake_stale" (inClass (top 63) 13) 1 ["self","member"]
def r78:FR:=fRw "end_deed" "Hall.end_deed" (inClass (top 63) 14) 5 ["self","hand","end","laid","slots","member"]
def r79:FR:=fRw "lay_down" "Hall.lay_down" (inClass (top 63) 12) 2 ["self","hand","run","laid","pair","box"]
def r80:FR:=fRw "looked_over_told" "Hall.looked_over_told" (inClass (top 63) 11) 3 ["self","hand","row_number","member","row","box"]
def r81:FR:=fRw "turn" "Hall.turn" (inClass (top 63) 10) 2 ["self","hand","member","row_number"]
def r82:FR:=fRw "_law_cell_at" "_law_cell_at" (top 65) 2 ["_law_script","_law_k"]
def r83:FR:=fRw "_law_number_by" "_law_number_by" (top 66) 1 ["_law_cell","_law_part"]
def r84:FR:=fRw "_law_piece" "_law_piece" (top 67) 3 ["_law_way","_law_box","_law_number","_law_put"]
noncomputable def r85:FR:=fRw "_law_deed" "_law_deed" (top 68) 2 ["_law_cells","_law_boxes","_law_pieces","_law_wrote","_law_cell","_law_mixed","_law_way","_law_box","_law_number"]
def r86:FR:=fRw "_law_goes" "_law_goes" (top 69) 3 ["_law_hall","_law_boxes","_law_stamps","_law_k","_law_told"]
def r87:FR:=fRw "_law_whole" "_law_whole" (top 70) 2 ["_law_found","_law_due","_law_k"]
noncomputable def r88:FR:=fRw "law" "law" (top 71) 1 ["_law_script","_law_many","_law_boxes","_law_cells","_law_size","_law_deeds","_law_k","_law_hall","_law_stamps","_law_box","_law_number","_law_entry"]
def fT:List FR:=[r0,r1,r2,r3,r4,r5,r6,r7,r8,r9,r10,r11,r12,r13,r14,r15,r16,r17,r18,r19,r20,r21,r22,r23,r24,r25,r26,r27,r28,r29,r30,r31,r32,r33,r34,r35,r36,r37,r38,r39,r40,r41,r42,r43,r44,r45,r46,r47,r48,r49,r50,r51,r52,r53,r54,r55,r56,r57,r58,r59,r60,r61,r62,r63,r64,r65,r66,r67,r68,r69,r70,r71,r72,r73,r74,r75,r76,r77,r78,r79,r80,r81,r82,r83,r84,r85,r86,r87,r88]
def fR (n:Nat):FR:=fT.getD n r0
def FR.ps (r:FR):List Str:=r.2.2.2.2.take r.2.2.2.1
abbrev fP (n:Nat):List Str:=FR.ps (fR n)
def AllP {α:Type}(p:α->Prop):List α->Prop
 | []=>True
 | c::cs=>p c/\AllP p cs
theorem AllP.get {α:Type}{p:α->Prop}{d:α}(hd:p d):∀ {cs:List α},AllP p cs->∀ k:Nat,p (cs.getD k d)
 | [],_,_=>hd
 | _::_,a,0=>a.1
 | _::_,a,k+1=>AllP.get hd a.2 k
theorem AllP.mem {α:Type}{p:α->Prop}:∀ {cs:List α},AllP p cs->∀ i∈cs,p i
 | c::cs,a,i,hi=>by
  rcases mem_cons.mp hi with rfl|hi
  .exact a.1
  .exact AllP.mem a.2 i hi
theorem ywv:AllP (fun r:FR=>ydV r.2.2.2.2 r.ps (ybv r.2.2.1)) fT:=by
 repeat' first|exact True.intro|refine And.intro ?_ ?_|exact ⟨rfl,rfl,rfl,by rfl',rfl,by rfl',by rfl'⟩
theorem sc (n:Nat) {r:FR}(h:fR n=r:=by rfl):ydV r.2.2.2.2 r.ps (ybv r.2.2.1):=h ▸ AllP.get (p:=fun r:FR=>ydV r.2.2.2.2 r.ps (ybv r.2.2.1)) ywv.1 ywv n
noncomputable def mT:List (Nat×Str×Nat):=[mRw 1 "long" 39,mRw 4 "long" 40,mRw 6 "long" 44,mRw 7 "long" 45,mRw 8 "long" 41,mRw 9 "long" 42,mRw 11 "write" 1,mRw 11 "begin" 2,mRw 11 "settle" 3,mRw 11 "drop" 4,mRw 11 "saw" 5,mRw 11 "wrote" 6,mRw 12 "held_in" 15,mRw 12 "hold" 16,mRw 12 "box_at" 17,mRw 12 "do_put" 18,mRw 12 "row" 21,mRw 12 "is_stale" 22,mRw 12 "taker_layer" 23,mRw 12 "is_looked_over" 24,mRw 12 "go" 29,mRw 12 "go_plain" 25,mRw 12 "lead" 26,mRw 12 "throw" 28,mRw 12 "leave" 27,mRw 14 "state" 30,mRw 14 "new_run" 31,mRw 14 "go_on" 32,mRw 15 "boxes" 72,mRw 15 "stamps" 73,mRw 15 "hand_at" 74,mRw 15 "state" 75,mRw 15 "journal" 76,mRw 15 "wake_stale" 77,mRw 15 "end_deed" 78,mRw 15 "lay_down" 79,mRw 15 "looked_over_told" 80,mRw 15 "turn" 81,mRw 10 "ahead" 55,mRw 10 "taken" 56,mRw 10 "pass_over" 57,mRw 10 "slot_taken" 58,mRw 10 "name_taken" 59,mRw 10 "number_taken" 60,mRw 10 "list_taken" 62,mRw 10 "side_taken" 63,mRw 10 "part_taken" 64,mRw 10 "either_taken" 65,mRw 10 "try_taken" 66,mRw 10 "plain_taken" 61]
noncomputable def gT:List (Str×Nat):=[("is_whole",7),("is_number",8),("is_made_of",9),("number_of",10),("is_slot",11),("slot_index",12),("is_name",13),("takes",19),("list_long",43),("plain_rows",46),("first_row",47),("rows_between",48),("list_rows",49),("part_rows",50),("sided_rows",51),("rows_of",52),("words_of",54),("read",67),("check_boxes",68),("rows_of_deeds",69),("rows_of_hands",70),("_law_cell_at",82),("_law_number_by",83),("_law_piece",84),("_law_deed",85),("_law_goes",86),("_law_whole",87),("law",88)]
def kT:List (Nat×Nat):=[(1,34),(4,35),(6,36),(7,37),(8,38),(10,53),(11,0),(12,20),(13,14),(14,33),(15,71)]
def cT:List Str:=["Part","Let","Reckon","Take","Put","If","Either","Try","Throw","Wait","Reader","Log","Run","Doer","Hand","Hall"]
def zT:List Str:=["all","any","bool","int","isinstance","len","list","range","sorted","str","sum"]
noncomputable def nT:List (Str×List Nat):=[("stack",[11]),("last_seen",[11]),("held",[12]),("width",[12,14]),("log",[12]),("rows",[12]),("at",[10,12]),("seen_stamps",[12]),("sides",[12]),("deeds",[14]),("nth",[14]),("sleeps",[14]),("before",[14]),("run",[14]),("numbers",[15]),("marks",[15]),("crew",[15]),("entries",[15]),("words",[10]),("slot",[1,3,4,7,8]),("number",[1]),("place",[3,4]),("parts",[6,7]),("others",[6,7]),("name",[7,8])]
theorem ml1 {α:Type}{P:List α->Prop}(h:∀ a,P [a]):∀ us:List α,us.length=1->P us
 | [_],_=>h _
theorem ml2 {α:Type}{P:List α->Prop}(h:∀ a b,P [a,b]):∀ us:List α,us.length=2->P us
 | [_,_],_=>h _ _
theorem ml3 {α:Type}{P:List α->Prop}(h:∀ a b c,P [a,b,c]):∀ us:List α,us.length=3->P us
 | [_,_,_],_=>h _ _ _
theorem ml4 {α:Type}{P:List α->Prop}(h:∀ a b c d,P [a,b,c,d]):∀ us:List α,us.length=4->P us
 | [_,_,_,_],_=>h _ _ _ _
theorem ml5 {α:Type}{P:List α->Prop}(h:∀ a b c d e,P [a,b,c,d,e]):∀ us:List α,us.length=5->P us
 | [_,_,_,_,_],_=>h _ _ _ _ _
set_option genInjectivity false in
set_option genSizeOf false in
structure Ads where
 A:Nat->Addr
 fl:Nat->Addr×FuncData
 k_FIGURES:Tok
 k_LETTERS:Tok
 k_MOST_AROUND:Tok
 k_MOST_BOXES:Tok
 k_MOST_DEEDS:Tok
 k_MOST_HANDS:Tok
 k_MOST_ROWS:Tok
 k_SLOTS:Tok
 k_WIDE:Tok
abbrev Ads.a (t:Ads) (n:Nat):Addr:=(t.fl n).1
abbrev Ads.d (t:Ads) (n:Nat):FuncData:=(t.fl n).2
abbrev ysK (K:PySem.W.Frag) (t:Ads):Ck:=⟨K,t.A⟩
structure Txt (K:PySem.W.Frag) (mg:Str->Option Value) (t:Ads):Prop where
 f:∀ n,Fun K (fR n).1 (fR n).2.1 (fR n).2.2.1 (t.a n) (t.d n)
 b:∀ n,Binds K (t.d n) (fP n) []
 G:∀ n,mg (gT.getD n ("is_whole",7)).1=some (.ref (t.a (gT.getD n ("is_whole",7)).2))
 C:∀ n,mg (cT.getD n "Part")=some (.ref (t.A n))
 J:∀ n,Mk K (t.A (kT.getD n (1,34)).1) (t.a (kT.getD n (1,34)).2)
 M:∀ n,Meth K (t.A (mT.getD n (mRw 1 "long" 39)).1) (mT.getD n (mRw 1 "long" 39)).2.1 (t.a (mT.getD n (mRw 1 "long" 39)).2.2)
 mk_Part:makesIn K (t.A 0)=true
 io_Part:findIn K (.ref (t.A 0)) "__init__" = some (some (.builtin "object.__init__"))
 kp_Part:keepIn K (.ref (t.A 0))=true
 mk_Wait:makesIn K (t.A 9)=true
 io_Wait:findIn K (.ref (t.A 9)) "__init__" = some (some (.builtin "object.__init__"))
 kp_Wait:keepIn K (.ref (t.A 9))=true
 cf_Doer:yuE K (t.A 13) "__init__" (t.a 14)
 cl:∀ k,Cls K (t.A k)
 N:∀ n,∀ k∈(nT.getD n ("stack",[11])).2,Cls K (t.A k)/\NoAttr K (t.A k) (nT.getD n ("stack",[11])).1
 isa:∀ r∈ydC,∀ (H:Hp) (a dx:Addr) (fs:List (Str×V)),H a=some (.ins (t.A r.1) dx fs)->IsI K H (.ref a) (.ref (t.A r.2.1)) r.2.2
 Z:∀ n,mg (zT.getD n "all")=none
 m_FIGURES:mg "FIGURES" = some (.str "0123456789" t.k_FIGURES)
 m_LETTERS:mg "LETTERS" = some (.str "abcdefghijklmnopqrstuvwxyz" t.k_LETTERS)
 m_MOST_AROUND:mg "MOST_AROUND" = some (.int 8 t.k_MOST_AROUND)
 m_MOST_BOXES:mg "MOST_BOXES" = some (.int 16 t.k_MOST_BOXES)
 m_MOST_DEEDS:mg "MOST_DEEDS" = some (.int 6 t.k_MOST_DEEDS)
 m_MOST_HANDS:mg "MOST_HANDS" = some (.int 8 t.k_MOST_HANDS)
 m_MOST_ROWS:mg "MOST_ROWS" = some (.int 80 t.k_MOST_ROWS)
 m_SLOTS:mg "SLOTS" = some (.str "abcdefgh" t.k_SLOTS)
 m_WIDE:mg "WIDE" = some (.int 18446744073709551616 t.k_WIDE)
theorem Txt.F {K:PySem.W.Frag}{mg:Str->Option Value}{t:Ads}(T:Txt K mg t) (n:Nat) (r:FR) (h:fR n=r:=by rfl):Fun K r.1 r.2.1 r.2.2.1 (t.a n) (t.d n):=h ▸ T.f n
theorem Txt.k {K:PySem.W.Frag}{mg:Str->Option Value}{t:Ads}(T:Txt K mg t) (n:Nat):keepIn K (.ref (t.a n))=true:=(T.f n).kp
section
variable {P:Program}{w:World}{K:PySem.W.Frag}{mg:Str->Option Value}{base:Heap}{t:Ads}
theorem ycH {n:Nat}{ck:Ck}{vs:List V}{H:Hp}{Q:VK}{E:XK}(h:spE ck n (fun _ _=>none) vs H Q E):False:=by
 obtain ⟨_,_,_,_,_,_,_,_,q,_⟩:=h
 cases q
theorem ydi {f:Addr}{fd:FuncData}{ps:List Str}{k n:Nat}{ck:Ck}:FnOk P w K mg base CX0 k f fd ps (spE ck n fun _ _=>none):=⟨fun vs H Q E h=>(ycH h).elim,fun A outer s H args us vs Q E _ _ _ _ h=>(ycH h).elim⟩
local macro_rules | `(‹($n,$i,$r,$k,$p)›)=>`(FnOk $(Lean.mkIdent `P) $(Lean.mkIdent `w) $(Lean.mkIdent `K) $(Lean.mkIdent `mg) $(Lean.mkIdent `base) CX0 $n ($(Lean.mkIdent `t).a $i) ($(Lean.mkIdent `t).d $i) (FR.ps $r) (spE (ysK $(Lean.mkIdent `K) $(Lean.mkIdent `t)) $k $p))
structure yGu (P:Program) (w:World) (K:PySem.W.Frag) (mg:Str->Option Value) (base:Heap) (t:Ads) (n:Nat):Prop where
 yfu:‹(n+1,43,r43,1,(ybH n))›
 yfR:‹(n+1,44,r44,1,(ydc n))›
 yjr:‹(n+1,45,r45,1,(yeU n))›
 m_long:yml P w K mg base (n+1) t.A "long" (fun k=>spE (ysK K t) 1 (yfJ n k))
structure yGv (P:Program) (w:World) (K:PySem.W.Frag) (mg:Str->Option Value) (base:Heap) (t:Ads) (n:Nat):Prop where
 yio:‹(n+47,49,r49,2,(ycM n))›
 yng:‹(n+47,50,r50,2,(ybo n))›
 ylD:‹(n+47,51,r51,2,(ygI n))›
structure yGw (P:Program) (w:World) (K:PySem.W.Frag) (mg:Str->Option Value) (base:Heap) (t:Ads) (n:Nat):Prop where
 ydj:‹(n+6,62,r62,2,(ybq n))›
 yfv:‹(n+6,63,r63,2,(yL n))›
 yfw:‹(n+6,64,r64,2,(yC n))›
 yeI:‹(n+6,65,r65,2,(ybz n))›
 yfS:‹(n+6,66,r66,2,(ybS n))›
variable (T:Txt K mg t)
include T
theorem yip:FnOk P w K mg base CX0 (0+1) (t.a 34) (t.d 34) (FR.ps r34) (spI (ysK K t) 2 1 ydE):=zin (T.F 34 r34) (sc 34) rfl (by decide) fun cdv Ar outer sh H E hr=>(ybG (ybV (T.N 19) z_v) (ydY (ybV (T.N 20) z_v)))
theorem yiq:FnOk P w K mg base CX0 (0+1) (t.a 35) (t.d 35) (FR.ps r35) (spI (ysK K t) 2 4 ydF):=zin (T.F 35 r35) (sc 35) rfl (by decide) fun cdv Ar outer sh H E hr=>(ybG (ybV (T.N 21) z_v) (ydY (ybV (T.N 19) z_v)))
theorem yfT:FnOk P w K mg base CX0 (0+1) (t.a 36) (t.d 36) (FR.ps r36) (spI (ysK K t) 2 6 ycL):=zin (T.F 36 r36) (sc 36) rfl (by decide) fun cdv Ar outer sh H E hr=>(ybG (ybV (T.N 22) (ycy (ycz yx ybg (T.Z 6) (ya z_v ye)))) (ydY (ybV (T.N 23) (ycy (ycz yx ybg (T.Z 6) (ya z_v ye))))))
theorem yir:FnOk P w K mg base CX0 (0+1) (t.a 37) (t.d 37) (FR.ps r37) (spI (ysK K t) 4 7 ydG):=zin (T.F 37 r37) (sc 37) rfl (by decide) fun cdv Ar outer sh H E hr=>(ybG (ybV (T.N 22) (ycy (ycz yx ybg (T.Z 6) (ya z_v ye)))) (ybG (ybV (T.N 24) z_v) (ybG (ybV (T.N 19) z_v) (ydY (ybV (T.N 23) (ycy (ycz yx ybg (T.Z 6) (ya z_v ye))))))))
theorem ygC:FnOk P w K mg base CX0 (0+1) (t.a 38) (t.d 38) (FR.ps r38) (spI (ysK K t) 2 8 ycW):=zin (T.F 38 r38) (sc 38) rfl (by decide) fun cdv Ar outer sh H E hr=>(ybG (ybV (T.N 24) z_v) (ydY (ybV (T.N 19) z_v)))
theorem ynh:‹(0+1,39,r39,1,yjd)›:=zfn (T.F 39 r39) (sc 39) fun cdv Ar outer sh H E hr=>(yd (yi yk))
theorem yni:‹(0+1,40,r40,1,yje)›:=zfn (T.F 40 r40) (sc 40) fun cdv Ar outer sh H E hr=>(yd (yi yk))
theorem ykr:‹(0+1,41,r41,1,ygG)›:=zfn (T.F 41 r41) (sc 41) fun cdv Ar outer sh H E hr=>(yd (yi yk))
theorem ylE:‹(0+1,42,r42,1,yhY)›:=zfn (T.F 42 r42) (sc 42) fun cdv Ar outer sh H E hr=>(yd (yi yk))
theorem yks:∀ n,yGu P w K mg base t n
 | 0=>⟨ydi,ydi,ydi,fun c=>⟨T.cl c,.inl fun _ _ _ _ h=>ycH h⟩⟩
 | n+1=>by
  have I:=yks n
  have yej:=I.yfu
  have yvv:=I.yfR
  have yzr:=I.yjr
  have G_long:=I.m_long
  exact ⟨zfn (T.F 43 r43) (sc 43) fun cdv Ar outer sh H E hr=>(yd (yi (ydn (ytt rfl) yDk (T.Z 10) (ya (ycy (ygF [] (ydA z_v) (fun _ _ _ _ _ _=>(yrw z_v G_long)))) ye)))),
   zfn (T.F 44 r44) (sc 44) fun cdv Ar outer sh H E hr=>(yd (yi (ycu ycv ydW (ycu ycv ydW yk (yJ yej (T.G 8) (T.k 43) (T.b 43) (ya (yz (T.N 22) z_v) ye))) (yJ yej (T.G 8) (T.k 43) (T.b 43) (ya (yz (T.N 23) z_v) ye))))),
   zfn (T.F 45 r45) (sc 45) fun cdv Ar outer sh H E hr=>(yd (yi (ycu ycv ydW (ycu ycv ydW yk (yJ yej (T.G 8) (T.k 43) (T.b 43) (ya (yz (T.N 22) z_v) ye))) (yJ yej (T.G 8) (T.k 43) (T.b 43) (ya (yz (T.N 23) z_v) ye))))),
   fun c=>⟨T.cl c,match c with|0=>.inl fun _ _ _ _ h=>ycH h|1=>.inr ⟨_,_,_,(T.M 0),(ynh T).mono (by omega),(T.b 39)⟩|2=>.inl fun _ _ _ _ h=>ycH h|3=>.inl fun _ _ _ _ h=>ycH h|4=>.inr ⟨_,_,_,(T.M 1),(yni T).mono (by omega),(T.b 40)⟩|5=>.inl fun _ _ _ _ h=>ycH h|6=>.inr ⟨_,_,_,(T.M 2),I.yfR.mono (by omega),(T.b 44)⟩|7=>.inr ⟨_,_,_,(T.M 3),I.yjr.mono (by omega),(T.b 45)⟩|8=>.inr ⟨_,_,_,(T.M 4),(ykr T).mono (by omega),(T.b 41)⟩|9=>.inr ⟨_,_,_,(T.M 5),(ylE T).mono (by omega),(T.b 42)⟩|10=>.inl fun _ _ _ _ h=>ycH h|11=>.inl fun _ _ _ _ h=>ycH h|12=>.inl fun _ _ _ _ h=>ycH h|13=>.inl fun _ _ _ _ h=>ycH h|14=>.inl fun _ _ _ _ h=>ycH h|15=>.inl fun _ _ _ _ h=>ycH h|c+16=>.inl fun _ _ _ _ h=>ycH h⟩⟩
theorem ykt:‹(0+1,46,r46,1,ygH)›:=zfn (T.F 46 r46) (sc 46) fun cdv Ar outer sh H E hr=>(yb (yE (ybx (ydn yH (yes (K:=ckX _ _) T.isa) (T.Z 4) (ya z_v (ya (yem (T.C 1)) ye)))) (yd (yi (ycy (ycV (ya (ydX (ya yD (ya (yz (T.N 19) z_v) (ya (yz (T.N 20) z_v) ye)))) ye))))) yl) (yb (yE (ybx (ydn yH (yes (K:=ckX _ _) T.isa) (T.Z 4) (ya z_v (ya (yem (T.C 2)) ye)))) (yd yy) yl) (yb (yE (ybx (ydn yH (yes (K:=ckX _ _) T.isa) (T.Z 4) (ya z_v (ya (yem (T.C 3)) ye)))) (yd yy) yl) (yb (yE (ybx (ydn yH (yes (K:=ckX _ _) T.isa) (T.Z 4) (ya z_v (ya (yem (T.C 4)) ye)))) (yd (yi (ycy (ycV (ya (ydX (ya yD (ya (yz (T.N 21) z_v) (ya (yz (T.N 19) z_v) ye)))) ye))))) yl) (yb (yE (ybx (ydn yH (yes (K:=ckX _ _) T.isa) (T.Z 4) (ya z_v (ya (yem (T.C 8)) ye)))) (yd (yi (ycy (ycV (ya (ydX (ya yD (ya (yz (T.N 24) z_v) (ya (yz (T.N 19) z_v) ye)))) ye))))) yl) (yb (yE (ybx (ydn yH (yes (K:=ckX _ _) T.isa) (T.Z 4) (ya z_v (ya (yem (T.C 9)) ye)))) (yd (yi (ycy (ycV (ya (ydX (ya yD ye)) ye))))) yl) (yd (yi (ycy (ycV ye))))))))))
theorem ylF:‹(0+1,47,r47,2,yhZ)›:=zfn (T.F 47 r47) (sc 47) fun cdv Ar outer sh H E hr=>(yb (yE (ybx (ydn yH (yes (K:=ckX _ _) T.isa) (T.Z 4) (ya z_v (ya (yem (T.C 5)) ye)))) (yd yy) yl) (yb (yE (ybx (ydn yH (yes (K:=ckX _ _) T.isa) (T.Z 4) (ya z_v (ya (yem (T.C 6)) ye)))) (yd (yi (ydX (ya yD (ya z_v ye))))) yl) (yd (yi (ydX (ya yD (ya (yz (T.N 24) z_v) (ya (yz (T.N 19) z_v) (ya z_v ye)))))))))
theorem yis:‹(0+1,48,r48,2,yfe)›:=zfn (T.F 48 r48) (sc 48) fun cdv Ar outer sh H E hr=>(yb (yE (ybx (ydn yH (yes (K:=ckX _ _) T.isa) (T.Z 4) (ya z_v (ya (yem (T.C 5)) ye)))) (yd yy) yl) (yd (yi (ycy (ycV (ya (ydX (ya yD ye)) (ya (ydX (ya yD (ya z_v ye))) ye)))))))
theorem ysL:∀ n,yGv P w K mg base t n
 | 0=>⟨ydi,ydi,ydi⟩
 | n+1=>by
  have I:=ysL n
  have yit:=I.yio
  have ynj:=I.yng
  have ylG:=I.ylD
  exact ⟨zfn (T.F 49 r49) (sc 49) fun cdv Ar outer sh H E hr=>have nd:=(sc 49 (r:=r49)).nd;(yb (yjY (ycV ye)) (yb (yhP (ydA z_v) ydB (yd (yBi (yJ ynj (T.G 13) (T.k 50) (T.b 50) (ya z_v (ya (ycu ycv ydW z_v (yry (T.Z 5))) ye)))))) (yev (yd (yi z_v))))),
   zfn (T.F 50 r50) (sc 50) fun cdv Ar outer sh H E hr=>(yb (yE (ymO (yfm (ybx (ydn yH (yes (K:=ckX _ _) T.isa) (T.Z 4) (ya z_v (ya (yem (T.C 5)) ye)))) (yfm (ybx (ydn yH (yes (K:=ckX _ _) T.isa) (T.Z 4) (ya z_v (ya (yem (T.C 6)) ye)))) (yen (ybx (ydn yH (yes (K:=ckX _ _) T.isa) (T.Z 4) (ya z_v (ya (yem (T.C 7)) ye)))))))) (yd (yi (yJ ylG (T.G 14) (T.k 51) (T.b 51) (ya z_v (ya z_v ye))))) yl) (yd (yi (yJ (ykt T) (T.G 9) (T.k 46) (T.b 46) (ya z_v ye))))),
   zfn (T.F 51 r51) (sc 51) fun cdv Ar outer sh H E hr=>have nd:=(sc 51 (r:=r51)).nd;(yb (yv (ycu ycv ydW z_v (yrw z_v (yks T 45).m_long))) (yb (yv (ycu yiQ yoZ z_v (yJ (yks T 45).yfu (T.G 8) (T.k 43) (T.b 43) (ya (yz (T.N 23) z_v) ye)))) (yb (yv (yJ yit (T.G 12) (T.k 49) (T.b 49) (ya (yz (T.N 22) z_v) (ya (ycu ycv ydW z_v yk) ye)))) (yb (yv (yJ yit (T.G 12) (T.k 49) (T.b 49) (ya (yz (T.N 23) z_v) (ya z_v ye)))) (yd (yi (ycy (ymN ynz ytT (ycy (ymN ynz ytT (ycy (ymN ynz ytT (ycy (ycV (ya (yJ (ylF T) (T.G 10) (T.k 47) (T.b 47) (ya z_v (ya z_v ye))) ye))) z_v)) (yJ (yis T) (T.G 11) (T.k 48) (T.b 48) (ya z_v (ya z_v ye))))) z_v))))))))⟩
theorem ypw:‹(92+1,52,r52,1,ydN)›:=zfn (T.F 52 r52) (sc 52) fun cdv Ar outer sh H E hr=>(yd (yi (ycy (ymN ynz ytT (yJ (ysL T 45).yio (T.G 12) (T.k 49) (T.b 49) (ya z_v (ya yk ye))) (ycy (ycV (ya (ydX (ya yD ye)) ye)))))))
theorem yfU:‹(0+1,9,r9,2,ycO)›:=zfn (T.F 9 r9) (sc 9) fun cdv Ar outer sh H E hr=>(yd (yi (ydn (ynA rfl) yAx (T.Z 0) (ya (ycy (ygF ["signs"] (yBf z_v) (fun _ _ _ _ _ _=>(ygZ ykM yAr z_v z_v)))) ye))))
theorem ylH:‹(1+1,10,r10,1,yee)›:=zfn (T.F 10 r10) (sc 10) fun cdv Ar outer sh H E hr=>have nd:=(sc 10 (r:=r10)).nd;(yb (yE (ymO (yfm (ycY (yhl yiC yiC ysS ysS yk (ydn ydp ynE (T.Z 5) (ya z_v ye)) yk)) (yen (ycY (ybx (yJ (yfU T) (T.G 2) (T.k 9) (T.b 9) (ya z_v (ya (ylt T.m_FIGURES) ye)))))))) (yd (yi yls)) yl) (yb (yE (ymO (yrv (yr ybd ycX (ybR yzW yDj z_v yk) yD) (ymP (yr yma yxu z_v yD)))) (yd (yi yls)) yl) (yb (yv (yxY ykN yAv (T.Z 3) (ya z_v ye))) (yd (yi (yxW (yr ymb yxt z_v (yhM T.m_WIDE)) z_v yls))))))
theorem ypx:‹(0+1,11,r11,1,yfH)›:=zfn (T.F 11 r11) (sc 11) fun cdv Ar outer sh H E hr=>(yd (yi (ypk (ygZ ybd ycX (ydn ydp ynE (T.Z 5) (ya z_v ye)) yk) (ypj (ygZ ykM yAr z_v (ylt T.m_SLOTS))))))
theorem ypy:‹(1+1,13,r13,1,yfI)›:=zfn (T.F 13 r13) (sc 13) fun cdv Ar outer sh H E hr=>(yd (yi (ypk (yru yiC yiC ysS ysS yk (ydn ydp ynE (T.Z 5) (ya z_v ye)) yk) (ypj (yJ (yfU T) (T.G 2) (T.k 9) (T.b 9) (ya z_v (ya (ylt T.m_LETTERS) ye)))))))
theorem yiu:‹(0+1,7,r7,1,ydL)›:=zfn (T.F 7 r7) (sc 7) fun cdv Ar outer sh H E hr=>(yd (yi (ypk (ydn yH (yes (K:=ckX _ _) T.isa) (T.Z 4) (ya z_v (ya (yrt (T.Z 3)) ye))) (ypj (yEo (ydn yH (yes (K:=ckX _ _) T.isa) (T.Z 4) (ya z_v (ya (yrt (T.Z 2)) ye))))))))
theorem ylI:‹(1+1,8,r8,1,ycJ)›:=zfn (T.F 8 r8) (sc 8) fun cdv Ar outer sh H E hr=>(yd (yi (ypk (yJ (yiu T) (T.G 0) (T.k 7) (T.b 7) (ya z_v ye)) (ypj (yru yiC ymb ysS yxt yk z_v (yhM T.m_WIDE))))))
theorem yfV:FnOk P w K mg base CX0 (0+1) (t.a 53) (t.d 53) (FR.ps r53) (spI (ysK K t) 1 10 ycN):=zin (T.F 53 r53) (sc 53) rfl (by decide) fun cdv Ar outer sh H E hr=>(ybG (ybV (T.N 18) (ycy (ycz yx ybg (T.Z 6) (ya z_v ye)))) (ydY (ybV (T.N 6) yk)))
theorem ynk:‹(0+1,54,r54,1,yeV)›:=zfn (T.F 54 r54) (sc 54) fun cdv Ar outer sh H E hr=>(yb (yE (yr ybd ycX z_v yD) (yd (yi (ycy (ycV ye)))) yl) (yd (yi (yxZ PySem.F.plainAttrs_str PySem.F.slot_str_split PySem.F.type_str_split yuG m_split z_v (ya yD ye)))))
theorem ycc:‹(0+1,55,r55,1,yQ)›:=zfn (T.F 55 r55) (sc 55) fun cdv Ar outer sh H E hr=>(yb (yE (yr ymb yxt (yz (T.N 6) z_v) (ydn yt yct (T.Z 5) (ya (yz (T.N 18) z_v) ye))) (yd (yi (ybR ybb ycT (yz (T.N 18) z_v) (yz (T.N 6) z_v)))) yl) (yd (yi yls)))
theorem ycd:‹(1+1,56,r56,1,ybj)›:=zfn (T.F 56 r56) (sc 56) fun cdv Ar outer sh H E hr=>have nd:=(sc 56 (r:=r56)).nd;(yb (yv (yq z_v (T.M 38) (ycc T) (T.b 55))) (yb (yE (yr ypU yxv z_v yls) (yd yy) yl) (yb (ybQ (T.N 6) z_v (ycu ycv ydW (yz (T.N 6) z_v) yk)) (yd (yi z_v)))))
theorem ybu:‹(2+1,57,r57,2,yF)›:=zfn (T.F 57 r57) (sc 57) fun cdv Ar outer sh H E hr=>have nd:=(sc 57 (r:=r57)).nd;(yb (yv (yq z_v (T.M 39) (ycd T) (T.b 56))) (yd (yE (yr yma yxu z_v z_v) (yd yy) yl)))
theorem yT:‹(2+1,58,r58,1,yB)›:=zfn (T.F 58 r58) (sc 58) fun cdv Ar outer sh H E hr=>have nd:=(sc 58 (r:=r58)).nd;(yb (yv (yq z_v (T.M 39) (ycd T) (T.b 56))) (yb (yE (ycY (ybx (yJ (ypx T) (T.G 4) (T.k 11) (T.b 11) (ya z_v ye)))) (yd yy) yl) (yd (yi z_v))))
theorem ycZ:‹(2+1,59,r59,1,ybp)›:=zfn (T.F 59 r59) (sc 59) fun cdv Ar outer sh H E hr=>have nd:=(sc 59 (r:=r59)).nd;(yb (yv (yq z_v (T.M 39) (ycd T) (T.b 56))) (yb (yE (ycY (ybx (yJ (ypy T) (T.G 6) (T.k 13) (T.b 13) (ya z_v ye)))) (yd yy) yl) (yd (yi z_v))))
theorem yep:‹(2+1,60,r60,1,yby)›:=zfn (T.F 60 r60) (sc 60) fun cdv Ar outer sh H E hr=>have nd:=(sc 60 (r:=r60)).nd;(yb (yv (yq z_v (T.M 39) (ycd T) (T.b 56))) (yb (yv (yJ (ylH T) (T.G 3) (T.k 10) (T.b 10) (ya z_v ye))) (yb (yE (yr ypU yxv z_v yls) (yd yy) yl) (yd (yi z_v)))))
theorem yeJ:‹(3+1,61,r61,2,ybB)›:=zfn (T.F 61 r61) (sc 61) fun cdv Ar outer sh H E hr=>have nd:=(sc 61 (r:=r61)).nd;(yb (yE (yr ybd ycX z_v yD) (yb (yv (yq z_v (T.M 41) (yT T) (T.b 58))) (yd (yi (ycy (yhO (T.J 0) (yip T) (T.C 1) (T.b 34) (ya z_v (ya (yq z_v (T.M 43) (yep T) (T.b 60)) ye))))))) yl) (yb (yE (yr ybd ycX z_v yD) (yb (yv (yq z_v (T.M 41) (yT T) (T.b 58))) (yd yy)) yl) (yb (yE (yr ybd ycX z_v yD) (yb (yv (yq z_v (T.M 41) (yT T) (T.b 58))) (yd (yi (ycy (yhO (T.J 1) (yiq T) (T.C 4) (T.b 35) (ya z_v (ya (yq z_v (T.M 41) (yT T) (T.b 58)) ye))))))) yl) (yb (yE (yr ybd ycX z_v yD) (yb (yv (yq z_v (T.M 42) (ycZ T) (T.b 59))) (yd (yi (ycy (yhO (T.J 4) (ygC T) (T.C 8) (T.b 38) (ya z_v (ya (yq z_v (T.M 41) (yT T) (T.b 58)) ye))))))) yl) (yb (yE (yr ybd ycX z_v yD) (yd (yi (ycy (yxX T.mk_Wait T.io_Wait T.kp_Wait (T.C 9))))) yl) (yb yy (yd yy)))))))
theorem ysM:∀ n,yGw P w K mg base t n
 | 0=>⟨ydi,ydi,ydi,ydi,ydi⟩
 | n+1=>by
  have I:=ysM n
  have yfx:=I.ydj
  have ybJ:=I.yfv
  have ydk:=I.yfw
  have yeK:=I.yeI
  have yfW:=I.yfS
  exact ⟨zfn (T.F 62 r62) (sc 62) fun cdv Ar outer sh H E hr=>have nd:=(sc 62 (r:=r62)).nd;(yb (yE (ymO (yfm (yr ypU yxv (yq z_v (T.M 38) (ycc T) (T.b 55)) yls) (yen (yr ybd ycX (yq z_v (T.M 38) (ycc T) (T.b 55)) yD)))) (yd (yi (ycy (ycV ye)))) yl) (yb (yjY (ycV (ya (yA z_v (T.M 46) ydk (T.b 64) (ya z_v ye)) ye))) (yb (yjZ (yr ybd ycX (yq z_v (T.M 38) (ycc T) (T.b 55)) yD) (yb (yS (yA z_v (T.M 40) (ybu T) (T.b 57) (ya yD ye))) (yd (ynY (yA z_v (T.M 46) ydk (T.b 64) (ya z_v ye)))))) (yev (yd (yi z_v)))))),
   zfn (T.F 63 r63) (sc 63) fun cdv Ar outer sh H E hr=>have nd:=(sc 63 (r:=r63)).nd;(yb (yS (yA z_v (T.M 40) (ybu T) (T.b 57) (ya yD ye))) (yb (yv (yA z_v (T.M 44) yfx (T.b 62) (ya z_v ye))) (yb (yS (yA z_v (T.M 40) (ybu T) (T.b 57) (ya yD ye))) (yd (yi z_v))))),
   zfn (T.F 64 r64) (sc 64) fun cdv Ar outer sh H E hr=>have nd:=(sc 64 (r:=r64)).nd;(yb (yE (yr ytf yCv z_v (yhM T.m_MOST_AROUND)) (yd yy) yl) (yb (yv (yq z_v (T.M 39) (ycd T) (T.b 56))) (yb (yE (yr ybd ycX z_v yD) (yd yy) yl) (yb (yE (yr ybd ycX z_v yD) (yd (yi (yA z_v (T.M 47) yeK (T.b 65) (ya (ycu ycv ydW z_v yk) ye)))) yl) (yb (yE (yr ybd ycX z_v yD) (yd (yi (yA z_v (T.M 48) yfW (T.b 66) (ya (ycu ycv ydW z_v yk) ye)))) yl) (yd (yi (yA z_v (T.M 49) (yeJ T) (T.b 61) (ya z_v ye))))))))),
   zfn (T.F 65 r65) (sc 65) fun cdv Ar outer sh H E hr=>have nd:=(sc 65 (r:=r65)).nd;(yb (yv (yA z_v (T.M 45) ybJ (T.b 63) (ya z_v ye))) (yb (yS (yA z_v (T.M 40) (ybu T) (T.b 57) (ya yD ye))) (yb (yv (yA z_v (T.M 45) ybJ (T.b 63) (ya z_v ye))) (yd (yi (ycy (yhO (T.J 2) (yfT T) (T.C 6) (T.b 36) (ya z_v (ya z_v ye))))))))),
   zfn (T.F 66 r66) (sc 66) fun cdv Ar outer sh H E hr=>have nd:=(sc 66 (r:=r66)).nd;(yb (yv (yA z_v (T.M 45) ybJ (T.b 63) (ya z_v ye))) (yb (yS (yA z_v (T.M 40) (ybu T) (T.b 57) (ya yD ye))) (yb (yv (yq z_v (T.M 42) (ycZ T) (T.b 59))) (yb (yv (yq z_v (T.M 41) (yT T) (T.b 58))) (yb (yv (yA z_v (T.M 45) ybJ (T.b 63) (ya z_v ye))) (yd (yi (ycy (yhO (T.J 3) (yir T) (T.C 7) (T.b 37) (ya z_v (ya z_v (ya z_v (ya z_v ye)))))))))))))⟩
theorem yzg:‹(51+1,67,r67,1,yjf)›:=zfn (T.F 67 r67) (sc 67) fun cdv Ar outer sh H E hr=>have nd:=(sc 67 (r:=r67)).nd;(yb (yv (yeu (yhO (T.J 5) (yfV T) (T.C 10) (T.b 53) (ya (yJ (ynk T) (T.G 16) (T.k 54) (T.b 54) (ya z_v ye)) ye)))) (yb (yv (yA z_v (T.M 44) (ysM T 45).ydj (T.b 62) (ya yk ye))) (yb (yE (yr ywC yAp (yq z_v (T.M 38) (ycc T) (T.b 55)) yls) (yd yy) yl) (yb (yE (yr ytf yCv (ycu ycv ydW (yJ (yks T 45).yfu (T.G 8) (T.k 43) (T.b 43) (ya z_v ye)) yk) (yhM T.m_MOST_ROWS)) (yd yy) yl) (yd (yi z_v))))))
theorem yiv:FnOk P w K mg base CX0 (0+1) (t.a 0) (t.d 0) (FR.ps r0) (spI (ysK K t) 0 11 yfd):=zin (T.F 0 r0) (sc 0) rfl (by decide) fun cdv Ar outer sh H E hr=>(ybG (ybV (T.N 0) (yeu (ycV (ya (yeu ylu) ye)))) (ydY (ybV (T.N 1) (yeu ylu))))
theorem ylJ:‹(0+1,1,r1,3,yeb)›:=zfn (T.F 1 r1) (sc 1) fun cdv Ar outer sh H E hr=>have nd:=(sc 1 (r:=r1)).nd;(yb (yv (ybR ybb ycT (yz (T.N 0) z_v) (yCD ynr ytR yk))) (yd (yrx z_v z_v z_v)))
theorem ylK:‹(0+1,2,r2,1,yec)›:=zfn (T.F 2 r2) (sc 2) fun cdv Ar outer sh H E hr=>(yd (yS (yxZ plainAttrs_list PySem.F.slot_list_append PySem.F.type_list_append ydK yqP (yz (T.N 0) z_v) (ya (yeu ylu) ye))))
theorem yku:‹(0+1,3,r3,1,ydu)›:=zfn (T.F 3 r3) (sc 3) fun cdv Ar outer sh H E hr=>have nd:=(sc 3 (r:=r3)).nd;(yb (yv (yuy plainAttrs_list slot_list_pop type_list_pop yny ynM (yz (T.N 0) z_v))) (yb (yv (ybR ybb ycT (yz (T.N 0) z_v) (yCD ynr ytR yk))) (yd (yS (yxZ plainAttrs_dict PySem.F.slot_dict_update PySem.F.type_dict_update yBl yEi z_v (ya z_v ye))))))
theorem ynl:‹(0+1,4,r4,1,yeT)›:=zfn (T.F 4 r4) (sc 4) fun cdv Ar outer sh H E hr=>(yd (yS (yuy plainAttrs_list slot_list_pop type_list_pop yny ynM (yz (T.N 0) z_v))))
theorem ypz:‹(0+1,5,r5,1,yfG)›:=zfn (T.F 5 r5) (sc 5) fun cdv Ar outer sh H E hr=>(yd (yi (ycy (PXS.z_sortI (yz (T.N 1) z_v) (T.Z 8)))))
theorem ylL:‹(0+1,6,r6,1,yed)›:=zfn (T.F 6 r6) (sc 6) fun cdv Ar outer sh H E hr=>have nd:=(sc 6 (r:=r6)).nd;(yb (yv (ybR ybb ycT (yz (T.N 0) z_v) yk)) (yd (yi (ycy (PXS.z_sortI z_v (T.Z 8))))))
theorem yfX:‹(0+1,12,r12,1,ydv)›:=zfn (T.F 12 r12) (sc 12) fun cdv Ar outer sh H E hr=>(yd (yi (yxZ PySem.F.plainAttrs_str PySem.F.slot_str_find PySem.F.type_str_find yyi ytU (ylt T.m_SLOTS) (ya z_v ye))))
theorem ydl:‹(1+1,15,r15,2,ybM)›:=zfn (T.F 15 r15) (sc 15) fun cdv Ar outer sh H E hr=>(yd (yi (ybR ybb ycT (yz (T.N 2) z_v) (yJ (yfX T) (T.G 5) (T.k 12) (T.b 12) (ya z_v ye)))))
theorem ygQ:‹(1+1,16,r16,3,ycK)›:=zfn (T.F 16 r16) (sc 16) fun cdv Ar outer sh H E hr=>(yd (yhQ z_v (yz (T.N 2) z_v) (yJ (yfX T) (T.G 5) (T.k 12) (T.b 12) (ya z_v ye))))
theorem yiM:‹(2+1,17,r17,2,ydb)›:=zfn (T.F 17 r17) (sc 17) fun cdv Ar outer sh H E hr=>(yd (yi (ycu yel ygU (yA z_v (T.M 12) (ydl T) (T.b 15) (ya z_v ye)) (yz (T.N 3) z_v))))
theorem yhd:FnOk P w K mg base CX0 (2+1) (t.a 14) (t.d 14) (FR.ps r14) (spJ (ysK K t) 2 12 yex):=yGl (T.F 14 r14) (sc 14) rfl (by decide) fun cdv Ar outer sh H E hr=>(ybG (ybV (T.N 2) (yeu (ycz yx ybg (T.Z 6) (ya z_v ye)))) (ybG (ybV (T.N 3) z_v) (ydY (ybV (T.N 4) (yeu (yyg (T.J 6) (yiv T) (T.C 11) (T.b 0)))))))
theorem yiN:‹(3+1,18,r18,3,ycA)›:=zfn (T.F 18 r18) (sc 18) fun cdv Ar outer sh H E hr=>(yd (yS (yA (yz (T.N 4) z_v) (T.M 6) (ylJ T) (T.b 1) (ya (yA z_v (T.M 14) (yiM T) (T.b 17) (ya z_v ye)) (ya (yA z_v (T.M 12) (ydl T) (T.b 15) (ya z_v ye)) ye)))))
theorem yvw:‹(0+1,19,r19,2,yhX)›:=zfn (T.F 19 r19) (sc 19) fun cdv Ar outer sh H E hr=>(yb (yE (yr ybd ycX (ybR yG ybk z_v yk) yD) (yd (yi (ygZ ybd ycX (ybR yG ybk z_v yk) yD))) yl) (yd (yi (ypk (ygZ ybd ycX (ybR yG ybk z_v yk) yD) (ypj (ygZ ybd ycX (ybR yG ybk z_v yk) (ybR yG ybk z_v yk)))))))
theorem yiw:FnOk P w K mg base CX0 (4+1) (t.a 20) (t.d 20) (FR.ps r20) (spI (ysK K t) 3 12 ydD):=zin (T.F 20 r20) (sc 20) rfl (by decide) fun cdv Ar outer sh H E hr=>(ybG (yyk T.cf_Doer (T.C 13) (yhd T) (T.b 14) (ya z_v (ya z_v ye))) (ybG (ybV (T.N 5) z_v) (ybG (ybV (T.N 6) yk) (ybG (ybV (T.N 7) (yeu ylu)) (ydY (ybV (T.N 8) (yeu (ycV ye))))))))
theorem ygD:‹(0+1,21,r21,1,ydM)›:=zfn (T.F 21 r21) (sc 21) fun cdv Ar outer sh H E hr=>(yd (yi (ybR ybb ycT (yz (T.N 5) z_v) (yz (T.N 6) z_v))))
theorem yeL:‹(0+1,22,r22,2,yck)›:=zfn (T.F 22 r22) (sc 22) fun cdv Ar outer sh H E hr=>(yd (yi (ydn (yoi rfl) yBc (T.Z 1) (ya (ycy (yyo ["stamps","self"] (yz (T.N 7) z_v) (fun _ _ _ _ _ _=>(ygZ yma yxu (ybR ybb ycT z_v z_v) (yBh (yz (T.N 7) z_v) z_v))))) ye))))
theorem ydy:‹(1+1,23,r23,2,yV)›:=zfn (T.F 23 r23) (sc 23) fun cdv Ar outer sh H E hr=>have nd:=(sc 23 (r:=r23)).nd;(yb (yv (ydn yt yct (T.Z 5) (ya (yz (T.N 8) z_v) ye))) (yb (yjZ (ymO (yrv (yr ytf yCv z_v yk) (ymP (ycY (ybx (yJ (yvw T) (T.G 7) (T.k 19) (T.b 19) (ya (ybR yG ybk (ybR ybb ycT (yz (T.N 8) z_v) (ycu yiQ yoZ z_v yk)) yk) (ya z_v ye)))))))) (yd (yv (ycu yiQ yoZ z_v yk)))) (yd (yi z_v))))
theorem yeM:‹(2+1,24,r24,1,ybe)›:=zfn (T.F 24 r24) (sc 24) fun cdv Ar outer sh H E hr=>have nd:=(sc 24 (r:=r24)).nd;(yb (yv (yq z_v (T.M 16) (ygD T) (T.b 21))) (yb (yE (yr ybd ycX (ybR yG ybk z_v yk) yD) (yd yy) yl) (yb (yE (ymO (yfm (yr ybd ycX (ybR yG ybk z_v yk) yD) (yen (yr ybd ycX (ybR yG ybk z_v yk) yD)))) (yd (yi (ygZ ybd ycX (yA z_v (T.M 18) (ydy T) (T.b 23) (ya z_v ye)) yk))) yl) (yd (yi (ygZ ybd ycX (ybR yG ybk z_v yk) yD))))))
theorem yix:‹(4+1,25,r25,2,yP)›:=zfn (T.F 25 r25) (sc 25) fun cdv Ar outer sh H E hr=>(yd (yE (yr ybd ycX (ybR yG ybk z_v yk) yD) (yd (yS (yA z_v (T.M 13) (ygQ T) (T.b 16) (ya (ybR yG ybk z_v yk) (ya (ybR yG ybk z_v yk) ye))))) (yd (yE (yr ybd ycX (ybR yG ybk z_v yk) yD) (yd yy) (yd (yE (yr ybd ycX (ybR yG ybk z_v yk) yD) (yd (yS (yA z_v (T.M 15) (yiN T) (T.b 18) (ya (ybR yG ybk z_v yk) (ya (ybR yG ybk z_v yk) ye))))) (yd yy)))))))
theorem ynm:‹(0+1,26,r26,2,yde)›:=zfn (T.F 26 r26) (sc 26) fun cdv Ar outer sh H E hr=>(yd (yE (yr ybd ycX (ybR yG ybk z_v yk) yD) (yd (ybQ (T.N 6) z_v (ybR yG ybk z_v yk))) (yd yy)))
theorem ygR:‹(2+1,27,r27,2,ybW)›:=zfn (T.F 27 r27) (sc 27) fun cdv Ar outer sh H E hr=>have nd:=(sc 27 (r:=r27)).nd;(yb (yv (yA z_v (T.M 18) (ydy T) (T.b 23) (ya z_v ye))) (yb (yv (ybR ybb ycT (yz (T.N 8) z_v) (ycu yiQ yoZ z_v yk))) (yb (yjZ (yr yCQ yGa (ydn yt yct (T.Z 5) (ya (yz (T.N 8) z_v) ye)) z_v) (yb (yS (yuy plainAttrs_list slot_list_pop type_list_pop yny ynM (yz (T.N 8) z_v))) (yd (yS (yq (yz (T.N 4) z_v) (T.M 9) (ynl T) (T.b 4)))))) (yb (yv (ybR yG ybk z_v yk)) (yb (ybQ (T.N 2) z_v (yeu (ycz yx ybg (T.Z 6) (ya (ybR yG ybk z_v yk) ye)))) (yb (ybQ (T.N 6) z_v (ybR yG ybk z_v (yCD ynr ytR yk))) (yd (yi z_v))))))))
theorem ylM:‹(3+1,28,r28,2,ycs)›:=zfn (T.F 28 r28) (sc 28) fun cdv Ar outer sh H E hr=>have nd:=(sc 28 (r:=r28)).nd;(yb (yv (yA z_v (T.M 12) (ydl T) (T.b 15) (ya (ybR yG ybk z_v yk) ye))) (yb (yv (yA z_v (T.M 24) (ygR T) (T.b 27) (ya z_v ye))) (yd (yS (yA z_v (T.M 13) (ygQ T) (T.b 16) (ya (ybR yG ybk z_v yk) (ya z_v ye)))))))
theorem ysN:‹(5+1,29,r29,1,ycB)›:=zfn (T.F 29 r29) (sc 29) fun cdv Ar outer sh H E hr=>have nd:=(sc 29 (r:=r29)).nd;(yb (yv (yq z_v (T.M 16) (ygD T) (T.b 21))) (yb (ybQ (T.N 6) z_v (ycu ycv ydW (yz (T.N 6) z_v) yk)) (yd (yE (yr ybd ycX (ybR yG ybk z_v yk) yD) (yd (yS (yA z_v (T.M 24) (ygR T) (T.b 27) (ya z_v ye)))) (yd (yE (yr ybd ycX (ybR yG ybk z_v yk) yD) (yd (yS (yA z_v (T.M 23) (ylM T) (T.b 28) (ya z_v ye)))) (yd (yE (ymO (yfm (yr ybd ycX (ybR yG ybk z_v yk) yD) (yen (yr ybd ycX (ybR yG ybk z_v yk) yD)))) (yd (yS (yA z_v (T.M 22) (ynm T) (T.b 26) (ya z_v ye)))) (yd (yE (ymO (yfm (yr ybd ycX (ybR yG ybk z_v yk) yD) (yen (yr ybd ycX (ybR yG ybk z_v yk) yD)))) (yb (yS (yxZ plainAttrs_list PySem.F.slot_list_append PySem.F.type_list_append ydK yqP (yz (T.N 8) z_v) (ya (ydX (ya z_v (ya (ycy (ycz yx ybg (T.Z 6) (ya (yz (T.N 2) z_v) ye))) ye))) ye))) (yd (yS (yq (yz (T.N 4) z_v) (T.M 7) (ylK T) (T.b 2))))) (yd (yE (yr ybd ycX (ybR yG ybk z_v yk) yD) (yb (yS (yuy plainAttrs_list slot_list_pop type_list_pop yny ynM (yz (T.N 8) z_v))) (yd (yS (yq (yz (T.N 4) z_v) (T.M 8) (yku T) (T.b 3))))) (yd (yS (yA z_v (T.M 21) (yix T) (T.b 25) (ya z_v ye))))))))))))))))
theorem yek:‹(0+1,30,r30,1,ybX)›:=zfn (T.F 30 r30) (sc 30) fun cdv Ar outer sh H E hr=>(yb (yE (yr ybd ycX (yz (T.N 10) z_v) (ydn yt yct (T.Z 5) (ya (yz (T.N 9) z_v) ye))) (yd (yi yD)) yl) (yd (yi (yxW (ybx (yz (T.N 11) z_v)) yD yD))))
theorem yeN:‹(6+1,31,r31,1,ycl)›:=zfn (T.F 31 r31) (sc 31) fun cdv Ar outer sh H E hr=>have nd:=(sc 31 (r:=r31)).nd;(yb (yv (yxW (yr ymb yxt (yz (T.N 10) z_v) (ydn yt yct (T.Z 5) (ya (yz (T.N 9) z_v) ye))) (ybR ybb ycT (yz (T.N 9) z_v) (yz (T.N 10) z_v)) (ycy (ycV ye)))) (yd (yi (yeu (yhO (T.J 7) (yiw T) (T.C 12) (T.b 20) (ya z_v (ya (yz (T.N 12) z_v) (ya (yz (T.N 3) z_v) ye))))))))
theorem ykv:‹(7+1,32,r32,2,ydw)›:=zfn (T.F 32 r32) (sc 32) fun cdv Ar outer sh H E hr=>(yb (ybQ (T.N 10) z_v (ycu ycv ydW (yz (T.N 10) z_v) yk)) (yb (ybQ (T.N 12) z_v (ycy (ycz yx ybg (T.Z 6) (ya z_v ye)))) (yd (ybQ (T.N 13) z_v (yq z_v (T.M 26) (yeN T) (T.b 31))))))
theorem yhe:‹(7+1,33,r33,3,ybn)›:=zfn (T.F 33 r33) (sc 33) fun cdv Ar outer sh H E hr=>(yb (ybQ (T.N 9) z_v (ycy (ycz yx ybg (T.Z 6) (ya z_v ye)))) (yb (ybQ (T.N 3) z_v z_v) (yb (ybQ (T.N 10) z_v yk) (yb (ybQ (T.N 11) z_v ysU) (yb (ybQ (T.N 12) z_v (ycy (ymN yqj yxz (ycy (ycV (ya yk ye))) (ydn ydp ynE (T.Z 5) (ya (ylt T.m_SLOTS) ye))))) (yd (ybQ (T.N 13) z_v (yq z_v (T.M 26) (yeN T) (T.b 31)))))))))
theorem yiO:‹(2+1,68,r68,1,ydd)›:=zfn (T.F 68 r68) (sc 68) fun cdv Ar outer sh H E hr=>(yb (yE (ycY (yhl yiC yiC ysS ysS yk (ydn yt yct (T.Z 5) (ya z_v ye)) (yhM T.m_MOST_BOXES))) (yd yy) yl) (yd (yE (ycY (ybx (ydn (ynA rfl) yAx (T.Z 0) (ya (ycy (ygF [] (ydA z_v) (fun _ _ _ _ _ _=>(yJ (ylI T) (T.G 1) (T.k 8) (T.b 8) (ya z_v ye))))) ye)))) (yd yy) yl)))
theorem yhf:‹(93+1,69,r69,1,ybr)›:=zfn (T.F 69 r69) (sc 69) fun cdv Ar outer sh H E hr=>(yd (yi (ycy (ygF [] (ydA z_v) (fun _ _ _ _ _ _=>(yJ (ypw T) (T.G 15) (T.k 52) (T.b 52) (ya (yJ (yzg T) (T.G 17) (T.k 67) (T.b 67) (ya z_v ye)) ye)))))))
theorem yhg:‹(94+1,70,r70,1,ybY)›:=zfn (T.F 70 r70) (sc 70) fun cdv Ar outer sh H E hr=>(yb (yE (ycY (yhl yiC yiC ysS ysS yk (ydn yt yct (T.Z 5) (ya z_v ye)) (yhM T.m_MOST_HANDS))) (yd yy) yl) (yb (yE (ybx (ydn (yoi rfl) yBc (T.Z 1) (ya (ycy (ygF [] (ydA z_v) (fun _ _ _ _ _ _=>(ygZ ytf yCv (ydn yt yct (T.Z 5) (ya z_v ye)) (yhM T.m_MOST_DEEDS))))) ye))) (yd yy) yl) (yd (yi (ycy (ygF [] (ydA z_v) (fun _ _ _ _ _ _=>(yJ (yhf T) (T.G 19) (T.k 69) (T.b 69) (ya z_v ye)))))))))
theorem yhh:‹(95+1,71,r71,3,ybZ)›:=zfn (T.F 71 r71) (sc 71) fun cdv Ar outer sh H E hr=>(yb (yS (yJ (yiO T) (T.G 18) (T.k 68) (T.b 68) (ya z_v ye))) (yb (ybQ (T.N 14) z_v (yeu (ycz yx ybg (T.Z 6) (ya z_v ye)))) (yb (ybQ (T.N 15) z_v (yeu (ymN yqj yxz (ycy (ycV (ya yk ye))) (ydn yt yct (T.Z 5) (ya z_v ye))))) (yb (ybQ (T.N 16) z_v (yeu (ygF ["boxes"] (ydA (yJ (yhg T) (T.G 20) (T.k 70) (T.b 70) (ya z_v ye))) (fun _ _ _ _ _ _=>(yrI (T.J 9) (yhe T) (T.C 14) (T.b 33) (ya z_v (ya (ydn yt yct (T.Z 5) (ya z_v ye)) ye))))))) (yd (ybQ (T.N 17) z_v (yeu (ycV ye))))))))
theorem yfY:‹(0+1,72,r72,1,ycP)›:=zfn (T.F 72 r72) (sc 72) fun cdv Ar outer sh H E hr=>(yd (yi (ycy (ycz yx ybg (T.Z 6) (ya (yz (T.N 14) z_v) ye)))))
theorem yff:‹(0+1,73,r73,1,ycC)›:=zfn (T.F 73 r73) (sc 73) fun cdv Ar outer sh H E hr=>(yd (yi (ycy (ycz yx ybg (T.Z 6) (ya (yz (T.N 15) z_v) ye)))))
theorem yeO:‹(1+1,74,r74,2,ybN)›:=zfn (T.F 74 r74) (sc 74) fun cdv Ar outer sh H E hr=>(yb (yE (ymO (yfm (ycY (ybx (yJ (yiu T) (T.G 0) (T.k 7) (T.b 7) (ya z_v ye)))) (yen (ycY (yhl yiC ymb ysS yxt yk z_v (ydn yt yct (T.Z 5) (ya (yz (T.N 16) z_v) ye))))))) (yd yy) yl) (yd (yi (ybR ybb ycT (yz (T.N 16) z_v) z_v))))
theorem ykw:‹(2+1,75,r75,2,ycQ)›:=zfn (T.F 75 r75) (sc 75) fun cdv Ar outer sh H E hr=>(yd (yi (yq (yA z_v (T.M 30) (yeO T) (T.b 74) (ya z_v ye)) (T.M 25) (yek T) (T.b 30))))
theorem yeP:‹(0+1,76,r76,1,ycm)›:=zfn (T.F 76 r76) (sc 76) fun cdv Ar outer sh H E hr=>(yd (yi (ycy (yyn [] (yz (T.N 17) z_v) (fun _ _ _ _ _ _=>(ydX (ya (ybR yG ybk z_v yk) (ya (ybR yG ybk z_v yk) (ya (ybR yG ybk z_v yk) (ya (ycy (ycz yx ybg (T.Z 6) (ya (ybR yG ybk z_v yk) ye))) (ya (ycy (ycz yx ybg (T.Z 6) (ya (ybR yG ybk z_v yk) ye))) (ya (ycy (ycz yx ybg (T.Z 6) (ya (ybR yG ybk z_v yk) ye))) ye))))))))))))
theorem yfZ:‹(1+1,77,r77,1,ybl)›:=zfn (T.F 77 r77) (sc 77) fun cdv Ar outer sh H E hr=>have nd:=(sc 77 (r:=r77)).nd;(yd (yyf (yz (T.N 16) z_v) ydB (yd (yE (ymO (yrv (yr ybd ycX (yq z_v (T.M 25) (yek T) (T.b 30)) yD) (ymP (ybx (yA (yz (T.N 13) z_v) (T.M 17) (yeL T) (T.b 22) (ya (yz (T.N 15) z_v) ye)))))) (yd yy) yl))))
theorem yhi:‹(8+1,78,r78,5,ycD)›:=zfn (T.F 78 r78) (sc 78) fun cdv Ar outer sh H E hr=>have nd:=(sc 78 (r:=r78)).nd;(yb (yv (ybR ybb ycT (yz (T.N 16) z_v) z_v)) (yb (yS (yxZ plainAttrs_list PySem.F.slot_list_append PySem.F.type_list_append ydK yqP (yz (T.N 17) z_v) (ya (ydX (ya z_v (ya (yz (T.N 10) z_v) (ya z_v (ya (yq (yz (T.N 4) (yz (T.N 13) z_v)) (T.M 10) (ypz T) (T.b 5)) (ya z_v (ya (ycy (ycz yx ybg (T.Z 6) (ya z_v ye))) ye))))))) ye))) (yd (yS (yA z_v (T.M 27) (ykv T) (T.b 32) (ya z_v ye))))))
theorem yhj:‹(9+1,79,r79,2,ycE)›:=zfn (T.F 79 r79) (sc 79) fun cdv Ar outer sh H E hr=>have nd:=(sc 79 (r:=r79)).nd;(yb (yv (yz (T.N 13) (ybR ybb ycT (yz (T.N 16) z_v) z_v))) (yb (yv (yq (yz (T.N 4) z_v) (T.M 11) (ylL T) (T.b 6))) (yb (yhP (ydA z_v) ydB (yb (yv (ybR yG ybk z_v yk)) (yb (yhQ (ybR yG ybk z_v yk) (yz (T.N 14) z_v) z_v) (yd (yhQ (ycu ycv ydW (ybR ybb ycT (yz (T.N 15) z_v) z_v) yk) (yz (T.N 15) z_v) z_v))))) (yb (yS (yA z_v (T.M 34) (yhi T) (T.b 78) (ya z_v (ya (ydX (ya yD ye)) (ya z_v (ya (yz (T.N 2) z_v) ye)))))) (yd (yS (yq z_v (T.M 33) (yfZ T) (T.b 77))))))))
theorem ydS:‹(10+1,80,r80,3,ybh)›:=zfn (T.F 80 r80) (sc 80) fun cdv Ar outer sh H E hr=>have nd:=(sc 80 (r:=r80)).nd;(yb (yv (ybR ybb ycT (yz (T.N 16) z_v) z_v)) (yb (yv (yq (yz (T.N 13) z_v) (T.M 16) (ygD T) (T.b 21))) (yb (yE (yr ybd ycX (ybR yG ybk z_v yk) yD) (yb yy (yd yy)) yl) (yb (yE (yr ybd ycX (ybR yG ybk z_v yk) yD) (yb yy (yd yy)) yl) (yb (yE (yr ybd ycX (ybR yG ybk z_v yk) yD) (yb yy (yd yy)) yl) (yb (yS (yA z_v (T.M 35) (yhj T) (T.b 79) (ya z_v ye))) (yd (yi (ydX (ya yD (ya z_v ye)))))))))))
theorem ylN:‹(11+1,81,r81,2,ybs)›:=zfn (T.F 81 r81) (sc 81) fun cdv Ar outer sh H E hr=>have nd:=(sc 81 (r:=r81)).nd;(yb (yv (yA z_v (T.M 30) (yeO T) (T.b 74) (ya z_v ye))) (yb (yE (yr yma yxu (yq z_v (T.M 25) (yek T) (T.b 30)) yD) (yd (yi (ydX (ya yD ye)))) yl) (yb (yv (yz (T.N 6) (yz (T.N 13) z_v))) (yb (yE (ycY (ybx (yq (yz (T.N 13) z_v) (T.M 19) (yeM T) (T.b 24)))) (yb (yS (yq (yz (T.N 13) z_v) (T.M 20) (ysN T) (T.b 29))) (yd (yi (ydX (ya yD (ya z_v ye)))))) yl) (yb (yE (ybx (yA (yz (T.N 13) z_v) (T.M 17) (yeL T) (T.b 22) (ya (yz (T.N 15) z_v) ye))) (yb yy (yd yy)) yl) (yd (yi (yA z_v (T.M 36) (ydS T) (T.b 80) (ya z_v (ya z_v ye))))))))))
theorem ydm:‹(0+1,82,r82,2,yX)›:=zfn (T.F 82 r82) (sc 82) fun cdv Ar outer sh H E hr=>(yb (yE (yr ymb yxt z_v (ydn yt yct (T.Z 5) (ya z_v ye))) (yd (yi (ybR ybb ycT z_v z_v))) yl) (yd (yi yk)))
theorem ydT:‹(0+1,83,r83,1,ybL)›:=zfn (T.F 83 r83) (sc 83) fun cdv Ar outer sh H E hr=>have nd:=(sc 83 (r:=r83)).nd;(yb (yv (ycu yju ytQ z_v yk)) (yb (yE (yr ybd ycX (ycu yel ygU z_v yk) yk) (yd (yi (ycu yel ygU z_v yk))) yl) (yb (yE (yr ybd ycX (ycu yel ygU z_v yk) yk) (yd (yi (ycu yiQ yoZ (ycu yiQ yoZ (ycu yvC yAo yk yk) yk) (ycu yel ygU z_v yk)))) yl) (yd (yi (ycu yel ygU z_v (ycu yvC yAo yk yk)))))))
theorem ykx:‹(0+1,84,r84,3,yca)›:=zfn (T.F 84 r84) (sc 84) fun cdv Ar outer sh H E hr=>have nd:=(sc 84 (r:=r84)).nd;(yb (yv (ycu yba yds (ycu yba yds (ycu yba yds (ycu yba yds yD (yxY ygE yvO (T.Z 9) (ya z_v ye))) yD) (yxY ygE yvO (T.Z 9) (ya z_v ye))) yD)) (yb (yE (yr ybd ycX z_v yk) (yd (yi (ycu yba yds (ycu yba yds yD z_v) yD))) yl) (yb (yE (yr ybd ycX z_v yk) (yd (yi (ycu yba yds (ycu yba yds yD z_v) yD))) yl) (yb (yE (yr ybd ycX z_v yk) (yd (yi (ycu yba yds (ycu yba yds yD z_v) yD))) yl) (yb (yE (yr ybd ycX z_v yk) (yd (yi (ycu yba yds (ycu yba yds yD z_v) yD))) yl) (yb (yE (yr ybd ycX z_v yk) (yd (yi (ycu yba yds (ycu yba yds yD z_v) yD))) yl) (yd (yi z_v))))))))
theorem ygS:‹(1+1,85,r85,2,ybt)›:=zfn (T.F 85 r85) (sc 85) fun cdv Ar outer sh H E hr=>have nd:=(sc 85 (r:=r85)).nd;(yb (yjY (ycV ye)) (yb (yv (yeu ylu)) (yb (yhP (ydA z_v) ydB (yb (yv (ycu yel ygU (ycu ypP yxs z_v yk) yk)) (yb (yv (ycu yel ygU z_v yk)) (yb (yv (ycu yel ygU (ycu yju ytQ z_v yk) (ydn yt yct (T.Z 5) (ya z_v ye)))) (yb (yv (yJ (ydT T) (T.G 22) (T.k 83) (T.b 83) (ya z_v ye))) (yb (yE (yr ybd ycX (ycu yel ygU (ycu yju ytQ z_v yk) yk) yk) (yd (yv (ybR ybb ycT z_v z_v))) yl) (yb (ynY (yJ (ykx T) (T.G 23) (T.k 84) (T.b 84) (ya z_v (ya z_v (ya z_v ye))))) (yd (yE (yr ykI yEa z_v (ycy (ycV (ya yk (ya yk (ya yk ye)))))) (yd (yrx z_v z_v z_v)) yl))))))))) (yev (yd (yi (ydX (ya (yxZ PySem.F.plainAttrs_str PySem.F.slot_str_join PySem.F.type_str_join ywR yAy yD (ya z_v ye)) (ya z_v ye)))))))))
theorem ylO:‹(12+1,86,r86,3,yef)›:=zfn (T.F 86 r86) (sc 86) fun cdv Ar outer sh H E hr=>have nd:=(sc 86 (r:=r86)).nd;(yb (yhP (yjX (T.Z 7) (ya yk ye)) ydB (yb (yv (yA z_v (T.M 37) (ylN T) (T.b 81) (ya yk ye))) (yb (yE (yr ybd ycX (ybR yG ybk z_v yk) yD) (yd (yi ysU)) yl) (yd (yE (ymO (yfm (yr yma yxu (ybR yG ybk z_v yk) yD) (yfm (yr (yoa (yob hr)) yuo (yq z_v (T.M 28) (yfY T) (T.b 72)) z_v) (yen (yr (yoa (yob hr)) yuo (yq z_v (T.M 29) (yff T) (T.b 73)) z_v))))) (yd (yi ysU)) yl))))) (yd (yi ysU)))
theorem yga:‹(0+1,87,r87,2,ycR)›:=zfn (T.F 87 r87) (sc 87) fun cdv Ar outer sh H E hr=>have nd:=(sc 87 (r:=r87)).nd;(yb (yE (ymO (yfm (ycY (ybx (ydn yH (yes (K:=ckX _ _) T.isa) (T.Z 4) (ya z_v (ya (yrt (T.Z 6)) ye))))) (yen (yr yma yxu (ydn yt yct (T.Z 5) (ya z_v ye)) (ydn yt yct (T.Z 5) (ya z_v ye)))))) (yd (yi ysU)) yl) (yb (yhP (yjX (T.Z 7) (ya (ydn yt yct (T.Z 5) (ya z_v ye)) ye)) ydB (yd (yE (ymO (yfm (ycY (ybx (ydn yH (yes (K:=ckX _ _) T.isa) (T.Z 4) (ya (ybR ybb ycT z_v z_v) (ya (yrt (T.Z 3)) ye))))) (yfm (ybx (ydn yH (yes (K:=ckX _ _) T.isa) (T.Z 4) (ya (ybR ybb ycT z_v z_v) (ya (yrt (T.Z 2)) ye)))) (yen (yr yma yxu (ybR ybb ycT z_v z_v) (ybR ybb ycT z_v z_v)))))) (yd (yi ysU)) yl))) (yd (yi ysU))))
theorem yCo:‹(97+1,88,r88,1,yuJ)›:=zfn (T.F 88 r88) (sc 88) fun cdv Ar outer sh H E hr=>have nd:=(sc 88 (r:=r88)).nd;(yb (yv (ycu ycv ydW yk (ycu yel ygU (yJ (ydm T) (T.G 21) (T.k 82) (T.b 82) (ya z_v (ya yk ye))) yk))) (yb (yuD ["_law_script"] (yjX (T.Z 7) (ya z_v ye)) (fun _ _ _ _ _ _=>(yJ (ydT T) (T.G 22) (T.k 83) (T.b 83) (ya (ycu ycv ydW (yJ (ydm T) (T.G 21) (T.k 82) (T.b 82) (ya z_v (ya yk ye))) (ycu ypP yxs (ycu ypP yxs yk z_v) z_v)) ye)))) (yb (yv (ycy (ycz yx ybg (T.Z 6) (ya (ycy (yBe yqf yAu z_v (yhN yk) (yhN yk))) ye)))) (yb (yv (ycu ycv ydW yk (ycu yel ygU (ycu yju ytQ (yJ (ydm T) (T.G 21) (T.k 82) (T.b 82) (ya z_v (ya yk ye))) yk) yk))) (yb (yjY (ycV ye)) (yb (yhP (yyb (T.Z 7) (ya yk (ya (ydn yt yct (T.Z 5) (ya z_v ye)) (ya z_v ye)))) ydB (yd (yE (yr ymb yxt (yry (T.Z 5)) yk) (yd (ynY (yJ (ygS T) (T.G 24) (T.k 85) (T.b 85) (ya (ycy (yBe yqf yAu z_v (yhN z_v) (yhN (ycu ycv ydW z_v z_v)))) (ya z_v ye))))) yl))) (yb (yE (yr ybd ycX (yry (T.Z 5)) yk) (yd (ynY (yJ (ygS T) (T.G 24) (T.k 85) (T.b 85) (ya (ycy (ycV (ya yk ye))) (ya z_v ye))))) yl) (yev (yb (yv (yrI (T.J 10) (yhh T) (T.C 15) (T.b 71) (ya (ycy (ycz yx ybg (T.Z 6) (ya z_v ye))) (ya (ycy (ycV (ya (ycy (ygF [] (ydA z_v) (fun _ _ _ _ _ _=>(ybR yG ybk z_v yk)))) ye))) ye)))) (yb (yv (yeu (ymN yqj yxz (ycy (ycV (ya yk ye))) z_v))) (yev (yb (yhP (yjX (T.Z 7) (ya (ydn yt yct (T.Z 5) (ya z_v ye)) ye)) ydB (yb (yE (ycY (ybx (yJ (ylO T) (T.G 25) (T.k 86) (T.b 86) (ya z_v (ya z_v (ya z_v ye)))))) (yd (yi ysU)) yl) (yev (yb (yyq (ybR yG ybk (ybR ybb ycT z_v z_v) yk) (yBg (ynZ ydB (ynZ ydB yya))) (yb (yhQ z_v z_v z_v) (yd (yhQ (ycu ycv ydW (ybR ybb ycT z_v z_v) yk) z_v z_v)))) (yb (yE (ymO (yfm (ycY (ybx (yJ (yga T) (T.G 26) (T.k 87) (T.b 87) (ya (yq z_v (T.M 28) (yfY T) (T.b 72)) (ya z_v ye))))) (yen (ycY (ybx (yJ (yga T) (T.G 26) (T.k 87) (T.b 87) (ya (yq z_v (T.M 29) (yff T) (T.b 73)) (ya z_v ye)))))))) (yd (yi ysU)) yl) (yb (yv (ybR ybb ycT (yq z_v (T.M 32) (yeP T) (T.b 76)) (yCD ynr ytR yk))) (yev (yd (yE (ymO (yfm (yr (yoa (yob hr)) yuo (yGk yyl yEj z_v yEp (yhN yk)) (ydX (ya yk (ya z_v (ya (ydX (ya yD ye)) (ya (ycy (ycV ye)) ye)))))) (yen (yr (yoa (yob hr)) yuo (ybR yG ybk z_v yk) (ycy (PXS.z_sortI (ybR yG ybk (ybR ybb ycT z_v z_v) yk) (T.Z 8))))))) (yd (yi ysU)) yl))))))))) (yev (yd (yi (ypk (ygZ ybd ycX (yA z_v (T.M 31) (ykw T) (T.b 75) (ya yk ye)) yD) (ypj (ygZ ybd ycX (ydn yt yct (T.Z 5) (ya (yq z_v (T.M 32) (yeP T) (T.b 76)) ye)) (ydn yt yct (T.Z 5) (ya z_v ye))))))))))))))))))))
def yvx (K:PySem.W.Frag):Sp:=fun vs H Q _=>∃ (a:Addr) (ns:List Int),vs=[.ref a]/\SqL K H a (ns.map V.int)/\ns.length<=63/\∀ H',Q (.bl true) H'
theorem yCp {A:Nat->Addr}:∀ vs H Q E,yvx K vs H Q E->spE ⟨K,A⟩ 1 yuJ vs H Q E:=by
 rintro _ H Q E ⟨a,ns,rfl,hS,hl,q⟩
 obtain ⟨h',e⟩:=yCn (h:=[]) ns hl
 exact ⟨⟨H,H,[],[]⟩,[.scr ns],.bl true,h',rfl,⟨Same.refl _,rfl,List.nodup_nil,fun n d a e=>by simp at e⟩,⟨.ref a,[],rfl,⟨a,rfl,hS⟩,rfl⟩,rfl,e,fun v W' _ _ rv=>by rw [show v=_ from rv];exact q _⟩
end
structure FB (K:PySem.W.Frag) (r:FR) (p:Addr×FuncData):Prop where
 F:Fun K r.1 r.2.1 r.2.2.1 p.1 p.2
 b:Binds K p.2 r.ps []
theorem FB.of {K:PySem.W.Frag}{x q:Str}{s:Stmt}{k:Nat}{n:List Str}{f:Addr}{d:FuncData}(F:Fun K x q s f d) (b:Binds K d (n.take k) []):FB K (fRw x q s k n) (f,d):=⟨F,b⟩
def All2 {α β:Type}(R:α->β->Prop):List α->List β->Prop
 | r::rs,p::ps=>R r p/\All2 R rs ps
 | [],[]=>True
 | _,_=>False
theorem All2.get {α β:Type}{R:α->β->Prop}{d:α}{e:β}(h:R d e):∀ {rs:List α}{ps:List β},All2 R rs ps->∀ n:Nat,R (rs.getD n d) (ps.getD n e)
 | [],[],_,_=>h
 | _::_,_::_,a,0=>a.1
 | _::_,_::_,a,n+1=>All2.get h a.2 n
abbrev Ns1 (K:PySem.W.Frag) (x:Str) (f:Addr):Prop:=nsIn K mainGlobals x=some (some (.ref f))
structure TyR (K:PySem.W.Frag) (C:Addr):Prop where
 ha:findIn K (.ref C) "__class__" = some (some (.builtin "object.__class__"))
 hm:mroIn K C (.type "object")=some true
 ty:typeIn K (.ref C)=some (.type "type")
structure NS2 (K:PySem.W.Frag) (c d:Addr):Prop where
 sb:subIn K (.ref c) (.ref d)=some false
 ne:(c == d)=false
noncomputable def NSx (K:PySem.W.Frag) (pre:List Addr):List Addr->Prop
 | []=>True
 | c::cs=>AllP (NS2 K c) pre/\AllP (NS2 K c) cs/\NSx K (c::pre) cs
theorem NSx.get {K:PySem.W.Frag}{A:Nat->Addr}:∀ {cs pre:List Nat},NSx K (pre.map A) (cs.map A)->∀ i∈cs,∀ j,j∈pre\/j∈cs->i≠j->NS2 K (A i) (A j)
 | c::cs,pre,a,i,hi,j,hj,ne=>by
  rcases mem_cons.mp hi with rfl|hi
  .rcases hj with hj|hj
   .exact a.1.mem _ (List.mem_map_of_mem hj)
   .rcases mem_cons.mp hj with rfl|hj
    .exact absurd rfl ne
    .exact a.2.1.mem _ (List.mem_map_of_mem hj)
  .refine NSx.get (pre:=c::pre) a.2.2 i hi j ?_ ne
   rcases hj with hj|hj
   .exact .inl (mem_cons_of_mem _ hj)
   .rcases mem_cons.mp hj with rfl|hj
    .exact .inl mem_cons_self
    .exact .inr hj
theorem yzh {K:PySem.W.Frag}{A:Nat->Addr}(CL:∀ k,Cls K (A k)) (hn:PySem.W.specialIn K (.builtin "object.__class__") "__get__" = some (some (.builtin "getset_descriptor.__get__"))) (htk:PySem.W.takesIn K (.builtin "object.__class__")=some true) (cs:List Nat) (ty:AllP (TyR K) (cs.map A)) (sb:NSx K [] (cs.map A)) :
  ∀ r∈tbO cs,∀ (H:Hp) (a dx:Addr) (fs:List (Str×V)),H a=some (.ins (A r.1) dx fs)->IsI K H (.ref a) (.ref (A r.2.1)) r.2.2:=by
 intro r hr H a dx fs e
 unfold tbO at hr
 obtain ⟨i,hi,hr⟩:=List.mem_flatMap.mp hr
 obtain ⟨j,hj,rfl⟩:=List.mem_map.mp hr
 have t:=ty.mem _ (List.mem_map_of_mem hi)
 have t':=ty.mem _ (List.mem_map_of_mem hj)
 refine ⟨_,_,.ins e (CL i) t.ha hn htk t.hm,rfl,?_⟩
 by_cases q:i=j
 .subst q
  show _=some (i == i)
  rw [beq_self_eq_true]
  exact ytv
 .have n:=NSx.get (pre:=[]) sb i hi j (.inr hj) q
  show _=some (i == j)
  rw [beq_eq_false_iff_ne.mpr q]
  exact ytx n.ne t'.hm t'.ty n.sb
theorem zip_get {K:PySem.W.Frag}{c0:Str}{C0:Addr}:∀ {cs:List Str}{as:List Addr},AllP (fun p:Str×Addr=>Ns1 K p.1 p.2) ((c0::cs).zip (C0::as))->cs.length=as.length->∀ n:Nat,Ns1 K ((c0::cs).getD n c0) ((C0::as).getD n C0):=fun {cs as} h hl n=>by
 have h0:=h.1
 have:∀ (cs:List Str) (as:List Addr),AllP (fun p:Str×Addr=>Ns1 K p.1 p.2) (cs.zip as)->cs.length=as.length->∀ n:Nat,Ns1 K (cs.getD n c0) (as.getD n C0):=by
  intro cs
  induction cs with
  | nil=>intro as _ e n;cases as with|nil=>exact h0|cons _ _=>cases e
  | cons c cs ih=>intro as h e n;cases as with|nil=>cases e|cons a as=>cases n with|zero=>exact h.1|succ n=>exact ih as h.2 (by simpa using e) n
 exact this _ _ h (by simpa using hl) n
theorem all_mk {l:PySem.W.OpenLaw}{w:World}{K:PySem.W.Frag}{h:Heap}{mg:Str->Option Value}{fa C0 C1 C2 C3 C4 C5 C6 C7 C8 C9 C10 C11 C12 C13 C14 C15 f0 f1 f2 f3 f4 f5 f6 f7 f8 f9 f10 f11 f12 f13 f14 f15 f16 f17 f18 f19 f20 f21 f22 f23 f24 f25 f26 f27 f28 f29 f30 f31 f32 f33 f34 f35 f36 f37 f38 f39 f40 f41 f42 f43 f44 f45 f46 f47 f48 f49 f50 f51 f52 f53 f54 f55 f56 f57 f58 f59 f60 f61 f62 f63 f64 f65 f66 f67 f68 f69 f70 f71 f72 f73 f74 f75 f76 f77 f78 f79 f80 f81 f82 f83 f84 f85 f86 f87 f88 :Addr}{d0 d1 d2 d3 d4 d5 d6 d7 d8 d9 d10 d11 d12 d13 d14 d15 d16 d17 d18 d19 d20 d21 d22 d23 d24 d25 d26 d27 d28 d29 d30 d31 d32 d33 d34 d35 d36 d37 d38 d39 d40 d41 d42 d43 d44 d45 d46 d47 d48 d49 d50 d51 d52 d53 d54 d55 d56 d57 d58 d59 d60 d61 d62 d63 d64 d65 d66 d67 d68 d69 d70 d71 d72 d73 d74 d75 d76 d77 d78 d79 d80 d81 d82 d83 d84 d85 d86 d87 d88:FuncData}{u1 u2 u3 u4 u5 u6 u7 u8 u9:Tok}(X:K.In h) (G:h.Ns mainGlobals mg) (hfa:mg "law" = some (.ref fa))
  (hC:Ns1 K "Part" C0/\Ns1 K "Let" C1/\Ns1 K "Reckon" C2/\Ns1 K "Take" C3/\Ns1 K "Put" C4/\Ns1 K "If" C5/\Ns1 K "Either" C6/\Ns1 K "Try" C7/\Ns1 K "Throw" C8/\Ns1 K "Wait" C9/\Ns1 K "Reader" C10/\Ns1 K "Log" C11/\Ns1 K "Run" C12/\Ns1 K "Doer" C13/\Ns1 K "Hand" C14/\Ns1 K "Hall" C15/\True)
  (cl:AllP (Cls K) [C0,C1,C2,C3,C4,C5,C6,C7,C8,C9,C10,C11,C12,C13,C14,C15])
  (hK:Mk K C1 f34/\Mk K C4 f35/\Mk K C6 f36/\Mk K C7 f37/\Mk K C8 f38/\Mk K C10 f53/\Mk K C11 f0/\Mk K C12 f20/\Mk K C13 f14/\Mk K C14 f33/\Mk K C15 f71/\True)
  (mk0:makesIn K C0=true)
  (io0:findIn K (.ref C0) "__init__" = some (some (.builtin "object.__init__")))
  (kp0:keepIn K (.ref C0)=true)
  (mk9:makesIn K C9=true)
  (io9:findIn K (.ref C9) "__init__" = some (some (.builtin "object.__init__")))
  (kp9:keepIn K (.ref C9)=true)
  (hM:Meth K C1 "long" f39/\Meth K C4 "long" f40/\Meth K C6 "long" f44/\Meth K C7 "long" f45/\Meth K C8 "long" f41/\Meth K C9 "long" f42/\Meth K C11 "write" f1/\Meth K C11 "begin" f2/\Meth K C11 "settle" f3/\Meth K C11 "drop" f4/\Meth K C11 "saw" f5/\Meth K C11 "wrote" f6/\Meth K C12 "held_in" f15/\Meth K C12 "hold" f16/\Meth K C12 "box_at" f17/\Meth K C12 "do_put" f18/\Meth K C12 "row" f21/\Meth K C12 "is_stale" f22/\Meth K C12 "taker_layer" f23/\Meth K C12 "is_looked_over" f24/\Meth K C12 "go" f29/\Meth K C12 "go_plain" f25/\Meth K C12 "lead" f26/\Meth K C12 "throw" f28/\Meth K C12 "leave" f27/\Meth K C14 "state" f30/\Meth K C14 "new_run" f31/\Meth K C14 "go_on" f32/\Meth K C15 "boxes" f72/\Meth K C15 "stamps" f73/\Meth K C15 "hand_at" f74/\Meth K C15 "state" f75/\Meth K C15 "journal" f76/\Meth K C15 "wake_stale" f77/\Meth K C15 "end_deed" f78/\Meth K C15 "lay_down" f79/\Meth K C15 "looked_over_told" f80/\Meth K C15 "turn" f81/\Meth K C10 "ahead" f55/\Meth K C10 "taken" f56/\Meth K C10 "pass_over" f57/\Meth K C10 "slot_taken" f58/\Meth K C10 "name_taken" f59/\Meth K C10 "number_taken" f60/\Meth K C10 "list_taken" f62/\Meth K C10 "side_taken" f63/\Meth K C10 "part_taken" f64/\Meth K C10 "either_taken" f65/\Meth K C10 "try_taken" f66/\Meth K C10 "plain_taken" f61/\True)
  (cf13:yuE K C13 "__init__" f14)
  (hG:Ns1 K "is_whole" f7/\Ns1 K "is_number" f8/\Ns1 K "is_made_of" f9/\Ns1 K "number_of" f10/\Ns1 K "is_slot" f11/\Ns1 K "slot_index" f12/\Ns1 K "is_name" f13/\Ns1 K "takes" f19/\Ns1 K "list_long" f43/\Ns1 K "plain_rows" f46/\Ns1 K "first_row" f47/\Ns1 K "rows_between" f48/\Ns1 K "list_rows" f49/\Ns1 K "part_rows" f50/\Ns1 K "sided_rows" f51/\Ns1 K "rows_of" f52/\Ns1 K "words_of" f54/\Ns1 K "read" f67/\Ns1 K "check_boxes" f68/\Ns1 K "rows_of_deeds" f69/\Ns1 K "rows_of_hands" f70/\Ns1 K "_law_cell_at" f82/\Ns1 K "_law_number_by" f83/\Ns1 K "_law_piece" f84/\Ns1 K "_law_deed" f85/\Ns1 K "_law_goes" f86/\Ns1 K "_law_whole" f87/\Ns1 K "law" f88/\True)
  (hF:All2 (FB K) fT [(f0,d0),(f1,d1),(f2,d2),(f3,d3),(f4,d4),(f5,d5),(f6,d6),(f7,d7),(f8,d8),(f9,d9),(f10,d10),(f11,d11),(f12,d12),(f13,d13),(f14,d14),(f15,d15),(f16,d16),(f17,d17),(f18,d18),(f19,d19),(f20,d20),(f21,d21),(f22,d22),(f23,d23),(f24,d24),(f25,d25),(f26,d26),(f27,d27),(f28,d28),(f29,d29),(f30,d30),(f31,d31),(f32,d32),(f33,d33),(f34,d34),(f35,d35),(f36,d36),(f37,d37),(f38,d38),(f39,d39),(f40,d40),(f41,d41),(f42,d42),(f43,d43),(f44,d44),(f45,d45),(f46,d46),(f47,d47),(f48,d48),(f49,d49),(f50,d50),(f51,d51),(f52,d52),(f53,d53),(f54,d54),(f55,d55),(f56,d56),(f57,d57),(f58,d58),(f59,d59),(f60,d60),(f61,d61),(f62,d62),(f63,d63),(f64,d64),(f65,d65),(f66,d66),(f67,d67),(f68,d68),(f69,d69),(f70,d70),(f71,d71),(f72,d72),(f73,d73),(f74,d74),(f75,d75),(f76,d76),(f77,d77),(f78,d78),(f79,d79),(f80,d80),(f81,d81),(f82,d82),(f83,d83),(f84,d84),(f85,d85),(f86,d86),(f87,d87),(f88,d88)])
  (hN:(NoAttr K C11 "stack"/\True)/\(NoAttr K C11 "last_seen"/\True)/\(NoAttr K C12 "held"/\True)/\(NoAttr K C12 "width"/\NoAttr K C14 "width"/\True)/\(NoAttr K C12 "log"/\True)/\(NoAttr K C12 "rows"/\True)/\(NoAttr K C10 "at"/\NoAttr K C12 "at"/\True)/\(NoAttr K C12 "seen_stamps"/\True)/\(NoAttr K C12 "sides"/\True)/\(NoAttr K C14 "deeds"/\True)/\(NoAttr K C14 "nth"/\True)/\(NoAttr K C14 "sleeps"/\True)/\(NoAttr K C14 "before"/\True)/\(NoAttr K C14 "run"/\True)/\(NoAttr K C15 "numbers"/\True)/\(NoAttr K C15 "marks"/\True)/\(NoAttr K C15 "crew"/\True)/\(NoAttr K C15 "entries"/\True)/\(NoAttr K C10 "words"/\True)/\(NoAttr K C1 "slot"/\NoAttr K C3 "slot"/\NoAttr K C4 "slot"/\NoAttr K C7 "slot"/\NoAttr K C8 "slot"/\True)/\(NoAttr K C1 "number"/\True)/\(NoAttr K C3 "place"/\NoAttr K C4 "place"/\True)/\(NoAttr K C6 "parts"/\NoAttr K C7 "parts"/\True)/\(NoAttr K C6 "others"/\NoAttr K C7 "others"/\True)/\(NoAttr K C7 "name"/\NoAttr K C8 "name"/\True)/\True)
  (ty:AllP (TyR K) [C1,C2,C3,C4,C5,C6,C7,C8,C9])
  (sb:NSx K [] [C1,C2,C3,C4,C5,C6,C7,C8,C9])
  (hn:PySem.W.specialIn K (.builtin "object.__class__") "__get__" = some (some (.builtin "getset_descriptor.__get__")))
  (htk:PySem.W.takesIn K (.builtin "object.__class__")=some true)
  (hZ:AllP (fun b=>nsIn K mainGlobals b=some none) zT)
  (q1:nsIn K mainGlobals "FIGURES" = some (some (.str "0123456789" u1)))
  (q2:nsIn K mainGlobals "LETTERS" = some (some (.str "abcdefghijklmnopqrstuvwxyz" u2)))
  (q3:nsIn K mainGlobals "MOST_AROUND" = some (some (.int 8 u3)))
  (q4:nsIn K mainGlobals "MOST_BOXES" = some (some (.int 16 u4)))
  (q5:nsIn K mainGlobals "MOST_DEEDS" = some (some (.int 6 u5)))
  (q6:nsIn K mainGlobals "MOST_HANDS" = some (some (.int 8 u6)))
  (q7:nsIn K mainGlobals "MOST_ROWS" = some (some (.int 80 u7)))
  (q8:nsIn K mainGlobals "SLOTS" = some (some (.str "abcdefgh" u8)))
  (q9:nsIn K mainGlobals "WIDE" = some (some (.int 18446744073709551616 u9))) :
  ∃ fd:FuncData,(∀ (s:Shared) (v:Value),BindsTo s fd ⟨[v],[]⟩ [("_law_script",v)])/\∀ base:Heap,K.In base->base.Ns mainGlobals mg->FnOk l.prog w K mg base CX0 98 fa fd ["_law_script"] (yvx K):=by
 let t:Ads:=⟨fun k=>[C0,C1,C2,C3,C4,C5,C6,C7,C8,C9,C10,C11,C12,C13,C14,C15].getD k C0,fun n=>[(f0,d0),(f1,d1),(f2,d2),(f3,d3),(f4,d4),(f5,d5),(f6,d6),(f7,d7),(f8,d8),(f9,d9),(f10,d10),(f11,d11),(f12,d12),(f13,d13),(f14,d14),(f15,d15),(f16,d16),(f17,d17),(f18,d18),(f19,d19),(f20,d20),(f21,d21),(f22,d22),(f23,d23),(f24,d24),(f25,d25),(f26,d26),(f27,d27),(f28,d28),(f29,d29),(f30,d30),(f31,d31),(f32,d32),(f33,d33),(f34,d34),(f35,d35),(f36,d36),(f37,d37),(f38,d38),(f39,d39),(f40,d40),(f41,d41),(f42,d42),(f43,d43),(f44,d44),(f45,d45),(f46,d46),(f47,d47),(f48,d48),(f49,d49),(f50,d50),(f51,d51),(f52,d52),(f53,d53),(f54,d54),(f55,d55),(f56,d56),(f57,d57),(f58,d58),(f59,d59),(f60,d60),(f61,d61),(f62,d62),(f63,d63),(f64,d64),(f65,d65),(f66,d66),(f67,d67),(f68,d68),(f69,d69),(f70,d70),(f71,d71),(f72,d72),(f73,d73),(f74,d74),(f75,d75),(f76,d76),(f77,d77),(f78,d78),(f79,d79),(f80,d80),(f81,d81),(f82,d82),(f83,d83),(f84,d84),(f85,d85),(f86,d86),(f87,d87),(f88,d88)].getD n (f0,d0),u1,u2,u3,u4,u5,u6,u7,u8,u9⟩
 have CL:∀ k,Cls K (t.A k):=fun k=>AllP.get cl.1 cl k
 have FF:∀ n,FB K (fR n) (t.fl n):=fun n=>All2.get hF.1 hF n
 have hC:AllP (fun p:Str×Addr=>Ns1 K p.1 p.2) (cT.zip [C0,C1,C2,C3,C4,C5,C6,C7,C8,C9,C10,C11,C12,C13,C14,C15]):=hC
 have hG:AllP (fun r:Str×Nat=>Ns1 K r.1 (t.a r.2)) gT:=hG
 have hK:AllP (fun r:Nat×Nat=>Mk K (t.A r.1) (t.a r.2)) kT:=hK
 have hM:AllP (fun r:Nat×Str×Nat=>Meth K (t.A r.1) r.2.1 (t.a r.2.2)) mT:=hM
 have hN:AllP (fun r:Str×List Nat=>AllP (fun k=>NoAttr K (t.A k) r.1) r.2) nT:=hN
 have T:Txt K mg t:=⟨fun n=>(FF n).F,fun n=>(FF n).b,fun n=>mg_of X G (AllP.get (p:=fun r:Str×Nat=>Ns1 K r.1 (t.a r.2)) hG.1 hG n),fun n=>mg_of X G (zip_get hC rfl n),fun n=>AllP.get (p:=fun r:Nat×Nat=>Mk K (t.A r.1) (t.a r.2)) hK.1 hK n,fun n=>AllP.get (p:=fun r:Nat×Str×Nat=>Meth K (t.A r.1) r.2.1 (t.a r.2.2)) hM.1 hM n,mk0,io0,kp0,mk9,io9,kp9,cf13,CL,fun n k hk=>⟨CL k,(AllP.get (p:=fun r:Str×List Nat=>AllP (fun k=>NoAttr K (t.A k) r.1) r.2) hN.1 hN n).mem k hk⟩,yzh CL hn htk [1,2,3,4,5,6,7,8,9] ty sb,fun n=>PySem.W.mg_none_of X G (AllP.get (p:=fun b=>nsIn K mainGlobals b=some none) hZ.1 hZ n),mg_of X G q1,mg_of X G q2,mg_of X G q3,mg_of X G q4,mg_of X G q5,mg_of X G q6,mg_of X G q7,mg_of X G q8,mg_of X G q9⟩
 have e:=hfa.symm.trans (T.G 27)
 have e:fa=f88:=by injection e with e;injection e
 subst e
 refine ⟨d88,?_,fun base _ _=>(yCo T).imp (yCp T)⟩
 obtain ⟨_,_,_,_,_,_,_,_,_,e,_⟩:=(FF 88).F.ex
 have e:d88=_:=e
 subst e
 exact fun s v=>.of_eq rfl
theorem walk {l:PySem.W.OpenLaw}{q:Program}{loose:List Str}{XP:(Str->Option Value)->Heap->Prop}{YP:World->Heap->Prop}{d:DefRec}{K:Params->PySem.W.Frag}(hn:l.most=some 63) (hdf:d.params.defaults=[])
  (hY:∀ (w:World) (h:Heap),YP w h->(K w.params).In h)
  (F:∀ (w:World) (mg:Str->Option Value) (fa:Addr) (h:Heap),(K w.params).In h->h.Ns mainGlobals mg->mg d.name=some (.ref fa) ->
   ∃ fd:FuncData,(∀ (s:Shared) (u:Value),BindsTo s fd ⟨[u],[]⟩ [("_law_script",u)])/\∀ base:Heap,(K w.params).In base->base.Ns mainGlobals mg->FnOk l.prog w (K w.params) mg base CX0 98 fa fd ["_law_script"] (yvx (K w.params))) :
  PySem.W.WalkO q loose XP YP l.row.toRowW d [] (fun f vs=>PySem.call f vs) :=
 L2.walk_of (n:=63) (k:=98) (x:="_law_script") (CX:=fun _=>CX0) (sp:=fun w=>yvx (K w.params)) hn (by decide) hdf ⟨rfl,by decide,by decide⟩ hY F (fun _ _ a ns hl _ hS=>⟨a,ns,rfl,hS,hl,fun _=>rfl⟩) fun _ _ _ _ _ z=>z
end My
local macro_rules | `(tactic| walk_at "ka")=>`(tactic| first|exact True.intro|k_is|decide|((first|refine And.intro ?_ ?_|refine' L2.Cls.mk ?_ ?_ ?_ ?_|refine' My.TyR.mk ?_ ?_ ?_|refine' My.NS2.mk ?_ ?_)<;>walk_at "ka"))
local macro_rules | `(tactic| walk_at "kr")=>`(tactic| first|exact True.intro|(refine And.intro ?_ ?_<;>walk_at "kr")|walk_at "kx")
local macro_rules | `(tactic| walk_at "kx")=>`(tactic| first|(refine' L2.Meth.mk ?a ?b ?c;(case a=>k_is);(case b=>k_is);(case c=>k_is))|(refine' L2.Mk.mk ?a ?b ?c ?d;(case a=>k_is);(case b=>k_is);(case c=>k_is);(case d=>k_is))|(unfold L2.NoAttr;k_is)|(unfold My.Ns1;k_is)|k_is|(dsimp only;k_is))
local macro_rules | `(tactic| walk_at "kf")=>`(tactic| first|exact True.intro|(refine' And.intro (My.FB.of (L2.fun_mk ?a ?b ?c) ?d) ?e;(case a=>k_is);(case b=>k_is);(case c=>k_is);(case d=>first|exact L2.Binds.all (My.ml1 fun _=>rfl)|exact L2.Binds.all (My.ml2 fun _ _=>rfl)|exact L2.Binds.all (My.ml3 fun _ _ _=>rfl)|exact L2.Binds.all (My.ml4 fun _ _ _ _=>rfl)|exact L2.Binds.all (My.ml5 fun _ _ _ _ _=>rfl));(case e=>walk_at "kf")))
local macro_rules | `(tactic| walk_at "k4")=>`(tactic| (refine' ⟨?a,?b,?c,?d⟩;(case a=>k_is);(case b=>k_is);(case c=>k_is);(case d=>k_is)))
open PySem PySem.W PyProof.Rows
set_option maxRecDepth 100000 in
set_option maxHeartbeats 0 in
theorem PySem.Challenge.cw_retryhall_k25_laid_down_and_stamps_holds : PySem.Challenge.rw_retryhall_k25_laid_down_and_stamps.Holds := by
 refine hD_ ?_
 k_fill
 refine My.walk (l:=PySem.Challenge.rw_retryhall_k25_laid_down_and_stamps) rfl rfl (fun w h Y=>Y) ?F
 case F =>
  intro w mg fa h KX G hmg
  refine' My.all_mk KX G hmg ?hC ?cl ?hK ?mk0 ?io0 ?kp0 ?mk9 ?io9 ?kp9 ?hM ?cf13 ?hG ?hF ?hN ?ty ?sb ?hn ?htk ?hZ ?q1 ?q2 ?q3 ?q4 ?q5 ?q6 ?q7 ?q8 ?q9
  (case hC=>walk_at "kr")
  (case cl=>walk_at "ka")
  (case hK=>walk_at "kr")
  (case mk0=>k_is)
  (case io0=>k_is)
  (case kp0=>k_is)
  (case mk9=>k_is)
  (case io9=>k_is)
  (case kp9=>k_is)
  (case hM=>walk_at "kr")
  (case cf13=>walk_at "k4")
  (case hG=>walk_at "kr")
  (case hF=>walk_at "kf")
  (case hN=>walk_at "kr")
  (case ty=>walk_at "ka")
  (case sb=>walk_at "ka")
  (case hn=>k_is)
  (case htk=>k_is)
  (case hZ=>walk_at "kr")
  (case q1=>k_is)
  (case q2=>k_is)
  (case q3=>k_is)
  (case q4=>k_is)
  (case q5=>k_is)
  (case q6=>k_is)
  (case q7=>k_is)
  (case q8=>k_is)
  (case q9=>k_is)
