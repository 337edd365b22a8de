import PyProof.Rows.All
import Wide.All
import OpenK.AllK
import Wide.FinOn
import Lean
import PyProof.EqAt
import PyProof.EqKinds
import PyProof.TupleCall
import PySem.Challenge.RW_retryhall_k26_fell_deeds
set_option Elab.async false
set_option linter.all false
set_option maxRecDepth 100000
set_option maxHeartbeats 4000000
namespace My
open PySem PySem.W
def lvO:Obj->Option Obj
 |⟨_,_,.freed,_⟩=>none
 |o=>some o
abbrev PkO:=List (Nat×Option Obj)
noncomputable def pkO (l:List Obj):Nat->List Nat->PkO:=l.rec (motive:=fun _=>Nat->List Nat->PkO) (fun _ _=>[]) fun o _ f i t=>match t with|[]=>[]|a::t=>bif Nat.beq a i then (a,lvO o)::f (i+1) t else f (i+1) (a::t)
theorem pk_m:∀ {l:List Obj}{i t},∀ p∈pkO l i t,i<=p.1/\p.2=(l[p.1-i]?).bind lvO
 |[],_,_,_,h=>nomatch h
 |_::_,_,[],_,h=>nomatch h
 |o::l,i,a::t,p,h=>by
  have h:p∈bif Nat.beq a i then (a,lvO o)::pkO l (i+1) t else pkO l (i+1) (a::t):=h
  have H:∀ t,p∈pkO l (i+1) t->i<=p.1/\p.2=((o::l)[p.1-i]?).bind lvO:=fun t h=>by
   have u:=pk_m p h
   rw [show p.1-i=p.1-(i+1)+1 by omega]
   exact ⟨by omega,u.2⟩
  cases e:Nat.beq a i<;>rw [e] at h
  .exact H _ h
  .rcases List.mem_cons.mp h with rfl|h
   .cases Nat.eq_of_beq_eq_true e;simp
   .exact H _ h
noncomputable def kHk (K:Params->Frag) (t:List Nat):Hook:=⟨PkO,fun s=>pkO s.heap.objs.toList 0 t,fun w=>(K w.params).map fun p=>(p.1,some p.2),InK K,fun w s x a o e=>by
 obtain ⟨_,_,e,_⟩:=List.lookup_eq_some_iff.mp e
 have m:some o=_:=(pk_m (a,some o) (x ▸ List.mem_map.mpr ⟨(a,o),by simp [e],rfl⟩)).2
 rw [m]
 simp
 unfold Heap.get?
 cases s.heap.objs[a]? with
 |none=>rfl
 |some o=>obtain ⟨_,_,d,_⟩:=o;cases d<;>rfl,InK.keeps⟩
end My
local macro_rules|`(tactic|o_head $H)=>do
 let r:=H.raw[1]
 if r[0].getId.eraseMacroScopes != `kHook then Lean.Macro.throwUnsupported
 `(tactic|o_head (My.kHk $(⟨r[1][0]⟩) $(⟨r[1][1]⟩)))
namespace PySem.W.Fast
local macro_rules|`(command|universe $xs*)=>do return Lean.mkNullNode (<-(xs.flatMap fun x=>#[`hD_++x.getId,`PySem.Challenge++x.getId]).append ((Array.range 1419).map fun i=>`hD_++.mkSimple ("o_"++toString i)) |>.mapM fun n=>`(command|theorem $(Lean.mkIdent (.mkSimple ("tw"++toString n.hash))) : True:=True.intro))
universe heap_39 heap_46 heap_1419 tree_47 tree_70 tree_85 tree_100 tree_115 tree_130 tree_216 tree_280 tree_359 tree_368 tree_458 tree_516 tree_551 tree_587 tree_623 tree_659 tree_695 tree_731 tree_767 tree_803 tree_839 tree_889 tree_933 tree_1054 tree_1139 tree_1159 tree_1276 tree_1359 tree_1418 sts_49 sts_71 sts_86 sts_101 sts_116 sts_131 sts_217 sts_281 sts_360 sts_369 sts_459 sts_517 sts_552 sts_588 sts_624 sts_660 sts_696 sts_732 sts_768 sts_804 sts_840 sts_890 sts_934 sts_1143 sts_1160 sts_1363 view_39 env_41 pw_retryhall_k26_fell_deeds rw_retryhall_k26_fell_deeds
end PySem.W.Fast
set_option maxHeartbeats 0 in
open_top hD_ for PySem.Challenge.rw_retryhall_k26_fell_deeds
open PySem.W (fnOf findIn keepIn subIn codeIn nsIn isFn mg_of plainGet hasDictIn makesIn instObj typeIn emptyDict mroIn mg_none_of kia_one)
local macro_rules | `(tactic| rfl')=>`(tactic| decide +kernel)
open List (mem_cons_self mem_cons_of_mem mem_append_left getElem?_set_self getElem?_set_ne mem_append_right length_cons map_cons length_map append_nil of_mem_zip replicate length length_take getElem?_append_right getElem?_replicate getElem?_append_left getElem?_map mem_of_getElem? length_append map_nil length_drop size_toArray length_set any_cons getElem_of_mem idxOf map_append lookup_cons prefix_refl getElem?_eq_none length_zip find?_cons length_nil zip_cons_cons getD map_map toArray getElem_mem mem_cons not_mem_nil map_set append_assoc)
open Nat (lt_of_lt_of_le lt_irrefl ne_of_lt le_of_lt le_of_eq zero_le sub_self)
open Option (map_some bind_some)
open Bool (and_eq_true)
open PySem.F (plainAttrs_list slot_list_pop type_list_pop)
noncomputable section
namespace L2
open PySem PySem.Spec PyProof.Rows
abbrev Key:=Sum Int Str
def yxV:Key->Value->Bool
 | .inl k,v=>Value.isInt k v
 | .inr x,v=>Value.isStrOf x v
def yRO (w:World):Key->Int
 | .inl k=>hashInt k
 | .inr x=>hashStr w x
theorem ybD:∀ {k:Key}{v:Value},yxV k v=true->(∃ i t,k=Sum.inl i/\v=Value.int i t)\/(∃ x t,k=Sum.inr x/\v=Value.str x t)
 | .inl i,v,h=>by
  obtain ⟨t,e⟩:=Value.isInt_shape (k:=i) (v:=v) h
  exact .inl ⟨i,t,rfl,e⟩
 | .inr x,v,h=>by
  obtain ⟨t,e⟩:=Value.isStrOf_shape (x:=x) (v:=v) h
  exact .inr ⟨x,t,rfl,e⟩
theorem yCa (i:Int) (t:Tok):yxV (.inl i) (.int i t)=true:=by simp [yxV,Value.isInt]
theorem yCb (x:Str) (t:Tok):yxV (.inr x) (.str x t)=true:=by simp [yxV,Value.isStrOf]
theorem yLP (a b:Int):decide ((Sum.inl a:Key)=Sum.inl b)=(a == b):=by
 by_cases e:a=b
 .subst e;simp
 .have h:¬ (Sum.inl a:Key)=Sum.inl b:=fun q=>e (Sum.inl.inj q)
  rw [decide_eq_false h]
  exact (beq_eq_false_iff_ne.mpr e).symm
theorem yLQ (a b:Str):decide ((Sum.inr a:Key)=Sum.inr b)=decide (a=b):=by
 by_cases e:a=b
 .subst e;simp
 .have h:¬ (Sum.inr a:Key)=Sum.inr b:=fun q=>e (Sum.inr.inj q)
  rw [decide_eq_false h,decide_eq_false e]
theorem yLR (a:Int) (b:Str):decide ((Sum.inl a:Key)=Sum.inr b)=false:=decide_eq_false (fun q=>nomatch q)
theorem yLS (a:Str) (b:Int):decide ((Sum.inr a:Key)=Sum.inl b)=false:=decide_eq_false (fun q=>nomatch q)
noncomputable def ydK (prog:Program) (w:World):PySem.KeyKind prog w Key where
 is:=yxV
 hash:=yRO w
 inj:=fun v a b ha hb=>by
  rcases ybD ha with ⟨i,t,rfl,rfl⟩|⟨x,t,rfl,rfl⟩
  .rcases ybD hb with ⟨j,u,rfl,e⟩|⟨y,u,rfl,e⟩
   .injection e with e1 _;rw [e1]
   .exact nomatch e
  .rcases ybD hb with ⟨j,u,rfl,e⟩|⟨y,u,rfl,e⟩
   .exact nomatch e
   .injection e with e1 _;rw [e1]
 byValue:=fun k v h=>by
  rcases ybD h with ⟨i,t,rfl,rfl⟩|⟨x,t,rfl,rfl⟩<;>rfl
 pyHash:=fun hv h=>by
  rcases ybD hv with ⟨i,t,rfl,rfl⟩|⟨x,t,rfl,rfl⟩
  .exact wpAny_pyHash_int h
  .exact wpAny_pyHash_str h
 eqBool:=fun hu hv h=>by
  rcases ybD hu with ⟨i,t,rfl,rfl⟩|⟨x,t,rfl,rfl⟩
  .rcases ybD hv with ⟨j,u,rfl,rfl⟩|⟨y,u,rfl,rfl⟩
   .rw [yLP] at h;exact wpAny_eqBool_int h
   .rw [yLR] at h;exact SeqAt.EqAt.int_str i t y u _ _ _ _ h
  .rcases ybD hv with ⟨j,u,rfl,rfl⟩|⟨y,u,rfl,rfl⟩
   .rw [yLS] at h;exact SeqAt.EqAt.str_int x t j u _ _ _ _ h
   .rw [yLQ] at h;exact wpAny_eqBool_str h
 «strs»:=fun k x t v h=>by
  rcases ybD h with ⟨i,u,rfl,e⟩|⟨y,u,rfl,e⟩
  .exact nomatch e
  .injection e with e1 _
   subst e1
   cases v<;>rfl
theorem yxW (prog:Program) (w:World) (i:Int) (t:Tok):(ydK prog w).is (.inl i) (.int i t)=true:=yCa i t
theorem yxX (prog:Program) (w:World) (x:Str) (t:Tok):(ydK prog w).is (.inr x) (.str x t)=true:=yCb x t
end L2
namespace L2
open PySem PySem.Spec PyProof.Rows
inductive V where
 | non|bl (b:Bool)|int (i:Int)|str (x:Str)|byt (b:Array UInt8)|flt (b:UInt64)|ref (a:Addr)|ty (n:String)
 deriving DecidableEq
noncomputable def RelV:V->Value->Prop
 | .non,u=>u=Value.none
 | .bl b,u=>u=Value.bool b
 | .int i,u=>∃ t,u=Value.int i t
 | .str x,u=>∃ t,u=Value.str x t
 | .byt b,u=>∃ t,u=Value.bytes b t
 | .flt b,u=>∃ t,u=Value.float b t
 | .ref a,u=>u=Value.ref a
 | .ty n,u=>u=Value.type n
abbrev Vals:List V->List Value->Prop:=Paired RelV
theorem Vals.length {xs:List V}{us:List Value}(r:Vals xs us):xs.length=us.length:=Paired.length r
theorem Vals.get:∀ {xs:List V}{us:List Value}{i:Nat}{x:V},Vals xs us->xs[i]?=some x->∃ u,us[i]?=some u/\RelV x u
 | _,_,_,_,.nil,e=>by simp at e
 | _,_,0,_,.cons r _,e=>by simp at e;subst e;exact ⟨_,rfl,r⟩
 | _,_,i+1,x,.cons _ t,e=>by
  obtain ⟨u,h1,h2⟩:=Vals.get (i:=i) (x:=x) t (by simpa using e)
  exact ⟨u,by simpa using h1,h2⟩
theorem Vals.set {x:V}{u:Value}(r:RelV x u):∀ {xs:List V}{us:List Value}(i:Nat),Vals xs us->Vals (xs.set i x) (us.set i u)
 | _,_,_,.nil=>.nil
 | _,_,0,.cons _ t=>.cons r t
 | _,_,i+1,.cons q t=>.cons q (Vals.set r i t)
theorem Vals.append:∀ {xs ys:List V}{us ws:List Value},Vals xs us->Vals ys ws->Vals (xs++ys) (us++ws)
 | _,_,_,_,.nil,s=>s
 | _,_,_,_,.cons r t,s=>.cons r (Vals.append t s)
theorem Vals.take:∀ {xs:List V}{us:List Value}(n:Nat),Vals xs us->Vals (xs.take n) (us.take n)
 | _,_,0,_=>.nil
 | _,_,_+1,.nil=>.nil
 | _,_,n+1,.cons r t=>.cons r (Vals.take n t)
theorem Vals.drop:∀ {xs:List V}{us:List Value}(n:Nat),Vals xs us->Vals (xs.drop n) (us.drop n)
 | _,_,0,r=>r
 | _,_,_+1,.nil=>.nil
 | _,_,n+1,.cons _ t=>Vals.drop n t
def RelO:Option V->Option Value->Prop
 | some v,some u=>RelV v u
 | none,none=>True
 | _,_=>False
def KV {κ:Type}:List (κ×V)->List (κ×Value)->Prop:=Paired fun (p:κ×V) (q:κ×Value)=>p.1=q.1/\RelV p.2 q.2
def kV:Key->V
 | .inl i=>.int i
 | .inr x=>.str x
inductive HO where
 | lst (xs:List V)
 | tup (xs:List V)
 | dK (kvs:List (Key×V))|dT (kvs:List (List Key×V))
 | set (S:Int->Bool) (n:Nat)
 | ins (C dx:Addr) (fs:List (Str×V))
 | own (x:Addr)
 | xd (fs:List (Str×V))
 | met (f x:Addr)
 | rng (lo hi:Int)
 | frz (o:Obj) (u:HO)
 | tbl (ps:Array Value)
 | ext (φ:Heap->Prop)
abbrev Hp:=Addr->Option HO
def upd (H:Hp) (a:Addr) (o:HO):Hp:=fun b=>if b=a then some o else H b
theorem yF {H:Hp}{a:Addr}{o:HO}:upd H a o a=some o:=by unfold upd;rw [if_pos rfl]
theorem yL {H:Hp}{a b:Addr}{o:HO}(h:b≠a):upd H a o b=H b:=by unfold upd;rw [if_neg h]
theorem yOD {H:Hp}{a b:Addr}{o u:HO}(h:H a=some o) (h':H b=some u) (d:o≠u):a≠b:=by
 intro e;subst e;rw [h] at h';exact d (Option.some.inj h')
theorem ycd {H:Hp}{a b:Addr}{o:HO}(h:H a=some o) (h':H b=none):a≠b:=by
 intro e;subst e;rw [h] at h';cases h'
section
variable (P:Program) (w:World)
def ObjOk (H:Hp) (h:Heap) (a:Addr):HO->Prop
 | .lst xs=>xs.length<=sizeLine/\∃ (its:List Value) (n:Nat),Vals xs its/\h.get? a=some { cls:=.type "list",data:=.seq its.toArray n }
 | .tup xs=>xs.length<=sizeLine/\∃ its:List Value,Vals xs its/\IsTup h a its.toArray
 | .dK kvs=>kvs.length<=sizeLine/\(a == sysModules)=false/\∃ vs,KV kvs vs/\h.DictOf (ydK P w) a vs
 | .dT kvs=>kvs.length<=sizeLine/\(a == sysModules)=false/\∃ xs:List (List Key×Addr×Value),
   Paired (fun (p:List Key×V) (q:List Key×Addr×Value)=>p.1=q.1/\H q.2.1=some (.tup (p.1.map kV))/\RelV p.2 q.2.2) kvs xs /\
   ∃ o es ep,h.get? a=some o/\o.ExactDict/\o.data=.dict es ep/\es.toList=xs.map (entryOfKey (tupleKind (ydK P w)))/\(xs.map (·.1)).Nodup
 | .set S n=>h.SetOf (intKind P w) a S n
 | .ins C dx fs=>H dx=some (.own a)/\fs.length<=1000/\dx≠a/\h.get? a=some (instObj C dx) /\
   ∃ mA,h.Ns1 dx mA/\(∀ f,RelO (fs.lookup f) (mA f))/\PySem.Within mA (fs.map (·.1))
 | .own _=>∃ o,h.get? a=some o
 | .xd fs=>∃ mA,h.Ns1 a mA/\∀ f,RelO (fs.lookup f) (mA f)
 | .rng lo hi=>∃ t u v,h.get? a=some { cls:=.type "range",data:=.fields #[.int lo t,.int hi u,.int 1 v] }
 | .frz o u=>h.get? a=some o/\ObjOk H h a u
 | .tbl ps=>h.get? a=some { cls:=.none,data:=.fields ps }
 | .met f x=>h.get? a=some (PySem.W.methodObj (.ref f) (.ref x))
 | .ext φ=>φ h/\(∃ o,h.get? a=some o)/\∀ h1 h2:Heap,φ h1->(∀ o,h1.get? a=some o->h2.get? a=some o)->φ h2
def HOk (H:Hp) (h:Heap):Prop:=∀ a o,H a=some o->ObjOk P w H h a o
end
section
variable {P:Program}{w:World}{H H':Hp}{h h':Heap}{a:Addr}{o:HO}
theorem ObjOk.lt (x:ObjOk P w H h a o):a<h.objs.size:=by
 cases o with
 | lst xs=>obtain ⟨_,_,_,_,e⟩:=x;exact Heap.lt_size e
 | tup xs=>obtain ⟨_,_,_,p⟩:=x;exact p.lt
 | dK kvs=>obtain ⟨_,_,_,_,o,_,_,e,_⟩:=x;exact Heap.lt_size e
 | dT kvs=>obtain ⟨_,_,_,_,o,_,_,e,_⟩:=x;exact Heap.lt_size e
 | set S n=>obtain ⟨o,_,_,_,e,_⟩:=x;exact Heap.lt_size e
 | ins C dx fs=>obtain ⟨_,_,_,e,_⟩:=x;exact Heap.lt_size e
 | own y=>obtain ⟨_,e⟩:=x;exact Heap.lt_size e
 | xd fs=>obtain ⟨_,⟨_,_,_,e,_⟩,_⟩:=x;exact Heap.lt_size e
 | rng lo hi=>obtain ⟨_,_,_,e⟩:=x;exact Heap.lt_size e
 | frz ob u=>obtain ⟨e,_⟩:=x;exact Heap.lt_size e
 | tbl ps=>exact Heap.lt_size (show h.get? a=some _ from x)
 | met f y=>exact Heap.lt_size (show h.get? a=some _ from x)
 | ext φ=>obtain ⟨_,⟨_,e⟩,_⟩:=x;exact Heap.lt_size e
theorem Paired.mapP {α β:Type}{F G:α->β->Prop}:∀ {l₁:List α}{l₂:List β},Paired F l₁ l₂->(∀ a b,F a b->G a b)->Paired G l₁ l₂
 | _,_,.nil,_=>.nil
 | _,_,.cons r t,f=>.cons (f _ _ r) (Paired.mapP t f)
theorem ObjOk.stay (x:ObjOk P w H h a o) (k:∀ b u,(b=a\/H b=some (.own a))->h.get? b=some u->h'.get? b=some u)
  (ho:∀ b,H b=some (.own a)->H' b=some (.own a)) (ht:∀ b xs,H b=some (.tup xs)->H' b=some (.tup xs)):ObjOk P w H' h' a o:=by
 induction o with
 | lst xs=>obtain ⟨z,its,n,r,e⟩:=x;exact ⟨z,its,n,r,k _ _ (.inl rfl) e⟩
 | tup xs=>obtain ⟨z,its,r,ob,e,c⟩:=x;exact ⟨z,its,r,ob,k _ _ (.inl rfl) e,c⟩
 | dK kvs=>obtain ⟨z,y,vs,r,ob,es,ep,e,c⟩:=x;exact ⟨z,y,vs,r,ob,es,ep,k _ _ (.inl rfl) e,c⟩
 | dT kvs =>
  obtain ⟨z,y,xs,r,ob,es,ep,e,c⟩:=x
  exact ⟨z,y,xs,Paired.mapP r fun p q z=>⟨z.1,ht _ _ z.2.1,z.2.2⟩,ob,es,ep,k _ _ (.inl rfl) e,c⟩
 | set S n=>obtain ⟨ob,es,ep,t,e,c⟩:=x;exact ⟨ob,es,ep,t,k _ _ (.inl rfl) e,c⟩
 | ins C dx fs =>
  obtain ⟨d,z,ne,e,mA,⟨od,es,ep,e2,c⟩,r⟩:=x
  exact ⟨ho _ d,z,ne,k _ _ (.inl rfl) e,mA,⟨od,es,ep,k _ _ (.inr d) e2,c⟩,r⟩
 | own y=>obtain ⟨ob,e⟩:=x;exact ⟨ob,k _ _ (.inl rfl) e⟩
 | xd fs=>obtain ⟨mA,⟨od,es,ep,e,c⟩,r⟩:=x;exact ⟨mA,⟨od,es,ep,k _ _ (.inl rfl) e,c⟩,r⟩
 | rng lo hi=>obtain ⟨t,u,v,e⟩:=x;exact ⟨t,u,v,k _ _ (.inl rfl) e⟩
 | frz ob u ih=>obtain ⟨e,q⟩:=x;exact ⟨k _ _ (.inl rfl) e,ih q⟩
 | tbl ps =>
  have e:h.get? a=some { cls:=.none,data:=.fields ps }:=x
  show h'.get? a=some { cls:=.none,data:=.fields ps }
  exact k a _ (.inl rfl) e
 | met f y =>
  have e:h.get? a=some (PySem.W.methodObj (.ref f) (.ref y)):=x
  show h'.get? a=some (PySem.W.methodObj (.ref f) (.ref y))
  exact k a _ (.inl rfl) e
 | ext φ=>obtain ⟨p,⟨o,e⟩,st⟩:=x;exact ⟨st _ _ p fun o q=>k _ _ (.inl rfl) q,⟨o,k _ _ (.inl rfl) e⟩,st⟩
theorem HOk.lt (x:HOk P w H h) (e:H a=some o):a<h.objs.size:=(x a o e).lt
theorem HOk.fresh (x:HOk P w H h) (e:h.objs.size<=a):H a=none:=by
 cases q:H a with
 | none=>rfl
 | some u=>exact absurd (lt_of_lt_of_le (x.lt q) e) (lt_irrefl _)
theorem HOk.kept (x:HOk P w H h) (k:∀ b u,h.get? b=some u->h'.get? b=some u):HOk P w H h':=fun a o e =>
 (x a o e).stay (fun b u _ q=>k b u q) (fun _ q=>q) fun _ _ q=>q
theorem HOk.laid (x:HOk P w H h) (k:∀ b u,h.get? b=some u->h'.get? b=some u) (hp:h.objs.size<=a) (new:ObjOk P w (upd H a o) h' a o):HOk P w (upd H a o) h':=fun b u e=>by
 have hn:=x.fresh hp
 by_cases hb:b=a
 .subst hb;rw [yF] at e;cases e;exact new
 .rw [yL hb] at e
  exact (x b u e).stay (fun c v _ q=>k c v q) (fun c q=>by rw [yL (ycd q hn)];exact q) fun c xs q=>by rw [yL (ycd q hn)];exact q
end
def Rd (H:Hp) (a:Addr) (u:HO):Prop:=H a=some u\/∃ o,H a=some (.frz o u)
theorem Rd.ok {P:Program}{w:World}{H:Hp}{h:Heap}{a:Addr}{u:HO}(r:Rd H a u) (x:HOk P w H h):ObjOk P w H h a u:=by
 rcases r with r|⟨o,r⟩
 .exact x a u r
 .obtain ⟨_,q⟩:=x a _ r
  exact q
noncomputable def Mut:Option HO->Prop
 | some (.lst _)=>True
 | some (.dK _)=>True
 | some (.dT _)=>True
 | some (.set _ _)=>True
 | some (.ins _ _ _)=>True
 | some (.ext _)=>True
 | _=>False
section
variable {P:Program}{w:World}{H:Hp}{h h':Heap}{x e:Addr}{o':HO}
theorem HOk.write (ok:HOk P w H h) (mu:Mut (H x)) (he:e=x\/H e=some (.own x)) (k:∀ b u,b≠e->h.get? b=some u->h'.get? b=some u) (heo:∃ u,h'.get? e=some u)
  (new:ObjOk P w (upd H x o') h' x o'):HOk P w (upd H x o') h':=fun b u q=>by
 have nown:∀ c y,H c=some (.own y)->c≠x:=fun c y r z=>by subst z;rw [r] at mu;exact mu
 have ntup:∀ c xs,H c=some (.tup xs)->c≠x:=fun c xs r z=>by subst z;rw [r] at mu;exact mu
 by_cases hb:b=x
 .subst hb;rw [yF] at q;cases q;exact new
 .rw [yL hb] at q
  by_cases hbe:b=e
  .have q':H b=some (.own x):=by
    rcases he with z|z
    .exact absurd (hbe.trans z) hb
    .rw [hbe];exact z
   rw [q] at q';cases q'
   obtain ⟨v,hv⟩:=heo
   exact ⟨v,by rw [hbe];exact hv⟩
  .refine (ok b u q).stay (fun c v hc r=>k c v ?_ r) (fun c r=>by rw [yL (nown c b r)];exact r) fun c xs r=>by rw [yL (ntup c xs r)];exact r
   rcases hc with rfl|hc
   .exact hbe
   .rintro rfl
    rcases he with z|z
    .exact nown c b hc z
    .rw [hc] at z;cases z;exact hb rfl
end
structure Un (fs ex:List Addr) (H H':Hp) (h h':Heap):Prop where
 keep:∀ b o,h.get? b=some o->H b=none->b∉fs->b∉ex->h'.get? b=some o
 slot:∀ b o,h.get? b=some o->H b=none->b∈fs->b∉ex->∃ sl,h'.get? b=some { o with slots:=sl }
 free:∀ b o,h.get? b=some o->H b=none->b∉ex->H' b=none
 there:∀ b o,h.get? b=some o->b∉ex->∃ o',h'.get? b=some o'
 tups:∀ b xs,H b=some (.tup xs)->H' b=some (.tup xs)
 frzs:∀ b o u,H b=some (.frz o u)->H' b=some (.frz o u)
 tbls:∀ b ps,H b=some (.tbl ps)->∃ more,H' b=some (.tbl (ps++more))
section
variable {fs fs' ex ex':List Addr}{H H1 H2:Hp}{h h1 h2 h':Heap}{a x e:Addr}{o:HO}
theorem Un.any (u:Un fs ex H H1 h h1) {b:Addr}{ob:Obj}(q:h.get? b=some ob) (n:H b=none) (hx:b∉ex):∃ sl,h1.get? b=some { ob with slots:=sl }:=by
 by_cases hb:b∈fs
 .exact u.slot b ob q n hb hx
 .exact ⟨ob.slots,u.keep b ob q n hb hx⟩
theorem Un.kept (k:∀ b u,h.get? b=some u->h'.get? b=some u):Un fs ex H H h h' :=
 ⟨fun b ob q _ _ _=>k b ob q,fun b ob q _ _ _=>⟨ob.slots,k b ob q⟩,fun _ _ _ n _=>n,fun b ob q _=>⟨ob,k b ob q⟩,fun _ _ q=>q,fun _ _ _ q=>q,fun _ ps q=>⟨#[],by rw [q];simp⟩⟩
theorem Un.refl:Un fs ex H H h h:=Un.kept fun _ _ q=>q
theorem Un.laid (k:∀ b u,h.get? b=some u->h'.get? b=some u) (hp:h.objs.size<=a) (hn:H a=none):Un fs ex H (upd H a o) h h' where
 keep:=fun b u q _ _ _=>k b u q
 slot:=fun b u q _ _ _=>⟨u.slots,k b u q⟩
 free:=fun b u q n _=>by rw [yL (ne_of_lt (lt_of_lt_of_le (Heap.lt_size q) hp))];exact n
 there:=fun b u q _=>⟨u,k b u q⟩
 tups:=fun b xs q=>by rw [yL (ycd q hn)];exact q
 frzs:=fun b u xs q=>by rw [yL (ycd q hn)];exact q
 tbls:=fun b ps q=>⟨#[],by rw [yL (ycd q hn),q];simp⟩
theorem Un.write (mu:Mut (H x)) (he:e=x\/H e=some (.own x)) (k:∀ b u,b≠e->h.get? b=some u->h'.get? b=some u) (heo:∃ u,h'.get? e=some u):Un fs ex H (upd H x o) h h':=by
 have hx:∀ b,H b=none->b≠x:=fun b n z=>by subst z;rw [n] at mu;exact mu
 have hb:∀ b,H b=none->b≠e:=fun b n z=>by
  subst z
  rcases he with r|r
  .exact hx b n r
  .rw [n] at r;cases r
 have hm:∀ b u,H b=some u->¬ Mut (some u)->b≠x:=fun b u q nm z=>by subst z;rw [q] at mu;exact nm mu
 refine ⟨fun b u q n _ _=>k b u (hb b n) q,fun b u q n _ _=>⟨u.slots,k b u (hb b n) q⟩,fun b u q n _=>by rw [yL (hx b n)];exact n,fun b u q _=>?_,
  fun b xs q=>by rw [yL (hm b _ q fun z=>z)];exact q,fun b u xs q=>by rw [yL (hm b _ q fun z=>z)];exact q,fun b ps q=>⟨#[],by rw [yL (hm b _ q fun z=>z),q];simp⟩⟩
 by_cases hbe:b=e
 .subst hbe;exact heo
 .exact ⟨u,k b u hbe q⟩
end
def trk (h:Heap) (H:Hp):List Addr:=(List.range h.objs.size).filter fun a=>(H a).isSome
def yFl (h:Heap) (H:Hp):Heap:=PySem.W.hideAll h (trk h H)
theorem yCc (h:Heap) (H:Hp):(yFl h H).objs.size=h.objs.size:=PySem.W.hideAll_size _ _
theorem yFm {h:Heap}{H:Hp}{b:Addr}{o:Obj}(e:h.get? b=some o) (n:H b=none):(yFl h H).get? b=some o :=
 PySem.W.hideAll_get _ e fun hm=>by
  have q:(H b).isSome=true:=(List.mem_filter.mp hm).2
  rw [n] at q;simp at q
theorem yJe {h:Heap}{H:Hp}{b:Addr}{o:Obj}(e:(yFl h H).get? b=some o):h.get? b=some o/\H b=none:=by
 have e':h.get? b=some o:=PySem.W.of_hideAll (trk h H) e
 refine ⟨e',?_⟩
 cases q:H b with
 | none=>rfl
 | some x =>
  have hm:b∈trk h H:=List.mem_filter.mpr ⟨List.mem_range.mpr (Heap.lt_size e'),by simp [q]⟩
  have z:(yFl h H).get? b=none:=PySem.W.hideAll_none (trk h H) hm
  rw [z] at e;cases e
noncomputable def yJf (g h:Heap) (L:Addr):List (Addr×Obj):=(List.range h.objs.size).filterMap fun a=>if a=L\/(g.get? a).isSome=true then none else (h.get? a).map fun o=>(a,o)
def rest (g h:Heap) (L d:Addr):List (Addr×Obj):=(yJf g h L).filter fun p=>decide (p.1≠d)
end L2
namespace L2
open PySem PySem.Spec PyProof.Rows
structure Mod (K:PySem.W.Frag) (mg:Str->Option Value) (base:Heap):Prop where
 kin:K.In base
 glob:base.Ns mainGlobals mg
 blt:∃ mb,base.Ns builtinsNs mb/\∀ x:Str,x≠"__name__"->mb x=bootBuiltins x
 nolimit:base.NoLimit
structure Cx where
 prog:Program
 w:World
 K:PySem.W.Frag
 mg:Str->Option Value
 base:Heap
 A:Around
 N:List Str
 s₀:Shared
 H₀:Hp
 env:Env
 outer:List Env
 stack:List Env
 ex:List Addr
 fn:Str->Bool
 calm:Bool
 pn:List (Addr×Obj)
 xe:Value->Shared->Prop
def frs (l:List Env):List Addr:=l.filterMap (·.frame)
abbrev Cx.fs (X:Cx):List Addr:=frs X.outer
noncomputable def Vis (sc:Scope) (x:Str):Prop:=sc.names.lookup x=some .local \/ sc.names.lookup x=some .cell\/sc.names.lookup x=some .free
def Loc (sc:Scope) (x:Str):Prop:=sc.names.lookup x=some .local \/ sc.names.lookup x=some .cell
noncomputable def Look (env:Env) (h:Heap) (m:Str->Option Value) (x:Str) (u:Value):Prop :=
 (env.kindOf x=some .local/\m x=some u)\/((env.kindOf x=some .cell\/env.kindOf x=some .free)/\∃ c,env.cells.lookup x=some c/\h.IsCell c (some u))
structure Cx.Ok (X:Cx):Prop where
 mod:Mod X.K X.mg X.base
 kind:X.env.scope.kind=.function
 glob:X.env.globals=mainGlobals
 blt:X.env.builtins=builtinsNs
 above:X.s₀.heap.objs.size<=X.env.locals
 inj:∀ x y c,X.env.cells.lookup x=some c->X.env.cells.lookup y=some c->x=y
 has:∀ x,(X.env.kindOf x=some .cell\/X.env.kindOf x=some .free)->∃ c,X.env.cells.lookup x=some c
 cab:∀ x c,X.fn x=true->X.env.cells.lookup x=some c->X.s₀.heap.objs.size<=c
 hd:X.calm=true->X.A.handled=none
 frames:X.A.frames=some X.stack
 stk:X.stack=X.outer\/(X.stack=X.env::X.outer/\X.env.frame=some X.env.locals)
 exf:∀ b∈X.ex,b≠X.env.locals/\∀ x c,X.env.cells.lookup x=some c->c≠b
 bs:∀ b o,X.base.get? b=some o->X.s₀.heap.get? b=some o/\X.H₀ b=none
 bsz:X.base.objs.size<=X.s₀.heap.objs.size
 noex:∀ b o,X.base.get? b=some o->b∉X.ex
 exfs:∀ b∈X.ex,b∉X.fs
 funs:X.s₀.heap.FunFrames X.base X.outer
 frf:∀ b∈X.fs,X.H₀ b=none
structure Inv (X:Cx) (pins:List (Addr×Obj)) (σ:List (Option V)) (H:Hp) (s:Shared):Prop where
 ok:X.Ok
 os:s.os=X.s₀.os
 bare:AllBare s.gens
 base:Un X.fs X.ex X.H₀ H X.s₀.heap s.heap
 loc:∃ m,s.heap.Ns X.env.locals m/\∀ (i:Nat) (x:Str) (v:V),X.N[i]?=some x->σ[i]?=some (some v)->Vis X.env.scope x->∃ u,RelV v u/\Look X.env s.heap m x u
 cell:∀ x c,X.env.cells.lookup x=some c->∃ v,s.heap.IsCell c v
 free:H X.env.locals=none
 freeC:∀ x c,X.env.cells.lookup x=some c->H c=none
 pin:∀ p∈X.pn++pins,s.heap.get? p.1=some p.2/\H p.1=none/\p.1≠X.env.locals/\p.1∉X.fs/\∀ v,p.2.data≠.cell v
 hok:HOk X.prog X.w H s.heap
 len:σ.length=X.N.length
section
variable {X:Cx}{pins:List (Addr×Obj)}{σ:List (Option V)}{H H':Hp}{s:Shared}{h':Heap}
theorem Cx.Ok.nofr (ok:X.Ok) {b:Addr}{o:Obj}(e:X.base.get? b=some o):b∉X.fs:=fun hb=>by
 have:=(ok.funs.mem hb).1
 rw [e] at this;cases this
theorem Inv.bs (I:Inv X pins σ H s):∀ b o,X.base.get? b=some o->s.heap.get? b=some o/\H b=none:=fun b o e =>
 ⟨I.base.keep b o (I.ok.bs b o e).1 (I.ok.bs b o e).2 (I.ok.nofr e) (I.ok.noex b o e),I.base.free b o (I.ok.bs b o e).1 (I.ok.bs b o e).2 (I.ok.noex b o e)⟩
theorem Inv.bk (I:Inv X pins σ H s):∀ b o,X.base.get? b=some o->s.heap.get? b=some o:=fun b o e=>(I.bs b o e).1
theorem Inv.mod (I:Inv X pins σ H s):Mod X.K X.mg X.base:=I.ok.mod
theorem Inv.kIn (I:Inv X pins σ H s):X.K.In s.heap:=I.ok.mod.kin.keeps I.bk
theorem Inv.lt (I:Inv X pins σ H s):X.env.locals<s.heap.objs.size:=let ⟨_,hn,_⟩:=I.loc;hn.lt
theorem Inv.sz (I:Inv X pins σ H s):X.s₀.heap.objs.size<=s.heap.objs.size:=Nat.le_trans I.ok.above (le_of_lt I.lt)
theorem Inv.nofs (I:Inv X pins σ H s) {a:Addr}(h:s.heap.objs.size<=a):a∉X.fs:=fun hb=>by
 obtain ⟨_,o,ho,_⟩:=I.ok.funs.mem hb
 exact absurd (lt_of_lt_of_le (Heap.lt_size ho) (Nat.le_trans I.sz h)) (lt_irrefl _)
theorem Inv.cne (I:Inv X pins σ H s):∀ x c,X.env.cells.lookup x=some c->c≠X.env.locals:=fun x c e z=>by
 obtain ⟨v,o,ho,hd⟩:=I.cell x c e
 obtain ⟨m,⟨o',es,ep,ho',hd',_⟩,_⟩:=I.loc
 rw [z,ho'] at ho;cases ho;rw [hd'] at hd;cases hd
theorem Inv.funs (I:Inv X pins σ H s):s.heap.FunFrames X.base X.outer:=by
 have all:∀ (l:List Env),(∀ b∈frs l,b∈X.fs)->X.s₀.heap.FunFrames X.base l->s.heap.FunFrames X.base l:=by
  intro l
  induction l with
  | nil=>intro _ _;trivial
  | cons env r ih =>
   intro hs hl
   obtain ⟨hk,⟨L,o,hf,hn,ho,hd⟩,hr⟩:=hl
   have hL:L∈X.fs:=hs L (by unfold frs;rw [List.filterMap_cons,hf];exact mem_cons_self)
   obtain ⟨sl,e⟩:=I.base.slot L o ho (I.ok.frf L hL) hL fun z=>I.ok.exfs L z hL
   exact ⟨hk,⟨L,_,hf,hn,e,hd⟩,ih (fun b hb=>hs b (by unfold frs;rw [List.filterMap_cons,hf];exact mem_cons_of_mem _ hb)) hr⟩
 exact all X.outer (fun _ hb=>hb) I.ok.funs
theorem Inv.stack (I:Inv X pins σ H s):s.heap.FunFrames X.base X.stack:=by
 rcases I.ok.stk with e|⟨e,hf⟩
 .rw [e];exact I.funs
 .rw [e]
  obtain ⟨m,hn,_⟩:=I.loc
  refine .cons (by rw [I.ok.kind];decide) hf hn ?_ I.funs
  exact Heap.get?_none_of_le (Nat.le_trans I.ok.bsz I.ok.above)
theorem Inv.stkSub (I:Inv X pins σ H s):∀ b∈frs X.stack,b∈X.env.locals::X.fs:=fun b hb=>by
 rcases I.ok.stk with e|⟨e,hf⟩
 .rw [e] at hb;exact mem_cons_of_mem _ hb
 .rw [e] at hb
  unfold frs at hb
  rw [List.filterMap_cons,hf] at hb
  exact hb
theorem Inv.stkFree (I:Inv X pins σ H s):∀ b∈frs X.stack,H b=none:=fun b hb=>by
 rcases mem_cons.mp (I.stkSub b hb) with e|hb
 .rw [e];exact I.free
 .obtain ⟨_,o,ho,_⟩:=I.ok.funs.mem hb
  exact I.base.free b o ho (I.ok.frf b hb) fun z=>I.ok.exfs b z hb
theorem Inv.step {g':Array GenState}{t':Nat}{d':Drawn}{ch:List Addr}(I:Inv X pins σ H s)
  (hch:∀ b∈ch,(b∈X.ex\/X.s₀.heap.objs.size<=b)/\b≠X.env.locals/\(∀ x c,X.env.cells.lookup x=some c->c≠b)/\∀ p∈X.pn++pins,p.1≠b)
  (keep:∀ b o,b≠X.env.locals->b∉X.fs->b∉ch->s.heap.get? b=some o->H b=none->h'.get? b=some o)
  (slot:∀ b o,b≠X.env.locals->b∈X.fs->b∉ch->s.heap.get? b=some o->H b=none->∃ sl,h'.get? b=some { o with slots:=sl }) (free:∀ b o,b∉ch->s.heap.get? b=some o->H b=none->H' b=none)
  (there:∀ b o,b∉ch->s.heap.get? b=some o->∃ o',h'.get? b=some o')
  (tups:∀ b xs,H b=some (.tup xs)->H' b=some (.tup xs)) (frzs:∀ b o u,H b=some (.frz o u)->H' b=some (.frz o u)) (tbls:∀ b ps,H b=some (.tbl ps)->∃ more,H' b=some (.tbl (ps++more)))
  (ns:∀ m,s.heap.Ns X.env.locals m->h'.Ns X.env.locals m) (hok:HOk X.prog X.w H' h') (hg:AllBare g') :
  Inv X pins σ H' { s with heap:=h',gens:=g',drawn:=d',toks:=t' }:=by
 have neL:∀ b o,X.s₀.heap.get? b=some o->b≠X.env.locals:=fun b o e=>ne_of_lt (lt_of_lt_of_le (Heap.lt_size e) I.ok.above)
 have neC:∀ b o,X.s₀.heap.get? b=some o->b∉X.ex->b∉ch:=fun b o e hx hb=>by
  rcases (hch b hb).1 with z|z
  .exact hx z
  .exact absurd (lt_of_lt_of_le (Heap.lt_size e) z) (lt_irrefl _)
 have cellK:∀ x c,X.env.cells.lookup x=some c->∀ v,s.heap.IsCell c v->h'.IsCell c v:=fun x c e v ⟨o,ho,hd⟩=>by
  have nch:c∉ch:=fun z=>(hch c z).2.2.1 x c e rfl
  by_cases hc:c∈X.fs
  .obtain ⟨sl,q⟩:=slot c o (I.cne x c e) hc nch ho (I.freeC x c e)
   exact ⟨_,q,hd⟩
  .exact ⟨o,keep c o (I.cne x c e) hc nch ho (I.freeC x c e),hd⟩
 refine ⟨I.ok,I.os,hg,⟨fun b o e n hb hx=>?_,fun b o e n hb hx=>?_,fun b o e n hx=>?_,fun b o e hx=>?_,fun b xs e=>tups b xs (I.base.tups b xs e),fun b o xs e=>frzs b o xs (I.base.frzs b o xs e),fun b ps e=>?_⟩,?_,fun x c e=>?_,?_,fun x c e=>?_,fun p hp=>?_,hok,I.len⟩
 .exact keep b o (neL b o e) hb (neC b o e hx) (I.base.keep b o e n hb hx) (I.base.free b o e n hx)
 .obtain ⟨sl,e1⟩:=I.base.slot b o e n hb hx
  obtain ⟨sl',e2⟩:=slot b _ (neL b o e) hb (neC b o e hx) e1 (I.base.free b o e n hx)
  exact ⟨sl',e2⟩
 .obtain ⟨o',e1⟩:=I.base.there b o e hx
  exact free b o' (neC b o e hx) e1 (I.base.free b o e n hx)
 .obtain ⟨o',e1⟩:=I.base.there b o e hx
  exact there b o' (neC b o e hx) e1
 .obtain ⟨m1,e1⟩:=I.base.tbls b ps e
  obtain ⟨m2,e2⟩:=tbls b _ e1
  exact ⟨m1++m2,by rw [e2,Array.append_assoc]⟩
 .obtain ⟨m,hn,hl⟩:=I.loc
  refine ⟨m,ns m hn,fun i x v e1 e2 e3=>?_⟩
  obtain ⟨u,r,l⟩:=hl i x v e1 e2 e3
  refine ⟨u,r,?_⟩
  rcases l with l|⟨k,c,e,z⟩
  .exact .inl l
  .exact .inr ⟨k,c,e,cellK x c e _ z⟩
 .obtain ⟨v,z⟩:=I.cell x c e
  exact ⟨v,cellK x c e v z⟩
 .obtain ⟨m,⟨o,_,_,ho,_⟩,_⟩:=I.loc
  exact free _ o (fun z=>(hch _ z).2.1 rfl) ho I.free
 .obtain ⟨v,o,ho,hd⟩:=I.cell x c e
  exact free c o (fun z=>(hch c z).2.2.1 x c e rfl) ho (I.freeC x c e)
 .obtain ⟨e,n,ne,nf,d⟩:=I.pin p hp
  have nch:p.1∉ch:=fun z=>(hch p.1 z).2.2.2 p hp rfl
  exact ⟨keep p.1 p.2 ne nf nch e n,free p.1 p.2 nch e n,ne,nf,d⟩
theorem Inv.un {t':Nat}(I:Inv X pins σ H s) (u:Un X.fs [] H H' s.heap h') (hok:HOk X.prog X.w H' h'):Inv X pins σ H' { s with heap:=h',toks:=t' }:=by
 obtain ⟨m,⟨o,es,ep,ho,r⟩,_⟩:=id I.loc
 obtain ⟨sl,hL⟩:=u.any ho I.free (by simp)
 exact I.step (g':=s.gens) (d':=s.drawn) (ch:=[]) (fun _ z=>nomatch z) (fun b o _ hb _ e n=>u.keep b o e n hb (by simp)) (fun b o _ hb _ e n=>u.slot b o e n hb (by simp)) (fun b o _ e n=>u.free b o e n (by simp)) (fun b o _ e=>u.there b o e (by simp)) u.tups u.frzs u.tbls (fun m' hm=>by
  obtain ⟨o',es',ep',ho',r'⟩:=hm
  rw [ho] at ho';cases ho'
  exact ⟨_,es',ep',hL,r'⟩) hok I.bare
theorem Inv.call {g':Array GenState}{t':Nat}{d':Drawn}{ch:List Addr}(I:Inv X pins σ H s) (u:Un (frs X.stack) ch H H' s.heap h') (hok:HOk X.prog X.w H' h') (hg:AllBare g')
  (hch:∀ b∈ch,(b∈X.ex\/X.s₀.heap.objs.size<=b)/\b≠X.env.locals/\(∀ x c,X.env.cells.lookup x=some c->c≠b)/\∀ p∈X.pn++pins,p.1≠b) :
  Inv X pins σ H' { s with heap:=h',gens:=g',drawn:=d',toks:=t' }:=by
 obtain ⟨m,⟨o,es,ep,ho,r⟩,_⟩:=id I.loc
 obtain ⟨sl,hL⟩:=u.any ho I.free fun z=>(hch _ z).2.1 rfl
 exact I.step (ch:=ch) hch (fun b o hL hb hc e n=>u.keep b o e n (fun z=>(mem_cons.mp (I.stkSub b z)).elim hL hb) hc) (fun b o _ _ hc e n=>u.any e n hc) (fun b o hc e n=>u.free b o e n hc) (fun b o hc e=>u.there b o e hc) u.tups u.frzs u.tbls (fun m' hm=>by
  obtain ⟨o',es',ep',ho',r'⟩:=hm
  rw [ho] at ho';cases ho'
  exact ⟨_,es',ep',hL,r'⟩) hok hg
theorem Inv.turned {t':Nat}{it:Addr}(I:Inv X pins σ H s) (k:∀ b o,b≠it->s.heap.get? b=some o->h'.get? b=some o) (hn:H it=none) (hL:it≠X.env.locals)
  (h1:it∈X.ex\/X.s₀.heap.objs.size<=it) (h2:∀ x c,X.env.cells.lookup x=some c->c≠it) (h3:∀ p∈X.pn++pins,p.1≠it):Inv X pins σ H { s with heap:=h',toks:=t' }:=by
 have nit:∀ b u,H b=some u->b≠it:=fun b u e z=>by rw [z,hn] at e;cases e
 refine I.step (g':=s.gens) (d':=s.drawn) (ch:=[it]) (fun b hb=>?_) (fun b o _ _ hc e _=>k b o (fun z=>hc (by simp [z])) e) (fun b o _ _ hc e _=>⟨o.slots,k b o (fun z=>hc (by simp [z])) e⟩) (fun _ _ _ _ n=>n)
  (fun b o hc e=>⟨o,k b o (fun z=>hc (by simp [z])) e⟩) (fun _ _ e=>e) (fun _ _ _ e=>e) (fun b ps e=>⟨#[],by rw [e];simp⟩) (fun m hm=>?_) (fun b u e=>?_) I.bare
 .have e:b=it:=by simpa using hb
  subst e
  exact ⟨h1,hL,h2,h3⟩
 .obtain ⟨o,es,ep,ho,r⟩:=hm
  exact ⟨o,es,ep,k _ o (Ne.symm hL) ho,r⟩
 .refine (I.hok b u e).stay (fun c v hc q=>k c v ?_ q) (fun _ q=>q) fun _ _ q=>q
  rcases hc with z|z
  .rw [z];exact nit b u e
  .exact nit c _ z
theorem Inv.tok (I:Inv X pins σ H s) (t:Nat):Inv X pins σ H { s with toks:=t }:=I.un (h':=s.heap) (t':=t) Un.refl I.hok
theorem Inv.kept {t':Nat}(I:Inv X pins σ H s) (k:∀ b u,s.heap.get? b=some u->h'.get? b=some u):Inv X pins σ H { s with heap:=h',toks:=t' }:=I.un (Un.kept k) (I.hok.kept k)
theorem Inv.laid {a:Addr}{o:HO}{t':Nat}(I:Inv X pins σ H s) (k:∀ b u,s.heap.get? b=some u->h'.get? b=some u) (hp:s.heap.objs.size<=a) (new:ObjOk X.prog X.w (upd H a o) h' a o) :
  Inv X pins σ (upd H a o) { s with heap:=h',toks:=t' }:=I.un (Un.laid k hp (I.hok.fresh hp)) (I.hok.laid k hp new)
theorem Inv.write {x e:Addr}{o:HO}{t':Nat}(I:Inv X pins σ H s) (mu:Mut (H x)) (he:e=x\/H e=some (.own x)) (k:∀ b u,b≠e->s.heap.get? b=some u->h'.get? b=some u) (heo:∃ u,h'.get? e=some u)
  (new:ObjOk X.prog X.w (upd H x o) h' x o):Inv X pins σ (upd H x o) { s with heap:=h',toks:=t' }:=I.un (Un.write mu he k heo) (I.hok.write mu he k heo new)
theorem Inv.pins_of {pins':List (Addr×Obj)}(I:Inv X pins σ H s) (h:∀ p∈pins',s.heap.get? p.1=some p.2/\H p.1=none/\p.1≠X.env.locals/\p.1∉X.fs/\∀ v,p.2.data≠.cell v):Inv X pins' σ H s :=
 ⟨I.ok,I.os,I.bare,I.base,I.loc,I.cell,I.free,I.freeC,fun p hp=>(List.mem_append.mp hp).elim (fun z=>I.pin p (mem_append_left _ z)) (h p),I.hok,I.len⟩
theorem yzC {N:List Str}(hN:N.Nodup) {i j:Nat}{x:Str}(a:N[i]?=some x) (b:N[j]?=some x):i=j:=by
 obtain ⟨h1,e1⟩:=List.getElem?_eq_some_iff.mp a
 obtain ⟨h2,e2⟩:=List.getElem?_eq_some_iff.mp b
 exact (List.getElem_inj hN).mp (e1.trans e2.symm)
theorem yCd {M:Model}{A:Around}{E:Value->Shared->Prop}{i:Nat}{x:Str}{v:V}{u:Value}{Q:Unit->Shared->Prop}(I:Inv X pins σ H s) (hN:X.N.Nodup) (hi:X.N[i]?=some x) (hx:Loc X.env.scope x) (r:RelV v u)
  (h:∀ s',Inv X pins (σ.set i (some v)) H s'->(∃ a,Heap.SameBut a s.heap s'.heap/\(a=X.env.locals\/X.env.cells.lookup x=some a))->Q () s') (hf:X.fn x=true\/X.env.scope.names.lookup x=some .local:=by first|exact .inl rfl|exact .inr rfl|assumption):wpAny M A (storeName X.env x u) Q E s:=by
 obtain ⟨m,hn,hl⟩:=id I.loc
 have hcls:(X.env.scope.kind == .class || (X.env.scope.kind == .module && X.env.locals != X.env.globals))=false:=by rw [I.ok.kind];rfl
 have hiσ:i<σ.length:=by rw [I.len];exact (List.getElem?_eq_some_iff.mp hi).1
 have cne:=I.cne
 have tracked:∀ {a:Addr}{h':Heap},(∃ o,s.heap.get? a=some o/\H a=none)->Heap.SameBut a s.heap h'->HOk X.prog X.w H h':=fun {a h'} ha hs b ob e=>by
  obtain ⟨_,_,hfree⟩:=ha
  refine (I.hok b ob e).stay (fun c w' hc q=>(hs.2 c ?_).trans q) (fun _ q=>q) fun _ _ q=>q
  rintro rfl
  rcases hc with rfl|hc
  .rw [hfree] at e;cases e
  .rw [hfree] at hc;cases hc
 rcases hx with hk|hk
 .refine wpAny_storeName_local hk hn (fun h' hn' hs=>?_) hcls
  obtain ⟨oL,_,_,hoL,_⟩:=id hn
  refine h _ ⟨I.ok,I.os,I.bare,⟨fun b o e n hb hx=>?_,fun b o e n hb hx=>?_,I.base.free,fun b o e hx=>?_,I.base.tups,I.base.frzs,I.base.tbls⟩,⟨_,hn',fun j y v' e1 e2 e3=>?_⟩,fun y c e=>?_,I.free,I.freeC,fun p hp=>?_,tracked ⟨oL,hoL,I.free⟩ hs,by simpa using I.len⟩ ⟨_,hs,.inl rfl⟩
  .exact (hs.2 b (ne_of_lt (lt_of_lt_of_le (Heap.lt_size e) I.ok.above))).trans (I.base.keep b o e n hb hx)
  .obtain ⟨sl,e1⟩:=I.base.slot b o e n hb hx
   exact ⟨sl,(hs.2 b (ne_of_lt (lt_of_lt_of_le (Heap.lt_size e) I.ok.above))).trans e1⟩
  .obtain ⟨o',e1⟩:=I.base.there b o e hx
   exact ⟨o',(hs.2 b (ne_of_lt (lt_of_lt_of_le (Heap.lt_size e) I.ok.above))).trans e1⟩
  .by_cases hj:j=i
   .subst hj
    rw [hi] at e1;cases e1
    rw [getElem?_set_self hiσ] at e2
    cases e2
    exact ⟨u,r,.inl ⟨hk,by simp⟩⟩
   .rw [getElem?_set_ne (Ne.symm hj)] at e2
    obtain ⟨u',r',q⟩:=hl j y v' e1 e2 e3
    refine ⟨u',r',?_⟩
    rcases q with ⟨k,e⟩|⟨k,c,e,z⟩
    .refine .inl ⟨k,?_⟩
     have:y≠x:=fun e=>hj (yzC hN e1 (e ▸ hi))
     simp [this,e]
    .exact .inr ⟨k,c,e,z.sameBut hs (cne y c e)⟩
  .obtain ⟨w',z⟩:=I.cell y c e
   exact ⟨w',z.sameBut hs (cne y c e)⟩
  .obtain ⟨e,n,ne,nf,d⟩:=I.pin p hp
   exact ⟨(hs.2 p.1 ne).trans e,n,ne,nf,d⟩
 .have hfn:X.fn x=true:=by
   rcases hf with z|z
   .exact z
   .rw [z] at hk;cases hk
  obtain ⟨c,hc⟩:=I.ok.has x (.inl hk)
  obtain ⟨w',z⟩:=I.cell x c hc
  refine wpAny_storeName_cell I.ok.kind hk hc z (fun h' hc' hs=>?_)
  obtain ⟨oc,hoc,hocd⟩:=id z
  refine h { s with heap:=h' } ⟨I.ok,I.os,I.bare,⟨fun b o e n hb hx=>?_,fun b o e n hb hx=>?_,I.base.free,fun b o e hx=>?_,I.base.tups,I.base.frzs,I.base.tbls⟩,⟨m,hn.sameBut hs (Ne.symm (cne x c hc)),fun j y v' e1 e2 e3=>?_⟩,fun y c' e=>?_,I.free,I.freeC,fun p hp=>?_,tracked ⟨oc,hoc,I.freeC x c hc⟩ hs,by simpa using I.len⟩ ⟨c,hs,.inr hc⟩
  .exact (hs.2 b (ne_of_lt (lt_of_lt_of_le (Heap.lt_size e) (I.ok.cab x c hfn hc)))).trans (I.base.keep b o e n hb hx)
  .obtain ⟨sl,e1⟩:=I.base.slot b o e n hb hx
   exact ⟨sl,(hs.2 b (ne_of_lt (lt_of_lt_of_le (Heap.lt_size e) (I.ok.cab x c hfn hc)))).trans e1⟩
  .obtain ⟨o',e1⟩:=I.base.there b o e hx
   exact ⟨o',(hs.2 b (ne_of_lt (lt_of_lt_of_le (Heap.lt_size e) (I.ok.cab x c hfn hc)))).trans e1⟩
  .by_cases hj:j=i
   .subst hj
    rw [hi] at e1;cases e1
    rw [getElem?_set_self hiσ] at e2
    cases e2
    exact ⟨u,r,.inr ⟨.inl hk,c,hc,hc'⟩⟩
   .rw [getElem?_set_ne (Ne.symm hj)] at e2
    obtain ⟨u',r',q⟩:=hl j y v' e1 e2 e3
    refine ⟨u',r',?_⟩
    rcases q with q|⟨k,c',e,z'⟩
    .exact .inl q
    .refine .inr ⟨k,c',e,z'.sameBut hs ?_⟩
     rintro rfl
     exact hj (yzC hN e1 (I.ok.inj _ _ _ e hc ▸ hi))
  .by_cases hcc:c'=c
   .subst hcc;exact ⟨_,hc'⟩
   .obtain ⟨w2,z2⟩:=I.cell y c' e
    exact ⟨w2,z2.sameBut hs hcc⟩
  .obtain ⟨e,n,ne,nf,d⟩:=I.pin p hp
   refine ⟨(hs.2 p.1 ?_).trans e,n,ne,nf,d⟩
   intro q
   rw [q,hoc] at e
   have q':oc=p.2:=Option.some.inj e
   exact d w' (by rw [<- q'];exact hocd)
theorem yzD {M:Model}{A:Around}{E:Value->Shared->Prop}{i:Nat}{x:Str}{v:V}{u:Value}{Q:Unit->Shared->Prop}(I:Inv X pins σ H s) (hN:X.N.Nodup) (hi:X.N[i]?=some x) (hx:Loc X.env.scope x) (r:RelV v u)
  (h:∀ s',Inv X pins (σ.set i (some v)) H s'->Q () s') (hf:X.fn x=true\/X.env.scope.names.lookup x=some .local:=by first|exact .inl rfl|exact .inr rfl|assumption):wpAny M A (storeName X.env x u) Q E s :=
 yCd I hN hi hx r (fun s' I' _=>h s' I') hf
theorem Inv.call' {s':Shared}{ch:List Addr}(I:Inv X pins σ H s) (ho:s'.os=s.os) (u:Un (frs X.stack) ch H H' s.heap s'.heap) (hok:HOk X.prog X.w H' s'.heap) (hg:AllBare s'.gens)
  (hch:∀ b∈ch,(b∈X.ex\/X.s₀.heap.objs.size<=b)/\b≠X.env.locals/\(∀ x c,X.env.cells.lookup x=some c->c≠b)/\∀ p∈X.pn++pins,p.1≠b):Inv X pins σ H' s':=by
 obtain ⟨h',g',d',t',o'⟩:=s'
 have e:o'=s.os:=ho
 subst e
 exact I.call (g':=g') (t':=t') (d':=d') u hok hg hch
end
abbrev XK:=Value->Option Addr->Hp->Prop
abbrev St:=List (Option V)
abbrev VK:=V->Hp->Prop
abbrev TE:=St->Hp->VK->Prop
abbrev TT:=St->Hp->(Bool->Hp->Prop)->Prop
abbrev TA:=St->Hp->(List V->Hp->Prop)->Prop
structure Ends where
 nx:St->Hp->Prop
 rt:VK
 bk:St->Hp->Prop:=fun _ _=>False
 ct:St->Hp->Prop:=fun _ _=>False
abbrev TS:=Ends->St->Hp->Prop
def EP (X:Cx) (pins:List (Addr×Obj)) (σ:St) (Q:VK) (u:Value) (s':Shared):Prop:=∃ v H',Inv X pins σ H' s'/\RelV v u/\Q v H'
noncomputable def TP (X:Cx) (pins:List (Addr×Obj)) (σ:St) (Q:Bool->Hp->Prop) (b:Bool) (s':Shared):Prop:=∃ H',Inv X pins σ H' s'/\Q b H'
def AP (X:Cx) (pins:List (Addr×Obj)) (σ:St) (Q:List V->Hp->Prop) (us:List Value) (s':Shared):Prop:=∃ vs H',Inv X pins σ H' s'/\Vals vs us/\Q vs H'
def SP (X:Cx) (pins:List (Addr×Obj)) (D:Ends) (f:Flow) (s':Shared):Prop :=
 match f with
 | .next=>∃ σ' H',Inv X pins σ' H' s'/\D.nx σ' H'
 | .brk=>∃ σ' H',Inv X pins σ' H' s'/\D.bk σ' H'
 | .cont=>∃ σ' H',Inv X pins σ' H' s'/\D.ct σ' H'
 | .ret u=>∃ v σ' H',Inv X pins σ' H' s'/\RelV v u/\D.rt v H'
def PE (X:Cx) (e:Expr) (t:TE):Prop :=
 ∀ (pins:List (Addr×Obj)) (s:Shared) (σ:St) (H:Hp) (Q:VK),Inv X pins σ H s->t σ H Q->wpAny (model X.prog X.w) X.A (eval e X.env) (EP X pins σ Q) X.xe s
def PT (X:Cx) (e:Expr) (t:TT):Prop :=
 ∀ (pins:List (Addr×Obj)) (s:Shared) (σ:St) (H:Hp) (Q:Bool->Hp->Prop),Inv X pins σ H s->t σ H Q->wpAny (model X.prog X.w) X.A (isTrue e X.env (eval e X.env)) (TP X pins σ Q) X.xe s
def PW (X:Cx) (e:Expr) (t:TT):Prop :=
 ∀ (whole:Sem Value) (pins:List (Addr×Obj)) (s:Shared) (σ:St) (H:Hp) (Q:Bool->Hp->Prop),Inv X pins σ H s->t σ H Q->wpAny (model X.prog X.w) X.A (isTrue e X.env whole) (TP X pins σ Q) X.xe s
theorem PW.pt {X:Cx}{e:Expr}{t:TT}(h:PW X e t):PT X e t:=h _
def PA (X:Cx) (es:List Expr) (t:TA):Prop :=
 ∀ (pos:Pos) (pins:List (Addr×Obj)) (s:Shared) (σ:St) (H:Hp) (Q:List V->Hp->Prop),Inv X pins σ H s->t σ H Q->wpAny (model X.prog X.w) X.A (spliced (backTo pos (starEach es X.env))) (AP X pins σ Q) X.xe s
def PS (X:Cx) (st:Stmt) (t:TS):Prop :=
 ∀ (pins:List (Addr×Obj)) (s:Shared) (σ:St) (H:Hp) (D:Ends),Inv X pins σ H s->t D σ H->wpAny (model X.prog X.w) X.A (exec st X.env) (SP X pins D) X.xe s
def PSs (X:Cx) (st:List Stmt) (t:TS):Prop :=
 ∀ (pins:List (Addr×Obj)) (s:Shared) (σ:St) (H:Hp) (D:Ends),Inv X pins σ H s->t D σ H->wpAny (model X.prog X.w) X.A (execs st X.env) (SP X pins D) X.xe s
theorem thn {α:Type}{t:Sem α}{Q Q':α->Shared->Prop}{M:Model}{A:Around}{E:Value->Shared->Prop}{s:Shared}(h:wpAny M A t Q E s) (hQ:∀ a s,Q a s->Q' a s):wpAny M A t Q' E s:=wpAny_mono h hQ fun _ _ x=>x
end L2
namespace L2
open PySem PySem.Spec PyProof.Rows
section
variable {X:Cx}
def yBW (i:Nat):TE:=fun σ H Q=>∃ v,σ[i]?=some (some v)/\Q v H
def tC (v:V):TE:=fun _ H Q=>Q v H
theorem ybu {i:Nat}{x:Str}{pos:Pos}(hN:X.N[i]?=some x) (hv:Vis X.env.scope x) (hd:(x == ("__debug__":Str))=false:=by decide) (hcd:(x == ("__classdict__":Str))=false:=by decide):PE X (.Name x pos) (yBW i):=by
 intro pins s σ H Q I h
 obtain ⟨v,e,h⟩:=h
 obtain ⟨m,hn,hl⟩:=I.loc
 obtain ⟨u,r,l⟩:=hl i x v hN e hv
 have fin:EP X pins σ Q u s:=⟨v,H,I,r,h⟩
 rcases l with ⟨hk,hm⟩|⟨hk,c,hc,hcell⟩
 .exact wpAny_Name (wpAny_loadName_local I.ok.kind hk hn hm fin) hd
 .rcases hk with hk|hk
  .exact wpAny_Name (wpAny_loadName_cell I.ok.kind hk hc hcell fin) hd
  .exact wpAny_Name (wpAny_loadName_free I.ok.kind hk hc hcell fin hcd) hd
theorem yLT {i j pos}:PE X (.Constant (.int i) j pos) (tC (.int i)):=fun _ _ _ H _ I h=>wpAny_Constant_int ⟨.int i,H,I.tok _,⟨_,rfl⟩,h⟩
theorem yOE {b j pos}:PE X (.Constant (.bool b) j pos) (tC (.bl b)):=fun _ _ _ H _ I h=>Constant_bool ⟨.bl b,H,I,rfl,h⟩
theorem yLU {j pos}:PE X (.Constant .none j pos) (tC .non):=fun _ _ _ H _ I h=>Constant_none ⟨.non,H,I,rfl,h⟩
theorem yLV {x j pos}:PE X (.Constant (.str x) j pos) (tC (.str x)):=fun _ _ _ H _ I h=>Calls.Constant_str ⟨.str x,H,I.tok _,⟨_,rfl⟩,h⟩
def Gl (X:Cx) (x:Str):Prop:=X.env.kindOf x=some .globalImplicit
theorem yqz {E:Value->Shared->Prop}{pins:List (Addr×Obj)}{s:Shared}{σ:St}{H:Hp}{x:Str}{u:Value}{pos:Pos}{Q:Value->Shared->Prop}(I:Inv X pins σ H s) (hg:Gl X x) (hm:X.mg x=some u) (h:Q u s)
  (hd:(x == ("__debug__":Str))=false:=by decide):wpAny (model X.prog X.w) X.A (eval (.Name x pos) X.env) Q E s :=
 Calls.Name_function_global I.ok.kind hg (Calls.loadGlobal_global (by rw [I.ok.glob];exact I.mod.glob.keeps I.bk) hm h) hd
theorem yzE {E:Value->Shared->Prop}{pins:List (Addr×Obj)}{s:Shared}{σ:St}{H:Hp}{x:Str}{u:Value}{pos:Pos}{Q:Value->Shared->Prop}(I:Inv X pins σ H s) (hg:Gl X x) (hm:X.mg x=none) (hv:bootBuiltins x=some u) (h:Q u s)
  (hn:x≠"__name__":=by decide) (hd:(x == ("__debug__":Str))=false:=by decide):wpAny (model X.prog X.w) X.A (eval (.Name x pos) X.env) Q E s:=by
 obtain ⟨mb,h1,h2⟩:=I.mod.blt
 exact Calls.Name_function_global I.ok.kind hg (Calls.loadGlobal_builtin (by rw [I.ok.glob];exact I.mod.glob.keeps I.bk) hm (by rw [I.ok.blt];exact h1.keeps I.bk) ((h2 x hn).trans hv) h) hd
theorem yxY {x:Str}{v:V}{u:Value}{pos:Pos}(hg:Gl X x) (hm:X.mg x=some u) (r:RelV v u) (hd:(x == ("__debug__":Str))=false:=by decide):PE X (.Name x pos) (tC v) :=
 fun _ _ _ H _ I h=>yqz I hg hm ⟨v,H,I,r,h⟩ hd
theorem yJg {x:Str}{v:V}{u:Value}{pos:Pos}(hg:Gl X x) (hm:X.mg x=none) (hv:bootBuiltins x=some u) (r:RelV v u) (hn:x≠"__name__":=by decide) (hd:(x == ("__debug__":Str))=false:=by decide):PE X (.Name x pos) (tC v) :=
 fun _ _ _ H _ I h=>yzE I hg hm hv ⟨v,H,I,r,h⟩ hn hd
variable {a b:Expr}{ta tb:TE}{pos:Pos}
def tB (t:TE):TT:=fun σ H Q=>t σ H fun x H1=>∃ c,x=.bl c/\Q c H1
theorem yLW {e:Expr}{t:TE}(h:PE X e t) (he:∀ whole,isTrue e X.env whole=(do let v <- whole;standAt e.pos;holding [v] (truthy v)):=by intro _;rfl):PT X e (tB t):=by
 intro pins s σ H Q I hw
 refine isTrue_plain (thn (h pins s σ H _ I hw) fun v s1 ⟨x,H1,I1,r1,q1⟩=>?_) (he _)
 obtain ⟨d,rfl,q⟩:=q1
 cases r1
 exact wpAny_truthy_bool ⟨H1,I1,q⟩
variable {tA tB':TT}{rest:List Expr}
def yRd (t u:TT):TT:=fun σ H Q=>t σ H fun c H1=>if c=true then u σ H1 Q else Q false H1
def tOr (t u:TT):TT:=fun σ H Q=>t σ H fun c H1=>if c=true then Q true H1 else u σ H1 Q
def yOF (t:TT):TT:=fun σ H Q=>t σ H fun c H1=>Q (!c) H1
theorem yJh (ha:PT X a tA):PW X (.BoolOp .And [a] pos) tA:=by
 intro wh pins s σ H Q I h
 refine isTrue_and (thn (ha pins s σ H Q I h) fun c s1 e=>?_)
 cases c with
 | true=>exact isTrue_and_nil e
 | false=>exact e
theorem yLX (ha:PT X a tA):PW X (.BoolOp .Or [a] pos) tA:=by
 intro wh pins s σ H Q I h
 refine isTrue_or (thn (ha pins s σ H Q I h) fun c s1 e=>?_)
 cases c with
 | false=>exact isTrue_or_nil e
 | true=>exact e
theorem yLY (ha:PT X a tA) (hb:PW X (.BoolOp .And (b::rest) pos) tB'):PW X (.BoolOp .And (a::b::rest) pos) (yRd tA tB'):=by
 intro wh pins s σ H Q I h
 refine isTrue_and (thn (ha pins s σ H _ I h) fun c s1 ⟨H1,I1,q1⟩=>?_)
 cases c with
 | true=>exact hb wh pins s1 σ H1 Q I1 q1
 | false=>exact ⟨H1,I1,q1⟩
theorem yOG (ha:PT X a tA) (hb:PW X (.BoolOp .Or (b::rest) pos) tB'):PW X (.BoolOp .Or (a::b::rest) pos) (tOr tA tB'):=by
 intro wh pins s σ H Q I h
 refine isTrue_or (thn (ha pins s σ H _ I h) fun c s1 ⟨H1,I1,q1⟩=>?_)
 cases c with
 | true=>exact ⟨H1,I1,q1⟩
 | false=>exact hb wh pins s1 σ H1 Q I1 q1
theorem yLZ (ha:PT X a tA):PT X (.UnaryOp .Not a pos) (yOF tA):=by
 intro pins s σ H Q I h
 exact isTrue_not (ha pins s σ H (fun c H1=>Q (!c) H1) I h)
def yMa (ta tb:TE):TE:=fun σ H Q=>ta σ H fun x H1=>∃ c,x=.bl c/\if c=true then tb σ H1 Q else Q (.bl false) H1
def yMb (ta:TE):TE:=fun σ H Q=>ta σ H fun x H1=>∃ c,x=.bl c/\Q (.bl (!c)) H1
theorem yMc {op} {t:TE}(h:PE X a t):PE X (.BoolOp op [a] pos) t:=fun pins s σ H Q I hw=>BoolOp_one (h pins s σ H Q I hw)
theorem yMd (ha:PE X a ta) (hb:PE X (.BoolOp .And (b::rest) pos) tb):PE X (.BoolOp .And (a::b::rest) pos) (yMa ta tb):=by
 intro pins s σ H Q I h
 refine BoolOp_and (thn (ha pins s σ H _ I h) fun v s1 ⟨x,H1,I1,r1,q1⟩=>?_)
 obtain ⟨c,rfl,q1⟩:=q1
 cases r1
 refine wpAny_truthy_bool ?_
 cases c with
 | true=>exact hb pins s1 σ H1 Q I1 q1
 | false=>exact ⟨.bl false,H1,I1,rfl,q1⟩
theorem yMe (ha:PE X a ta):PE X (.UnaryOp .Not a pos) (yMb ta):=by
 intro pins s σ H Q I h
 refine UnaryOp_ (thn (ha pins s σ H _ I h) fun v s1 ⟨x,H1,I1,r1,q1⟩=>?_)
 obtain ⟨c,rfl,q1⟩:=q1
 cases r1
 exact not_of (wpAny_truthy_bool ⟨.bl (!c),H1,I1,rfl,q1⟩)
def tIf (t:TT) (ta tb:TE):TE:=fun σ H Q=>t σ H fun c H1=>if c=true then ta σ H1 Q else tb σ H1 Q
theorem yFn {c:Expr}(hc:PT X c tA) (ha:PE X a ta) (hb:PE X b tb):PE X (.IfExp c a b pos) (tIf tA ta tb):=by
 intro pins s σ H Q I h
 refine wpAny_IfExp (thn (hc pins s σ H _ I h) fun d s1 ⟨H1,I1,q1⟩=>?_)
 cases d with
 | true=>exact ha pins s1 σ H1 Q I1 q1
 | false=>exact hb pins s1 σ H1 Q I1 q1
end
end L2
namespace L2
open PySem PySem.Spec PyProof.Rows
def SqL (K:PySem.W.Frag) (H:Hp) (a:Addr) (xs:List V):Prop :=
 Rd H a (.lst xs) \/
  ∃ (o:Obj) (its:Array Value) (n:Nat),K.lookup a=some o/\o.cls=.type "list"/\o.dict=none/\o.data=.seq its n/\its.size<=sizeLine/\Vals xs its.toList
def SqT (K:PySem.W.Frag) (H:Hp) (a:Addr) (xs:List V):Prop :=
 Rd H a (.tup xs) \/
  ∃ (o:Obj) (its:Array Value) (n:Nat),K.lookup a=some o/\o.cls=.type "tuple"/\o.data=.seq its n/\its.size<=sizeLine/\Vals xs its.toList
noncomputable def yRP:Value->Option V
 | .none=>some .non
 | .bool b=>some (.bl b)
 | .int i _=>some (.int i)
 | .str x _=>some (.str x)
 | .bytes b _=>some (.byt b)
 | .float b _=>some (.flt b)
 | .ref a=>some (.ref a)
 | .type n=>some (.ty n)
 | _=>none
theorem RelV.abs {x:V}{u:Value}(r:RelV x u):yRP u=some x:=by
 cases x with
 | non=>cases r;rfl
 | bl _=>cases r;rfl
 | int _=>obtain ⟨t,rfl⟩:=r;rfl
 | str _=>obtain ⟨t,rfl⟩:=r;rfl
 | byt _=>obtain ⟨t,rfl⟩:=r;rfl
 | flt _=>obtain ⟨t,rfl⟩:=r;rfl
 | ref _=>cases r;rfl
 | ty _=>cases r;rfl
theorem RelV.inj {x y:V}{u:Value}(r:RelV x u) (q:RelV y u):x=y:=Option.some.inj (r.abs.symm.trans q.abs)
theorem Vals.inj:∀ {xs ys:List V}{us:List Value},Vals xs us->Vals ys us->xs=ys
 | _,_,_,.nil,.nil=>rfl
 | _,_,_,.cons r t,.cons r' t'=>by rw [r.inj r',Vals.inj t t']
section
variable {X:Cx}{pins:List (Addr×Obj)}{σ:St}{H:Hp}{s:Shared}{a:Addr}{xs ys:List V}
theorem SqL.of {K:PySem.W.Frag}(h:H a=some (.lst xs)):SqL K H a xs:=.inl (.inl h)
theorem SqT.of {K:PySem.W.Frag}(h:H a=some (.tup xs)):SqT K H a xs:=.inl (.inl h)
theorem Inv.list (I:Inv X pins σ H s) (h:SqL X.K H a xs):∃ its:List Value,Vals xs its/\PlainL s.heap a its.toArray/\xs.length<=sizeLine:=by
 rcases h with h|⟨o,its,n,hk,hc,hd,hs,hz,r⟩
 .obtain ⟨z,its,n,r,e⟩:=h.ok I.hok
  exact ⟨its,r,⟨_,n,e,rfl,rfl,rfl⟩,z⟩
 .refine ⟨its.toList,r,⟨o,n,I.kIn a o hk,hc,hd,by simpa using hs⟩,?_⟩
  have e:=r.length
  simp only [Array.length_toList] at e
  omega
theorem Inv.tuple (I:Inv X pins σ H s) (h:SqT X.K H a xs):∃ its:List Value,Vals xs its/\IsTup s.heap a its.toArray/\xs.length<=sizeLine:=by
 rcases h with h|⟨o,its,n,hk,hc,hs,hz,r⟩
 .obtain ⟨z,its,r,p⟩:=h.ok I.hok
  exact ⟨its,r,p,z⟩
 .refine ⟨its.toList,r,⟨o,I.kIn a o hk,hc,n,by simpa using hs⟩,?_⟩
  have e:=r.length
  simp only [Array.length_toList] at e
  omega
theorem Inv.list_inj (I:Inv X pins σ H s) (h:SqL X.K H a xs) (h':SqL X.K H a ys):xs=ys:=by
 obtain ⟨its,r,⟨o,n,e,_,_,d⟩,_⟩:=I.list h
 obtain ⟨its',r',⟨o',n',e',_,_,d'⟩,_⟩:=I.list h'
 rw [e] at e';cases e'
 rw [d] at d'
 injection d' with d1 _
 have:its=its':=by simpa using congrArg Array.toList d1
 subst this
 exact r.inj r'
end
abbrev Cx.wish (X:Cx) (E:Value->Shared->Prop):Cx:={ X with xe:=E }
abbrev Cx.nox (X:Cx):Cx:=X.wish fun _ _=>False
theorem Cx.Ok.wish {X:Cx}(ok:X.Ok) (E:Value->Shared->Prop):(X.wish E).Ok :=
 ⟨ok.mod,ok.kind,ok.glob,ok.blt,ok.above,ok.inj,ok.has,ok.cab,ok.hd,ok.frames,ok.stk,ok.exf,ok.bs,ok.bsz,ok.noex,ok.exfs,ok.funs,ok.frf⟩
theorem Cx.Ok.unwish {X:Cx}{E:Value->Shared->Prop}(ok:(X.wish E).Ok):X.Ok :=
 ⟨ok.mod,ok.kind,ok.glob,ok.blt,ok.above,ok.inj,ok.has,ok.cab,ok.hd,ok.frames,ok.stk,ok.exf,ok.bs,ok.bsz,ok.noex,ok.exfs,ok.funs,ok.frf⟩
section
variable {X:Cx}{pins:List (Addr×Obj)}{σ:St}{H:Hp}{s:Shared}{E:Value->Shared->Prop}
theorem Inv.wish (I:Inv X pins σ H s) (E:Value->Shared->Prop):Inv (X.wish E) pins σ H s:=⟨I.ok.wish E,I.os,I.bare,I.base,I.loc,I.cell,I.free,I.freeC,I.pin,I.hok,I.len⟩
theorem Inv.unwish (I:Inv (X.wish E) pins σ H s):Inv X pins σ H s:=⟨I.ok.unwish,I.os,I.bare,I.base,I.loc,I.cell,I.free,I.freeC,I.pin,I.hok,I.len⟩
theorem SP.unwish {D:Ends}{f:Flow}{s':Shared}(h:SP (X.wish E) pins D f s'):SP X pins D f s':=by
 cases f with
 | next=>obtain ⟨σ',H',I,q⟩:=h;exact ⟨σ',H',I.unwish,q⟩
 | brk=>obtain ⟨σ',H',I,q⟩:=h;exact ⟨σ',H',I.unwish,q⟩
 | cont=>obtain ⟨σ',H',I,q⟩:=h;exact ⟨σ',H',I.unwish,q⟩
 | ret u=>obtain ⟨v,σ',H',I,r,q⟩:=h;exact ⟨v,σ',H',I.unwish,r,q⟩
theorem PSs.nox {st:List Stmt}{t:TS}(h:PSs X.nox st t):PSs X st t:=fun pins s σ H D I hw =>
 wpAny_mono (h pins s σ H D (I.wish _) hw) (fun _ _ q=>q.unwish) fun _ _ z=>False.elim z
end
section
variable {X:Cx}{st:Stmt}{rest:List Stmt}{t u:TS}{e:Expr}{te:TE}{pos:Pos}
def yMf:TS:=fun D σ H=>D.nx σ H
def yOH (t u:TS):TS:=fun D σ H=>t { D with nx:=u D } σ H
theorem yJi:PSs X [] yMf:=fun _ _ σ H _ I h=>wpAny_execs_nil ⟨σ,H,I,h⟩
theorem yzF (h1:PS X st t) (h2:PSs X rest u):PSs X (st::rest) (yOH t u):=by
 intro pins s σ H D I h
 refine wpAny_execs_cons (thn (h1 pins s σ H { D with nx:=u D } I h) fun f s1 q=>?_)
 cases f with
 | next =>
  obtain ⟨σ',H',I',q⟩:=q
  exact h2 pins s1 σ' H' D I' q
 | ret v=>exact q
 | brk=>exact q
 | cont=>exact q
theorem yCe (h1:PS X st t):PSs X [st] t:=by
 intro pins s σ H D I h
 refine wpAny_execs_cons (thn (h1 pins s σ H D I h) fun f s1 q=>?_)
 cases f with
 | next=>exact wpAny_execs_nil q
 | ret v=>exact q
 | brk=>exact q
 | cont=>exact q
theorem Inv.quiet {pins:List (Addr×Obj)}{σ:St}{H:Hp}{s:Shared}(I:Inv X pins σ H s):interactive X.env=false:=by simp [interactive,I.ok.kind]
def yCf (te:TE):TS:=fun D σ H=>te σ H fun _ H1=>D.nx σ H1
theorem yuk (he:PE X e te) (hs:swapsWith e none pos.line X.env=pure false:=by rfl):PS X (.Expr e pos) (yCf te):=by
 intro pins s σ H D I h
 exact wpAny_Expr_any (thn (he pins s σ H _ I h) fun v s1 ⟨x,H1,I1,r1,q1⟩=>⟨σ,H1,I1,q1⟩) I.quiet hs
def yRe (te:TE):TS:=fun D σ H=>te σ H D.rt
theorem yMg (he:PE X e te):PS X (.Return (some e) pos) (yRe te):=by
 intro pins s σ H D I h
 exact wpAny_Return_some (thn (he pins s σ H _ I h) fun v s1 ⟨x,H1,I1,r1,q1⟩=>⟨x,σ,H1,I1,r1,q1⟩)
def yRf (c:TT) (t u:TS):TS:=fun D σ H=>c σ H fun b H1=>if b=true then t D σ H1 else u D σ H1
theorem yOI {c:Expr}{a b:List Stmt}{tc:TT}(hc:PT X c tc) (ha:PSs X a t) (hb:PSs X b u):PS X (.If c a b pos) (yRf tc t u):=by
 intro pins s σ H D I h
 refine wpAny_If (thn (hc pins s σ H _ I h) fun d s1 ⟨H1,I1,q1⟩=>?_)
 cases d with
 | true=>exact ha pins s1 σ H1 D I1 q1
 | false=>exact hb pins s1 σ H1 D I1 q1
def yHX:TS:=fun _ _ _=>False
theorem yFo:PS X st yHX:=fun _ _ _ _ _ _ h=>h.elim
end
abbrev TG:=V->St->Hp->(St->Hp->Prop)->Prop
abbrev TGs:=List V->St->Hp->(St->Hp->Prop)->Prop
def PG (X:Cx) (target:Expr) (t:TG):Prop :=
 ∀ (pins:List (Addr×Obj)) (s:Shared) (σ:St) (H:Hp) (v:V) (u:Value) (Q:St->Hp->Prop),Inv X pins σ H s->RelV v u->t v σ H Q ->
  wpAny (model X.prog X.w) X.A (assign target X.env u) (fun _ s'=>∃ σ' H',Inv X pins σ' H' s'/\Q σ' H') X.xe s
def PGs (X:Cx) (ts:List Expr) (t:TGs):Prop :=
 ∀ (pins:List (Addr×Obj)) (s:Shared) (σ:St) (H:Hp) (vs:List V) (us:List Value) (Q:St->Hp->Prop),Inv X pins σ H s->Vals vs us->t vs σ H Q ->
  wpAny (model X.prog X.w) X.A (assignInOrder ((assignEach ts X.env).map (·.2)) us) (fun _ s'=>∃ σ' H',Inv X pins σ' H' s'/\Q σ' H') X.xe s
abbrev yOJ:=V->V->V->Hp->(Hp->Prop)->Prop
def yRg (X:Cx) (t:yOJ):Prop :=
 ∀ (pins:List (Addr×Obj)) (s:Shared) (σ:St) (H:Hp) (o i v:V) (ov iv u:Value) (Q:Hp->Prop),Inv X pins σ H s->RelV o ov->RelV i iv->RelV v u->t o i v H Q ->
  wpAny (model X.prog X.w) X.A (setItem ov iv u) (fun _ s'=>∃ H',Inv X pins σ H' s'/\Q H') X.xe s
section
variable {X:Cx}{pos:Pos}
def yAS (i:Nat):TG:=fun v σ H Q=>Q (σ.set i (some v)) H
theorem yul {i:Nat}{x:Str}(hN:X.N.Nodup) (hi:X.N[i]?=some x) (hx:Loc X.env.scope x) (hf:X.fn x=true\/X.env.scope.names.lookup x=some .local:=by first|exact .inl rfl|exact .inr rfl|assumption):PG X (.Name x pos) (yAS i):=by
 intro pins s σ H v u Q I r h
 exact wpAny_assign_Name (yzD I hN hi hx r (fun s' I'=>⟨_,H,I',h⟩) hf)
def yRh:TGs:=fun vs σ H Q=>vs=[]/\Q σ H
def yMh (t:TG) (u:TGs):TGs:=fun vs σ H Q=>∃ v r,vs=v::r/\t v σ H fun σ' H'=>u r σ' H' Q
theorem yJj:PGs X [] yRh:=by
 intro pins s σ H vs us Q I r h
 obtain ⟨e,h⟩:=h
 subst e
 cases r
 exact assignInOrder_nil ⟨σ,H,I,h⟩
theorem yFp {e:Expr}{es:List Expr}{t:TG}{u:TGs}(h1:PG X e t) (h2:PGs X es u)
  (hs:(assignEach (e::es) X.env).map (·.2)=assign e X.env::(assignEach es X.env).map (·.2):=by rfl):PGs X (e::es) (yMh t u):=by
 intro pins s σ H vs us Q I r h
 obtain ⟨v,vr,e1,h⟩:=h
 subst e1
 cases r with
 | cons r rr =>
  rw [hs]
  refine assignInOrder_cons (thn (h1 pins s σ H _ _ _ I r h) fun _ s1 ⟨σ1,H1,I1,q1⟩=>?_)
  exact h2 pins s1 σ1 H1 _ _ Q I1 rr q1
def yRi (K:PySem.W.Frag) (n:Nat) (t:TGs):TG:=fun v σ H Q=>∃ a xs,v=.ref a/\SqT K H a xs/\xs.length=n/\t xs σ H Q
theorem yMi {es:List Expr}{k:Nat}{t:TGs}{n:Nat}(hc:X.calm=true) (h:PGs X es t)
  (hn:(assignEach es X.env).length=n:=by rfl) (hst:(assignEach es X.env).findIdx? (·.1)=none:=by rfl):PG X (.Tuple es k pos) (yRi X.K n t):=by
 intro pins s σ H v u Q I r hw
 obtain ⟨a,xs,e1,hq,hl,hw⟩:=hw
 subst e1
 cases r
 obtain ⟨its,rv,ht,hz⟩:=I.tuple hq
 refine assign_Tuple_tuple (I.ok.hd hc) ht (by simp [hn,<- hl,rv.length]) hst fun h' hx=>?_
 have I1:Inv X pins σ H { s with heap:=h' }:=I.kept (t':=s.toks) fun b o e=>hx b o (ne_of_lt (Heap.lt_size e)) e
 exact h pins _ σ H xs _ Q I1 (by simpa using rv) hw
def yRj (to ti:TE) (t:yOJ):TG:=fun v σ H Q=>to σ H fun o H1=>ti σ H1 fun i H2=>t o i v H2 fun H3=>Q σ H3
theorem yMj {o i:Expr}{to ti:TE}{t:yOJ}(ho:PE X o to) (hi:PE X i ti) (hs:yRg X t)
  (ha:∀ v,assign (.Subscript o i pos) X.env v=(do
   let ov <- holding [v] (eval o X.env)
   let iv <- holding [v,ov] (eval i X.env)
   standAt pos
   holding [v,ov,iv] (setItem ov iv v)
   release [v,ov,iv] []):=by intro _;rfl):PG X (.Subscript o i pos) (yRj to ti t):=by
 intro pins s σ H v u Q I r h
 rw [ha]
 refine wpAny_bind (wpAny_holding (thn (ho pins s σ H _ I h) fun ov s1 ⟨x,H1,I1,r1,q1⟩=>?_))
 refine wpAny_bind (wpAny_holding (thn (hi pins s1 σ H1 _ I1 q1) fun iv s2 ⟨y,H2,I2,r2,q2⟩=>?_))
 refine wpAny_bind (wpAny_standAt (wpAny_bind (wpAny_holding (thn (hs pins s2 σ H2 x y v ov iv u _ I2 r1 r2 r q2) fun _ s3 ⟨H3,I3,q3⟩=>?_))))
 exact wpAny_release ⟨σ,H3,I3,q3⟩
def yLC (te:TE) (g:TG):TS:=fun D σ H=>te σ H fun x H1=>g x σ H1 D.nx
theorem yMk {tg e:Expr}{te:TE}{g:TG}(he:PE X e te) (hg:PG X tg g) (hs:swapsWithSole [tg] e pos.line X.env=pure false:=by rfl) (hw:swappedStores [tg] e X.env=pure none:=by rfl)
  (h1:(assignEach [tg] X.env).map (·.2)=[assign tg X.env]:=by rfl):PS X (.Assign [tg] e pos) (yLC te g):=by
 intro pins s σ H D I h
 refine wpAny_Assign_stores (thn (he pins s σ H _ I h) fun v s1 ⟨x,H1,I1,r1,q1⟩=>?_) hs hw
 rw [h1]
 exact thn (hg pins s1 σ H1 x v _ I1 r1 q1) fun _ s2 q=>q
theorem yHY {i:Nat}{x:Str}{e:Expr}{te:TE}{pos':Pos}(hN:X.N.Nodup) (hi:X.N[i]?=some x) (hx:Loc X.env.scope x) (he:PE X e te) (hs:swapsWith e (some (.Name x pos')) pos.line X.env=pure false:=by rfl) (hf:X.fn x=true\/X.env.scope.names.lookup x=some .local:=by first|exact .inl rfl|exact .inr rfl|assumption) :
  PS X (.Assign [.Name x pos'] e pos) (yLC te (yAS i)):=by
 intro pins s σ H D I h
 refine wpAny_Assign_Name (thn (he pins s σ H _ I h) fun v s1 ⟨y,H1,I1,r1,q1⟩=>?_) hs
 exact yzD I1 hN hi hx r1 (fun s2 I2=>⟨_,H1,I2,q1⟩) hf
end
section
variable {X:Cx}{pos:Pos}
noncomputable def yHZ (c:TT) (tb:TS):TS:=fun D σ H=>∃ W:Nat->St->Hp->Prop,(∃ m,W m σ H)/\∀ m σ H,W m σ H ->
 c σ H fun b H1=>if b=true then ∃ N:St->Hp->Prop,(∀ σ' H',N σ' H'->∃ m',m'<m/\W m' σ' H')/\tb { D with nx:=N,ct:=N,bk:=D.nx } σ H1 else D.nx σ H1
theorem yFq {c:Expr}{body:List Stmt}{tc:TT}{tb:TS}(hp:PassesOwn (model X.prog X.w) X.A X.env X.xe) (hc:PT X c tc) (hb:PSs X body tb):PS X (.While c body [] pos) (yHZ tc tb):=by
 intro pins s σ H D I h
 obtain ⟨W,⟨m0,w0⟩,turn⟩:=h
 refine wpAny_While (codeAny_whileLoop (fun n s'=>∃ σ' H',Inv X pins σ' H' s'/\W n σ' H') ?_ m0 ⟨σ,H,I,w0⟩)
 rintro n s1 ⟨σ1,H1,I1,w1⟩
 refine wpAny_passesOwn hp (thn (hc pins s1 σ1 H1 _ I1 (turn n σ1 H1 w1)) fun b s2 ⟨H2,I2,q2⟩=>?_)
 cases b with
 | true =>
  obtain ⟨N,hN,q2⟩:=q2
  rw [if_pos rfl]
  refine wpAny_passesOwn hp (thn (hb pins s2 σ1 H2 _ I2 q2) fun f s3 q3=>?_)
  cases f with
  | next =>
   obtain ⟨σ3,H3,I3,n3⟩:=q3
   obtain ⟨m',hm,w3⟩:=hN σ3 H3 n3
   exact ⟨m',hm,σ3,H3,I3,w3⟩
  | cont =>
   obtain ⟨σ3,H3,I3,n3⟩:=q3
   obtain ⟨m',hm,w3⟩:=hN σ3 H3 n3
   exact ⟨m',hm,σ3,H3,I3,w3⟩
  | brk=>exact q3
  | ret v=>exact q3
 | false =>
  rw [if_neg Bool.false_ne_true]
  exact wpAny_execs_nil ⟨σ1,H2,I2,q2⟩
end
structure It where
 go:Nat->Hp->Prop
 yld:Nat->Hp->V->Hp->Prop
 stop:Nat->Hp->Prop
noncomputable def yCg (X:Cx) (pins:List (Addr×Obj)) (H:Hp) (b:Addr):Prop :=
 H b=none/\b≠X.env.locals/\b∉X.fs/\(b∈X.ex\/X.s₀.heap.objs.size<=b)/\(∀ x c,X.env.cells.lookup x=some c->c≠b)/\∀ p∈X.pn++pins,p.1≠b
theorem Inv.fpOk {X:Cx}{pins:List (Addr×Obj)}{σ:St}{H H':Hp}{s:Shared}{b:Addr}(I:Inv X pins σ H s) (hb:s.heap.objs.size<=b) (hn:H' b=none):yCg X pins H' b:=by
 refine ⟨hn,Nat.ne_of_gt (lt_of_lt_of_le I.lt hb),I.nofs hb,.inr (Nat.le_trans I.sz hb),fun x c e z=>?_,fun p hp z=>?_⟩
 .obtain ⟨v,q⟩:=I.cell x c e
  exact absurd (lt_of_lt_of_le q.lt (by rw [z];exact hb)) (lt_irrefl _)
 .exact absurd (lt_of_lt_of_le (Heap.lt_size (I.pin p hp).1) (by rw [z];exact hb)) (lt_irrefl _)
structure Turn (P:Program) (w:World) (K:PySem.W.Frag) (tg:Expr) (J:It) (fp:List Addr) (it:Addr) (tn:Nat->Heap->Prop):Prop where
 mem:it∈fp
 obj:∀ i h,tn i h->∀ b∈fp,∃ o,h.get? b=some o/\∀ v,o.data≠.cell v
 keep:∀ i h h',tn i h->(∀ b∈fp,∀ o,h.get? b=some o->h'.get? b=some o)->tn i h'
 item:∀ (X:Cx),X.prog=P->X.w=w->X.K=K->X.calm=true->∀ (i:Nat) (pins:List (Addr×Obj)) (s:Shared) (σ:St) (H:Hp) (E:Value->Shared->Prop),Inv X pins σ H s->(∀ b∈fp,yCg X pins H b)->tn i s.heap->J.go i H ->
  wpAny (model P w) X.A (pyNext (.ref it)) (fun r s1=>∃ u,r=some u /\
   wpAny (model P w) X.A (letOwnedTupleGo tg (.ref it) u) (fun _ s2=>∃ x H',Inv X pins σ H' s2/\RelV x u/\J.yld i H x H'/\tn (i+1) s2.heap/\∀ b∈fp,H' b=none) E s1) E s
 done:∀ (X:Cx),X.prog=P->X.w=w->X.K=K->X.calm=true->∀ (i:Nat) (pins:List (Addr×Obj)) (s:Shared) (σ:St) (H:Hp) (E:Value->Shared->Prop),Inv X pins σ H s->(∀ b∈fp,yCg X pins H b)->tn i s.heap->J.stop i H ->
  wpAny (model P w) X.A (pyNext (.ref it)) (fun r s1=>r=none/\Inv X pins σ H s1) E s
 self:∀ (A:Around) (i:Nat) (s:Shared) (Q:Value->Shared->Prop) (E:Value->Shared->Prop),tn i s.heap->Q (.ref it) s->wpAny (model P w) A (pyIter (.ref it)) Q E s
abbrev TI:=St->Hp->(It->Hp->Prop)->Prop
def PIE (X:Cx) (pins:List (Addr×Obj)) (σ:St) (tg:Expr) (R:It->Hp->Prop) (itv:Value) (s2:Shared):Prop :=
 ∃ (it:Addr) (fp:List Addr) (tn:Nat->Heap->Prop) (J:It) (H':Hp),itv=.ref it/\Inv X pins σ H' s2/\Turn X.prog X.w X.K tg J fp it tn/\tn 0 s2.heap/\(∀ b∈fp,yCg X pins H' b)/\R J H'
def PI (X:Cx) (tg iter:Expr) (wi:TI):Prop :=
 ∀ (pins:List (Addr×Obj)) (s:Shared) (σ:St) (H:Hp) (R:It->Hp->Prop),Inv X pins σ H s->wi σ H R ->
  wpAny (model X.prog X.w) X.A (eval iter X.env) (fun v s1=>wpAny (model X.prog X.w) X.A (pyIter v) (PIE X pins σ tg R) X.xe s1) X.xe s
theorem yFr {M:Model}{A:Around}{E:Value->Shared->Prop}{s:Shared}{tg:Expr}{it:Addr}{u:Value}{o:Obj}{n:String}{vs:Array Value}{Q:Unit->Shared->Prop}(ho:s.heap.get? it=some o) (hc:o.cls=.type n) (hd:o.data=.fields vs)
    (hn:["enumerate","zip","dict_itemiterator","dict_reverseitemiterator","odict_iterator","itertools.zip_longest","itertools.pairwise"].contains n=false) (hQ:Q () s):wpAny M A (letOwnedTupleGo tg (.ref it) u) Q E s:=by
  unfold letOwnedTupleGo
  cases tg<;>first
    | exact wpAny_pure hQ
    | (cases u<;>first
        | exact wpAny_pure hQ
        | (refine wpAny_bind (wpAny_load ho ?_)
           rw [hc,hd]
           show wpAny M A (if (["enumerate","zip","dict_itemiterator","dict_reverseitemiterator","odict_iterator","itertools.zip_longest","itertools.pairwise"].contains n && vs[0]? == some (rawInt _))=true then _ else _) Q E s
           rw [if_neg (by intro h;rw [hn,Bool.false_and] at h;cases h)]
           exact wpAny_pure hQ))
def Itl (K:PySem.W.Frag) (a:Addr):It :=
 ⟨fun i H=>∃ xs x,SqL K H a xs/\xs[i]?=some x,fun i H x H'=>H'=H/\∀ xs,SqL K H a xs->xs[i]?=some x,fun i H=>∃ xs,SqL K H a xs/\xs.length<=i⟩
def Itr (lo:Int) (n:Nat):It:=⟨fun i _=>i<n,fun i H x H'=>H'=H/\x=.int (lo+i),fun i _=>n<=i⟩
theorem yCh {P:Program}{w:World}{K:PySem.W.Frag}{tg:Expr}(a it:Addr):Turn P w K tg (Itl K a) [it] it (fun i h=>h.IsListIter it a i) where
 mem:=by simp
 obj:=fun i h st b hb=>by
  have e:b=it:=by simpa using hb
  subst e
  obtain ⟨o,e,c,d⟩:=st
  exact ⟨o,e,fun v z=>by rw [d] at z;cases z⟩
 keep:=fun i h h' st k=>st.at fun o e=>k it (by simp) o e
 item:=by
  intro X hP hw hK hc i pins s σ H E I hf st hg
  subst hP hw hK
  obtain ⟨xs,x,hq,hx⟩:=hg
  obtain ⟨its,rv,p,hz⟩:=I.list hq
  obtain ⟨u,hu,ru⟩:=rv.get hx
  obtain ⟨f0,f1,f2,f3,f4,f5⟩:=hf it (by simp)
  refine wpAny_pyNext_list_item st p.isList (x:=u) (by simpa using hu) fun h' st' sb=>?_
  have I1:Inv X pins σ H { s with heap:=h' }:=I.turned (t':=s.toks) (fun b o hb e=>(sb.2 b hb).trans e) f0 f1 f3 f4 f5
  obtain ⟨o,e,c,d⟩:=id st'
  exact ⟨u,rfl,yFr (s:={ s with heap:=h' }) e c d (by decide) ⟨x,H,I1,ru,⟨rfl,fun ys hy=>by rw [I.list_inj hy hq];exact hx⟩,st',fun b hb=>(hf b hb).1⟩⟩
 done:=by
  intro X hP hw hK hc i pins s σ H E I hf st hg
  subst hP hw hK
  obtain ⟨xs,hq,hx⟩:=hg
  obtain ⟨its,rv,p,hz⟩:=I.list hq
  obtain ⟨f0,f1,f2,f3,f4,f5⟩:=hf it (by simp)
  have hl:=rv.length
  exact wpAny_pyNext_list_end (I.ok.hd hc) st p.isList (by simp;omega) fun h' eb=>⟨rfl,I.turned (t':=s.toks) (fun b o hb e=>eb b o hb e) f0 f1 f3 f4 f5⟩
 self:=fun _ _ _ _ _ st h=>wpAny_pyIter_listiter st h
theorem yAT {P:Program}{w:World}{K:PySem.W.Frag}{tg:Expr}(it:Addr) (lo:Int) (n:Nat):Turn P w K tg (Itr lo n) [it] it (fun i h=>IsRangeIter h it (lo+(i:Nat)*1) ((n:Int)-(i:Nat)) 1) where
 mem:=by simp
 obj:=fun i h st b hb=>by
  have e:b=it:=by simpa using hb
  subst e
  exact ⟨_,st,fun v z=>by
   have z':Data.fields _=Data.cell v:=z
   cases z'⟩
 keep:=fun i h h' st k=>k it (by simp) _ st
 item:=by
  intro X hP hw hK hc i pins s σ H E I hf st hg
  subst hP hw hK
  obtain ⟨f0,f1,f2,f3,f4,f5⟩:=hf it (by simp)
  have W:=Walks.range (prog:=X.prog) (w:=X.w) (I.ok.hd hc) it lo 1 n
  refine W.item i s _ _ hg st fun v h' tk hv st' kk=>?_
  obtain ⟨t,rfl⟩:=hv
  have I1:Inv X pins σ H { s with heap:=h',toks:=tk }:=I.turned (fun b o hb e=>kk b o (by simpa using hb) e) f0 f1 f3 f4 f5
  refine ⟨_,rfl,yFr (s:={ s with heap:=h',toks:=tk }) (n:="range_iterator") st' rfl rfl (by decide) ⟨.int (lo+i),H,I1,⟨t,?_⟩,⟨rfl,rfl⟩,st',fun b hb=>(hf b hb).1⟩⟩
  rw [Int.mul_one]
 done:=by
  intro X hP hw hK hc i pins s σ H E I hf st hg
  subst hP hw hK
  obtain ⟨f0,f1,f2,f3,f4,f5⟩:=hf it (by simp)
  exact wpAny_pyNext_range_end (I.ok.hd hc) st (by have:n<=i:=hg;omega) fun h' eb=>⟨rfl,I.turned (t':=s.toks) (fun b o hb e=>eb b o hb e) f0 f1 f3 f4 f5⟩
 self:=fun _ _ _ _ _ st h=>wpAny_pyIter_rangeiter st h
end L2
namespace L2
open PySem PySem.Spec PyProof.Rows
section
variable {X:Cx}{tg:Expr}
def yFs (K:PySem.W.Frag) (tl:TE):TI:=fun σ H R=>tl σ H fun x H1=>∃ a,x=.ref a/\(∃ xs,SqL K H1 a xs)/\R (Itl K a) H1
theorem yxZ {l:Expr}{tl:TE}(hl:PE X l tl):PI X tg l (yFs X.K tl):=by
 intro pins s σ H R I h
 refine thn (hl pins s σ H _ I h) fun v s1 ⟨x,H1,I1,r1,q1⟩=>?_
 obtain ⟨a,e,⟨xs,hq⟩,q⟩:=q1
 subst e
 cases r1
 obtain ⟨its,rv,p,hz⟩:=I1.list hq
 refine wpAny_pyIter_list p.isList ?_
 refine ⟨s1.heap.objs.size,[s1.heap.objs.size],_,_,H1,rfl,I1.kept (t':=s1.toks) fun b o e=>Heap.get?_push_of_some _ e,yCh a _,⟨_,Heap.get?_push_size _ rfl,rfl,rfl⟩,fun b hb=>?_,q⟩
 have e:b=s1.heap.objs.size:=by simpa using hb
 subst e
 exact I1.fpOk (Nat.le_refl _) (I1.hok.fresh (Nat.le_refl _))
theorem yFt {pins:List (Addr×Obj)}{σ:St}{H:Hp}{s:Shared}{R:It->Hp->Prop}{E:Value->Shared->Prop}{lo hi:Int}{t u v:Tok}{tk:Nat}(I:Inv X pins σ H s) (h1:-(2 ^ 62)<=lo) (h2:lo<2 ^ 62) (h3:-(2 ^ 62)<=hi) (h4:hi<2 ^ 62)
  (q:R (Itr lo (hi-lo).toNat) H):wpAny (model X.prog X.w) X.A (pyIter (.ref s.heap.objs.size)) (PIE X pins σ tg R) E { s with heap:=s.heap.push { cls:=.type "range",data:=.fields #[.int lo t,.int hi u,.int 1 v] },toks:=tk }:=by
 refine wpAny_pyIter_range (IsRange.new ..) (small_one h1 h2 h3 h4) ?_
 have I1:Inv X pins σ H { s with heap:=s.heap.push { cls:=.type "range",data:=.fields #[.int lo t,.int hi u,.int 1 v] },toks:=tk }:=I.kept fun b o e=>Heap.get?_push_of_some _ e
 refine ⟨(s.heap.push { cls:=.type "range",data:=.fields #[.int lo t,.int hi u,.int 1 v] }).objs.size,[(s.heap.push { cls:=.type "range",data:=.fields #[.int lo t,.int hi u,.int 1 v] }).objs.size],_,_,H,rfl,
  I1.kept (t':=tk) fun b o e=>Heap.get?_push_of_some _ e,yAT _ lo (hi-lo).toNat,?_,fun b hb=>?_,q⟩
 .have e1:lo+((0:Nat):Int)*1=lo:=by simp
  have e2:(((hi-lo).toNat:Nat):Int)-((0:Nat):Int)=Builtin.Range.rangeSize lo hi 1:=by rw [rangeSize_one];split<;>omega
  show IsRangeIter _ _ (lo+((0:Nat):Int)*1) ((((hi-lo).toNat:Nat):Int)-((0:Nat):Int)) 1
  rw [e1,e2]
  exact Heap.get?_push_size _ rfl
 .have e:b=(s.heap.push { cls:=.type "range",data:=.fields #[.int lo t,.int hi u,.int 1 v] }).objs.size:=by simpa using hb
  subst e
  exact I1.fpOk (Nat.le_refl _) (I1.hok.fresh (Nat.le_refl _))
def yMl (ta:TA):TI:=fun σ H R=>ta σ H fun vs H1=>∃ j:Int,vs=[.int j]/\-(2 ^ 62)<=j/\j<2 ^ 62/\R (Itr 0 j.toNat) H1
theorem yCi {a:Expr}{ta:TA}{p pos:Pos}(hg:Gl X "range") (hm:X.mg "range" = none) (ha:PA X [a] ta) (hs:starEach [a] X.env=[(false,eval a X.env)]:=by rfl):PI X tg (.Call (.Name "range" p) [a] [] pos) (yMl ta):=by
 intro pins s σ H R I h
 refine Call_ (yzE I hg hm boot_range (PyProof.Rows.callWith_type1 (thn (ha pos pins s σ H _ I h) fun us s1 ⟨vs,H1,I1,r1,q1⟩=>?_) hs rfl))
 obtain ⟨j,e,q1,q2,q⟩:=q1
 subst e
 cases r1 with
 | cons r rr =>
  cases rr
  obtain ⟨t,rfl⟩:=r
  exact call_range_1 (yFt I1 (by omega) (by omega) q1 q2 (by simpa using q))
noncomputable def yOK (wi:TI) (g:TG) (tb:TS):TS:=fun D σ H=>wi σ H fun J H1=>∃ W:Nat->Nat->St->Hp->Prop,(∃ m,W 0 m σ H1)/\∀ i m σ H,W i m σ H ->
 (J.stop i H/\D.nx σ H)\/(J.go i H/\∃ N:St->Hp->Prop,(∀ σ' H',N σ' H'->∃ m',m'<m/\W (i+1) m' σ' H')/\∀ x H',J.yld i H x H'->g x σ H' fun σ2 H2=>tb { D with nx:=N,ct:=N,bk:=D.nx } σ2 H2)
def yzG (fp:List Addr) (h:Heap):List (Addr×Obj):=fp.filterMap fun b=>(h.get? b).map fun o=>(b,o)
theorem yeI {fp:List Addr}{h:Heap}{b:Addr}{o:Obj}(hb:b∈fp) (e:h.get? b=some o):(b,o)∈yzG fp h:=List.mem_filterMap.mpr ⟨b,hb,by rw [e];rfl⟩
theorem yCj {fp:List Addr}{h:Heap}{p:Addr×Obj}(hp:p∈yzG fp h):p.1∈fp/\h.get? p.1=some p.2:=by
 obtain ⟨b,hb,e⟩:=List.mem_filterMap.mp hp
 cases q:h.get? b with
 | none=>rw [q] at e;cases e
 | some o =>
  rw [q] at e
  have e':(b,o)=p:=Option.some.inj e
  subst e'
  exact ⟨hb,q⟩
theorem Inv.pinned {pins:List (Addr×Obj)}{σ:St}{H:Hp}{s:Shared}{fp:List Addr}(I:Inv X pins σ H s) (hf:∀ b∈fp,yCg X pins H b) (ho:∀ b∈fp,∃ o,s.heap.get? b=some o/\∀ v,o.data≠.cell v):Inv X (pins++yzG fp s.heap) σ H s :=
 I.pins_of fun p hp=>(List.mem_append.mp hp).elim (fun z=>I.pin p (mem_append_right _ z)) fun z=>by
  obtain ⟨hb,e⟩:=yCj z
  obtain ⟨f0,f1,f2,_⟩:=hf p.1 hb
  obtain ⟨o,e',d⟩:=ho p.1 hb
  rw [e] at e';cases e'
  exact ⟨e,f0,f1,f2,d⟩
theorem Inv.unpinned {pins pl:List (Addr×Obj)}{σ:St}{H:Hp}{s:Shared}(I:Inv X (pins++pl) σ H s):Inv X pins σ H s:=I.pins_of fun p hp=>I.pin p (mem_append_right _ (mem_append_left _ hp))
theorem yIa {iter:Expr}{body:List Stmt}{wi:TI}{g:TG}{tb:TS}{pos:Pos}(hp:PassesOwn (model X.prog X.w) X.A X.env X.xe) (hc:X.calm=true) (hi:PI X tg iter wi) (hg:PG X tg g) (hb:PSs X body tb)
  (hs:∀ x,foldedSetIterable iter X.env x=pure x:=by intro _;rfl):PS X (.For tg iter body [] pos) (yOK wi g tb):=by
 intro pins s σ H D I h
 refine wpAny_For (thn (hi pins s σ H _ I h) fun v s1 h1=>thn h1 fun itv s2 h2=>?_) hs
 obtain ⟨it,fp,tn,J,H2,e,I2,T,st2,f2,W,⟨m0,w0⟩,turn⟩:=h2
 subst e
 have stat:∀ {H':Hp},(∀ b∈fp,H' b=none)->∀ b∈fp,yCg X pins H' b:=fun hn b hb=>⟨hn b hb,(f2 b hb).2⟩
 refine codeAny_forLoop_any (fun n s'=>∃ i σ' H',Inv X pins σ' H' s'/\tn i s'.heap/\(∀ b∈fp,H' b=none)/\W i n σ' H') ?_ m0 ⟨0,σ,H2,I2,st2,fun b hb=>(f2 b hb).1,w0⟩
 rintro n s3 ⟨i,σ3,H3,I3,st3,fr3,w3⟩
 rcases turn i n σ3 H3 w3 with ⟨stop,qn⟩|⟨go,N,hN,step⟩
 .refine wpAny_passesOwn hp (thn (T.done X rfl rfl rfl hc i pins s3 σ3 H3 X.xe I3 (stat fr3) st3 stop) fun r s4 ⟨hr,I4⟩=>?_)
  subst hr
  exact wpAny_execs_nil ⟨σ3,H3,I4,qn⟩
 .refine wpAny_passesOwn hp (thn (T.item X rfl rfl rfl hc i pins s3 σ3 H3 X.xe I3 (stat fr3) st3 go) fun r s4 ⟨u,hr,h4⟩=>?_)
  subst hr
  refine wpAny_passesOwn hp (thn h4 fun _ s5 ⟨x,H5,I5,r5,y5,st5,fr5⟩=>?_)
  have I5':=I5.pinned (stat fr5) (T.obj _ _ st5)
  refine wpAny_passesOwn hp (thn (hg _ s5 σ3 H5 x u _ I5' r5 (step x H5 y5)) fun _ s6 ⟨σ6,H6,I6,q6⟩=>?_)
  refine wpAny_passesOwn hp (thn (hb _ s6 σ6 H6 _ I6 q6) fun f s7 q7=>?_)
  have again:∀ {σ7:St}{H7:Hp},Inv X (pins++yzG fp s5.heap) σ7 H7 s7->N σ7 H7->∃ m,m<n/\∃ i σ' H',Inv X pins σ' H' s7/\tn i s7.heap/\(∀ b∈fp,H' b=none)/\W i m σ' H':=fun {σ7 H7} I7 n7=>by
   obtain ⟨m',hm,w7⟩:=hN σ7 H7 n7
   refine ⟨m',hm,i+1,σ7,H7,I7.unpinned,T.keep _ _ _ st5 fun b hb o e=>(I7.pin (b,o) (mem_append_right _ (mem_append_right _ (yeI hb e)))).1,fun b hb=>?_,w7⟩
   obtain ⟨o,e,d⟩:=T.obj _ _ st5 b hb
   exact (I7.pin (b,o) (mem_append_right _ (mem_append_right _ (yeI hb e)))).2.1
  cases f with
  | next=>obtain ⟨σ7,H7,I7,n7⟩:=q7;exact again I7 n7
  | cont=>obtain ⟨σ7,H7,I7,n7⟩:=q7;exact again I7 n7
  | brk=>obtain ⟨σ7,H7,I7,q7⟩:=q7;exact ⟨σ7,H7,I7.unpinned,q7⟩
  | ret v=>obtain ⟨x7,σ7,H7,I7,r7,q7⟩:=q7;exact ⟨x7,σ7,H7,I7.unpinned,r7,q7⟩
end
end L2
namespace L2
open PySem PySem.Spec PyProof.Rows
abbrev R2:=V->V->Hp->VK->Prop
def OpR (X:Cx) (f:Value->Value->Sem Value) (r:R2):Prop :=
 ∀ (pins:List (Addr×Obj)) (s:Shared) (σ:St) (H:Hp) (x y:V) (v u:Value) (Q:VK),Inv X pins σ H s->RelV x v->RelV y u->r x y H Q ->
  wpAny (model X.prog X.w) X.A (f v u) (EP X pins σ Q) X.xe s
def UnR (X:Cx) (f:Value->Sem Value) (r:V->Hp->VK->Prop):Prop :=
 ∀ (pins:List (Addr×Obj)) (s:Shared) (σ:St) (H:Hp) (x:V) (v:Value) (Q:VK),Inv X pins σ H s->RelV x v->r x H Q ->
  wpAny (model X.prog X.w) X.A (f v) (EP X pins σ Q) X.xe s
def ylQ (X:Cx) (f:Value) (r:List V->Hp->VK->Prop):Prop :=
 ∀ (pins:List (Addr×Obj)) (s:Shared) (σ:St) (H:Hp) (xs:List V) (us:List Value) (Q:VK),Inv X pins σ H s->Vals xs us->r xs H Q ->
  wpAny (model X.prog X.w) X.A (call f us) (EP X pins σ Q) X.xe s
def tOp (r:R2) (ta tb:TE):TE:=fun σ H Q=>ta σ H fun x H1=>tb σ H1 fun y H2=>r x y H2 Q
def tUn (r:V->Hp->VK->Prop) (ta:TE):TE:=fun σ H Q=>ta σ H fun x H1=>r x H1 Q
def rI (C:Int->Int->Prop) (g:Int->Int->V):R2:=fun x y H Q=>∃ i j,x=.int i/\y=.int j/\C i j/\Q (g i j) H
def rI0 (g:Int->Int->V):R2:=fun x y H Q=>∃ i j,x=.int i/\y=.int j/\Q (g i j) H
def rU (g:Int->V):V->Hp->VK->Prop:=fun x H Q=>∃ i,x=.int i/\Q (g i) H
section
variable {X:Cx}{a b c:Expr}{ta tb tc:TE}{pos:Pos}
theorem yOL (ha:PE X a ta) (hb:PE X b tb) {pins:List (Addr×Obj)}{s:Shared}{σ:St}{H:Hp}{R:V->V->Hp->Prop}(I:Inv X pins σ H s)
  (h:ta σ H fun x H1=>tb σ H1 fun y H2=>R x y H2) {Q:Value->Shared->Prop}{f:Value->Value->Sem Value}
  (hf:∀ v u s2 x y H2,Inv X pins σ H2 s2->RelV x v->RelV y u->R x y H2->wpAny (model X.prog X.w) X.A (f v u) Q X.xe s2) :
  wpAny (model X.prog X.w) X.A (eval a X.env) (fun v s₁=>wpAny (model X.prog X.w) X.A (eval b X.env) (fun u s₂=>wpAny (model X.prog X.w) X.A (f v u) Q X.xe s₂) X.xe s₁) X.xe s:=by
 refine thn (ha pins s σ H _ I h) fun v s1 ⟨x,H1,I1,r1,q1⟩=>?_
 refine thn (hb pins s1 σ H1 _ I1 q1) fun u s2 ⟨y,H2,I2,r2,q2⟩=>?_
 exact hf v u s2 x y H2 I2 r1 r2 q2
theorem yMm {op:Operator}{r:R2}(ho:OpR X (binaryOp op) r) (ha:PE X a ta) (hb:PE X b tb):PE X (.BinOp a op b pos) (tOp r ta tb):=by
 intro pins s σ H Q I h
 exact wpAny_BinOp (yOL ha hb I h fun v u s2 x y H2 I2 rx ry q=>ho pins s2 σ H2 x y v u Q I2 rx ry q)
theorem yOM {op:UnaryOp}{r:V->Hp->VK->Prop}(ho:UnR X (unaryOp op) r) (ha:PE X a ta):PE X (.UnaryOp op a pos) (tUn r ta):=by
 intro pins s σ H Q I h
 exact UnaryOp_ (thn (ha pins s σ H _ I h) fun v s1 ⟨x,H1,I1,r1,q1⟩=>ho pins s1 σ H1 x v Q I1 r1 q1)
theorem opI {f:Value->Value->Sem Value}{C:Int->Int->Prop}{g:Int->Int->Int}
  (rule:∀ (i j:Int) (t u:Tok) (s:Shared) (Q:Value->Shared->Prop) (E:Value->Shared->Prop),C i j->Q (.int (g i j) s.toks) { s with toks:=s.toks+1 }->wpAny (model X.prog X.w) X.A (f (.int i t) (.int j u)) Q E s) :
  OpR X f (rI C fun i j=>.int (g i j)):=by
 intro pins s σ H x y v u Q I rx ry h
 obtain ⟨i,j,rfl,rfl,hc,q⟩:=h
 obtain ⟨t,rfl⟩:=rx
 obtain ⟨t',rfl⟩:=ry
 exact rule i j t t' s _ _ hc ⟨.int (g i j),H,I.tok _,⟨_,rfl⟩,q⟩
theorem yRk {f:Value->Value->Sem Value}{g:Int->Int->Int}
  (rule:∀ (i j:Int) (t u:Tok) (s:Shared) (Q:Value->Shared->Prop) (E:Value->Shared->Prop),Q (.int (g i j) s.toks) { s with toks:=s.toks+1 }->wpAny (model X.prog X.w) X.A (f (.int i t) (.int j u)) Q E s) :
  OpR X f (rI0 fun i j=>.int (g i j)):=by
 intro pins s σ H x y v u Q I rx ry h
 obtain ⟨i,j,rfl,rfl,q⟩:=h
 obtain ⟨t,rfl⟩:=rx
 obtain ⟨t',rfl⟩:=ry
 exact rule i j t t' s _ _ ⟨.int (g i j),H,I.tok _,⟨_,rfl⟩,q⟩
theorem yOz {f:Value->Value->Sem Value}{g:Int->Int->Bool}
  (rule:∀ (i j:Int) (t u:Tok) (s:Shared) (Q:Value->Shared->Prop) (E:Value->Shared->Prop),Q (.bool (g i j)) s->wpAny (model X.prog X.w) X.A (f (.int i t) (.int j u)) Q E s) :
  OpR X f (rI0 fun i j=>.bl (g i j)):=by
 intro pins s σ H x y v u Q I rx ry h
 obtain ⟨i,j,rfl,rfl,q⟩:=h
 obtain ⟨t,rfl⟩:=rx
 obtain ⟨t',rfl⟩:=ry
 exact rule i j t t' s _ _ ⟨.bl (g i j),H,I,rfl,q⟩
def yRl (i j:Int):Prop:=0<j/\j<1073741824
def yON (i j:Int):Prop:=0<=j/\j<=1000000/\i.natAbs<2 ^ 64
def CMul (i j:Int):Prop:=(-(2 ^ 64)<i/\i<2 ^ 64)\/(-(2 ^ 64)<j/\j<2 ^ 64)
theorem CMul.ok {i j:Int}(h:CMul i j):IntMulOk i j:=by
 rcases h with ⟨h1,h2⟩|⟨h1,h2⟩
 .exact .of_left (intBits_le_64 h1 h2)
 .exact .of_right (intBits_le_64 h1 h2)
theorem ycR:OpR X (binaryOp .Add) (rI0 fun i j=>.int (i+j)):=yRk fun _ _ _ _ _ _ _ q=>add_int q
theorem ytv:OpR X (binaryOp .Sub) (rI0 fun i j=>.int (i-j)):=yRk fun _ _ _ _ _ _ _ q=>sub_int q
theorem yIb:OpR X (binaryOp .Mult) (rI CMul fun i j=>.int (i*j)):=opI fun _ _ _ _ _ _ _ hc q=>mul_int q hc.ok
theorem yCk:OpR X (binaryOp .FloorDiv) (rI yRl fun i j=>.int (i/j)):=opI fun i j _ _ _ _ _ hc q=>by
 have h1:(0:Int)<j:=hc.1
 have h2:j<1073741824:=hc.2
 exact floordiv_int (by omega) (by rw [Int.fdiv_eq_ediv_of_nonneg i (by omega)];exact q) (.inl (PyProof.noPylong_small (by omega)))
theorem ynl:OpR X (binaryOp .Mod) (rI (fun _ j=>0<j) fun i j=>.int (i%j)):=opI fun i j _ _ _ _ _ hc q=>by
 have h1:(0:Int)<j:=hc
 exact mod_int' (by omega) (by rw [Int.fmod_eq_emod_of_nonneg i (by omega)];exact q)
theorem yIc:OpR X (binaryOp .Pow) (rI yON fun i j=>.int (i ^ j.toNat)):=opI fun _ _ _ _ _ _ _ hc q=>pow_int_small hc.1 hc.2.1 hc.2.2 q
theorem unI {f:Value->Sem Value}{g:Int->Int}
  (rule:∀ (i:Int) (t:Tok) (s:Shared) (Q:Value->Shared->Prop) (E:Value->Shared->Prop),Q (.int (g i) s.toks) { s with toks:=s.toks+1 }->wpAny (model X.prog X.w) X.A (f (.int i t)) Q E s) :
  UnR X f (rU fun i=>.int (g i)):=by
 intro pins s σ H x v Q I rx h
 obtain ⟨i,rfl,q⟩:=h
 obtain ⟨t,rfl⟩:=rx
 exact rule i t s _ _ ⟨.int (g i),H,I.tok _,⟨_,rfl⟩,q⟩
theorem yCl:UnR X (unaryOp .USub) (rU fun i=>.int (-i)):=unI fun _ _ _ _ _ q=>neg_int q
end
noncomputable def yId:V->V->Bool
 | .non,.non=>true|.non,.int _=>true|.int _,.non=>true|.non,.bl _=>true|.bl _,.non=>true|.non,.str _=>true|.str _,.non=>true
 | .int _,.int _=>true|.bl _,.bl _=>true|.str _,.str _=>true|.byt _,.byt _=>true
 | .int _,.str _=>true|.str _,.int _=>true|.bl _,.str _=>true|.str _,.bl _=>true
 | _,_=>false
def rEq:R2:=fun x y H Q=>yId x y=true/\Q (.bl (decide (x=y))) H
def rNe:R2:=fun x y H Q=>yId x y=true/\Q (.bl (!decide (x=y))) H
theorem yCm {i j:Int}:decide (V.int i=V.int j)=(i == j):=by
 rw [Bool.eq_iff_iff]
 simp
theorem yIe {i j:Bool}:decide (V.bl i=V.bl j)=(i == j):=by
 rw [Bool.eq_iff_iff]
 simp
theorem yCn {i j:Str}:decide (V.str i=V.str j)=(i == j):=by
 rw [Bool.eq_iff_iff]
 simp
theorem yCo {i j:Array UInt8}:decide (V.byt i=V.byt j)=(i.toList == j.toList):=by
 rw [Bool.eq_iff_iff]
 cases i
 cases j
 simp
section
variable {X:Cx}{a b c:Expr}{ta tb tc:TE}{pos:Pos}
theorem ybG {pins:List (Addr×Obj)}{σ:St}{H:Hp}{s:Shared}{Q:VK}{k k':Bool}(I:Inv X pins σ H s) (q:Q (.bl k) H) (e:k=k'):EP X pins σ Q (.bool k') s:=by
 subst e
 exact ⟨.bl k,H,I,rfl,q⟩
theorem ybN:OpR X (compareOp .Eq) rEq:=by
 intro pins s σ H x y v u Q I rx ry h
 obtain ⟨hs,q⟩:=h
 cases x with
 | non =>
  cases rx
  cases y with
  | non=>cases ry;exact PySem.EqNone.eq_none_none (ybG I q (by simp))
  | bl j=>cases ry;exact PySem.EqNone.eq_none_bool (ybG I q (by simp))
  | int j=>obtain ⟨t',rfl⟩:=ry;exact PySem.EqNone.eq_none_int (ybG I q (by simp))
  | str j=>obtain ⟨t',rfl⟩:=ry;exact PySem.EqNone.eq_none_str (ybG I q (by simp))
  | _=>exact absurd (show false=true from hs) Bool.false_ne_true
 | bl i =>
  cases rx
  cases y with
  | non=>cases ry;exact PySem.EqNone.eq_bool_none (ybG I q (by simp))
  | bl j=>cases ry;exact eq_bool (ybG I q yIe)
  | str j=>obtain ⟨t',rfl⟩:=ry;exact PySem.EqMixed.eq_bool_str (ybG I q (by simp))
  | _=>exact absurd (show false=true from hs) Bool.false_ne_true
 | int i =>
  obtain ⟨t,rfl⟩:=rx
  cases y with
  | non=>cases ry;exact PySem.EqNone.eq_int_none (ybG I q (by simp))
  | int j=>obtain ⟨t',rfl⟩:=ry;exact eq_int (ybG I q yCm)
  | str j=>obtain ⟨t',rfl⟩:=ry;exact PySem.EqMixed.eq_int_str (ybG I q (by simp))
  | _=>exact absurd (show false=true from hs) Bool.false_ne_true
 | str i =>
  obtain ⟨t,rfl⟩:=rx
  cases y with
  | non=>cases ry;exact PySem.EqNone.eq_str_none (ybG I q (by simp))
  | bl j=>cases ry;exact PySem.EqMixed.eq_str_bool (ybG I q (by simp))
  | int j=>obtain ⟨t',rfl⟩:=ry;exact PySem.EqMixed.eq_str_int (ybG I q (by simp))
  | str j=>obtain ⟨t',rfl⟩:=ry;exact eq_str (ybG I q yCn)
  | _=>exact absurd (show false=true from hs) Bool.false_ne_true
 | byt i =>
  obtain ⟨t,rfl⟩:=rx
  cases y with
  | byt j=>obtain ⟨t',rfl⟩:=ry;exact PySem.W.eq_bytes (ybG I q yCo)
  | _=>exact absurd (show false=true from hs) Bool.false_ne_true
 | _=>cases y<;>exact absurd (show false=true from hs) Bool.false_ne_true
theorem ysV:OpR X (compareOp .NotEq) rNe:=by
 intro pins s σ H x y v u Q I rx ry h
 obtain ⟨hs,q⟩:=h
 cases x with
 | non =>
  cases rx
  cases y with
  | non=>cases ry;exact PySem.EqNone.ne_none_none (ybG I q (by simp))
  | bl j=>cases ry;exact PySem.EqNone.ne_none_bool (ybG I q (by simp))
  | int j=>obtain ⟨t',rfl⟩:=ry;exact PySem.EqNone.ne_none_int (ybG I q (by simp))
  | str j=>obtain ⟨t',rfl⟩:=ry;exact PySem.EqNone.ne_none_str (ybG I q (by simp))
  | _=>exact absurd (show false=true from hs) Bool.false_ne_true
 | bl i =>
  cases rx
  cases y with
  | non=>cases ry;exact PySem.EqNone.ne_bool_none (ybG I q (by simp))
  | bl j=>cases ry;exact ne_bool (ybG I q (congrArg not yIe))
  | str j=>obtain ⟨t',rfl⟩:=ry;exact PySem.EqMixed.ne_bool_str (ybG I q (by simp))
  | _=>exact absurd (show false=true from hs) Bool.false_ne_true
 | int i =>
  obtain ⟨t,rfl⟩:=rx
  cases y with
  | non=>cases ry;exact PySem.EqNone.ne_int_none (ybG I q (by simp))
  | int j=>obtain ⟨t',rfl⟩:=ry;exact ne_int (ybG I q (congrArg not yCm))
  | str j=>obtain ⟨t',rfl⟩:=ry;exact PySem.EqMixed.ne_int_str (ybG I q (by simp))
  | _=>exact absurd (show false=true from hs) Bool.false_ne_true
 | str i =>
  obtain ⟨t,rfl⟩:=rx
  cases y with
  | non=>cases ry;exact PySem.EqNone.ne_str_none (ybG I q (by simp))
  | bl j=>cases ry;exact PySem.EqMixed.ne_str_bool (ybG I q (by simp))
  | int j=>obtain ⟨t',rfl⟩:=ry;exact PySem.EqMixed.ne_str_int (ybG I q (by simp))
  | str j=>obtain ⟨t',rfl⟩:=ry;exact ne_str (ybG I q (congrArg not yCn))
  | _=>exact absurd (show false=true from hs) Bool.false_ne_true
 | byt i =>
  obtain ⟨t,rfl⟩:=rx
  cases y with
  | byt j=>obtain ⟨t',rfl⟩:=ry;exact PySem.W.ne_bytes (ybG I q (congrArg not yCo))
  | _=>exact absurd (show false=true from hs) Bool.false_ne_true
 | _=>cases y<;>exact absurd (show false=true from hs) Bool.false_ne_true
theorem yvL:OpR X (compareOp .Lt) (rI0 fun i j=>.bl (decide (i<j))):=yOz fun _ _ _ _ _ _ _ q=>lt_int q
theorem ysW:OpR X (compareOp .LtE) (rI0 fun i j=>.bl (decide (i<=j))):=yOz fun _ _ _ _ _ _ _ q=>le_int q
theorem yFu:OpR X (compareOp .Gt) (rI0 fun i j=>.bl (decide (j<i))):=yOz fun _ _ _ _ _ _ _ q=>gt_int q
theorem yOO:OpR X (compareOp .GtE) (rI0 fun i j=>.bl (decide (j<=i))):=yOz fun _ _ _ _ _ _ _ q=>ge_int q
theorem yCp:OpR X (compareOp .In) (fun x y H Q=>∃ i j,x=.str i/\y=.str j/\Q (.bl (!(Builtin.Str.occurrences j i 0 j.length 1).isEmpty)) H):=by
 intro pins s σ H x y v u Q I rx ry h
 obtain ⟨i,j,rfl,rfl,q⟩:=h
 obtain ⟨t,rfl⟩:=rx
 obtain ⟨t',rfl⟩:=ry
 exact in_str (ybG I q rfl)
theorem yCq:OpR X (compareOp .Is) (fun x y H Q=>y=.non/\Q (.bl (decide (x=.non))) H):=by
 intro pins s σ H x y v u Q I rx ry h
 obtain ⟨rfl,q⟩:=h
 cases ry
 refine is_none_gen (ybG I q ?_)
 cases x<;>first
  | (cases rx;rfl)
  | (obtain ⟨t,rfl⟩:=rx;rfl)
theorem yJk:OpR X (compareOp .IsNot) (fun x y H Q=>y=.non/\Q (.bl (!decide (x=.non))) H):=by
 intro pins s σ H x y v u Q I rx ry h
 obtain ⟨rfl,q⟩:=h
 cases ry
 refine isnot_none_gen (ybG I q ?_)
 cases x<;>first
  | (cases rx;rfl)
  | (obtain ⟨t,rfl⟩:=rx;rfl)
theorem yt (b:Expr) {op:CmpOp}(h:op≠.In:=by decide) (h2:op≠.NotIn:=by decide):behindInMarks op b=false:=by
 have e1:(op == CmpOp.In)=false:=by cases op<;>first|rfl|exact absurd rfl h
 have e2:(op == CmpOp.NotIn)=false:=by cases op<;>first|rfl|exact absurd rfl h2
 cases b<;>simp [behindInMarks,e1,e2]
theorem yJl {op:CmpOp}{r:R2}(ho:OpR X (compareOp op) r) (ha:PE X a ta) (hb:PE X b tb) (hm:behindInMarks op b=false):PE X (.Compare a [op] [b] pos) (tOp r ta tb):=by
 intro pins s σ H Q I h
 exact wpAny_Compare1 (yOL ha hb I h fun v u s2 x y H2 I2 rx ry q=>ho pins s2 σ H2 x y v u Q I2 rx ry q) hm
def yJm (t:TE):TT:=fun σ H Q=>t σ H fun x H'=>∃ k,x=.bl k/\Q k H'
theorem yJn {op:CmpOp}{r:R2}(ho:OpR X (compareOp op) r) (ha:PE X a ta) (hb:PE X b tb) (hm:behindInMarks op b=false):PT X (.Compare a [op] [b] pos) (yJm (tOp r ta tb)):=by
 intro pins s σ H Q I h
 refine wpAny_isTrue_Compare1 (thn (ha pins s σ H _ I h) fun v s1 ⟨x,H1,I1,r1,q1⟩=>thn (hb pins s1 σ H1 _ I1 q1) fun u s2 ⟨y,H2,I2,r2,q2⟩ =>
  thn (ho pins s2 σ H2 x y v u _ I2 r1 r2 q2) fun c s3 ⟨z,H3,I3,r3,k,e,q3⟩=>?_) hm
 subst e
 cases r3
 exact wpAny_truthy_bool ⟨H3,I3,q3⟩
noncomputable def yCr (r r':R2) (ta tb tc:TE):TE:=fun σ H Q=>ta σ H fun x H1=>tb σ H1 fun y H2=>r x y H2 fun z H3=>∃ k,z=.bl k /\
 (if k=true then tc σ H3 fun w' H4=>r' y w' H4 Q else Q (.bl false) H3)
theorem yFv {op op':CmpOp}{r r':R2}(ho:OpR X (compareOp op) r) (ho':OpR X (compareOp op') r') (ha:PE X a ta) (hb:PE X b tb) (hc:PE X c tc)
  (hm:lastMarks [op,op'] [b,c]=false:=by with_unfolding_all rfl):PE X (.Compare a [op,op'] [b,c] pos) (yCr r r' ta tb tc):=by
 intro pins s σ H Q I h
 refine Compare_chain (thn (ha pins s σ H _ I h) fun v s1 ⟨x,H1,I1,r1,q1⟩=>chain_link (thn (hb pins s1 σ H1 _ I1 q1) fun u s2 ⟨y,H2,I2,r2,q2⟩ =>
  thn (ho pins s2 σ H2 x y v u _ I2 r1 r2 q2) fun d s3 ⟨z,H3,I3,r3,k,e,q3⟩=>?_)) hm
 subst e
 cases r3
 refine wpAny_truthy_bool ?_
 cases k with
 | false=>exact ite_ff ⟨.bl false,H3,I3,rfl,q3⟩
 | true=>exact ite_tt (chain_last (thn (hc pins s3 σ H3 _ I3 q3) fun w' s4 ⟨z',H4,I4,r4,q4⟩=>ho' pins s4 σ H4 y z' u w' Q I4 r2 r4 q4))
theorem yFw {op op':CmpOp}{r r':R2}(ho:OpR X (compareOp op) r) (ho':OpR X (compareOp op') r') (ha:PE X a ta) (hb:PE X b tb) (hc:PE X c tc)
  (hm:lastMarks [op,op'] [b,c]=false:=by with_unfolding_all rfl):PT X (.Compare a [op,op'] [b,c] pos) (yJm (yCr r r' ta tb tc)):=by
 intro pins s σ H Q I h
 refine isTrue_chain (thn (ha pins s σ H _ I h) fun v s1 ⟨x,H1,I1,r1,q1⟩=>test_link (thn (hb pins s1 σ H1 _ I1 q1) fun u s2 ⟨y,H2,I2,r2,q2⟩ =>
  thn (ho pins s2 σ H2 x y v u _ I2 r1 r2 q2) fun d s3 ⟨z,H3,I3,r3,k,e,q3⟩=>?_)) hm
 subst e
 cases r3
 refine wpAny_truthy_bool ?_
 cases k with
 | false =>
  obtain ⟨k',e',q'⟩:=q3
  cases e'
  exact ite_ff ⟨H3,I3,q'⟩
 | true =>
  refine ite_tt (test_last (thn (hc pins s3 σ H3 _ I3 q3) fun w' s4 ⟨z',H4,I4,r4,q4⟩=>thn (ho' pins s4 σ H4 y z' u w' _ I4 r2 r4 q4) fun d' s5 ⟨z2,H5,I5,r5,k2,e2,q5⟩=>?_))
  subst e2
  cases r5
  exact wpAny_truthy_bool ⟨H5,I5,q5⟩
theorem ytw:(sizeLine:Nat)<2 ^ 63:=by rw [sizeLine_eq];decide
theorem yic:OpR X (binaryOp .Add) (fun x y H Q=>∃ i j,x=.str i/\y=.str j/\i.length+j.length<=sizeLine/\Q (.str (i++j)) H):=by
 intro pins s σ H x y v u Q I rx ry h
 obtain ⟨i,j,rfl,rfl,hz,q⟩:=h
 obtain ⟨t,rfl⟩:=rx
 obtain ⟨t',rfl⟩:=ry
 exact add_str (fun t' tk=>⟨.str (i++j),H,I.tok _,⟨_,rfl⟩,q⟩) hz
theorem vals1 {x:V}{us:List Value}(r:Vals [x] us):∃ u,us=[u]/\RelV x u:=by
 cases r with
 | cons r1 r2=>cases r2;exact ⟨_,rfl,r1⟩
theorem vals2 {x y:V}{us:List Value}(r:Vals [x,y] us):∃ u w',us=[u,w']/\RelV x u/\RelV y w':=by
 cases r with
 | cons r1 r2 =>
  cases r2 with
  | cons r3 r4=>cases r4;exact ⟨_,_,rfl,r1,r3⟩
theorem ypg:ylQ X (.type "str") (fun xs H Q=>∃ i,xs=[.int i]/\i.natAbs.log2<1920/\Q (.str (toString i)) H):=by
 intro pins s σ H xs us Q I r h
 obtain ⟨i,rfl,hz,q⟩:=h
 obtain ⟨u,rfl,t,rfl⟩:=vals1 r
 exact PySem.P.str_of_int hz ⟨.str _,H,I.tok _,⟨_,rfl⟩,q⟩
end
end L2
namespace L2
open PySem PySem.Spec PyProof.Rows
structure ObjM (h:Heap) (x dx C:Addr) (mA:Str->Option Value):Prop where
 obj:h.get? x=some (instObj C dx)
 ns:h.Ns1 dx mA
 ne:dx≠x
theorem yCs {h:Heap}{dx:Addr}{mA:Str->Option Value}(n:h.Ns1 dx mA):∃ od,h.get? dx=some od/\∀ name,PySem.W.lookIn name od=some (mA name):=by
 obtain ⟨o,es,ep,ho,hd,hk,_,hm⟩:=n
 refine ⟨o,ho,fun name=>?_⟩
 have e:=hm name
 unfold nsFind findBy at e
 rw [<- Array.find?_toList] at e
 unfold PySem.W.lookIn
 rw [hd]
 dsimp only
 split
 .rename_i y q
  rw [q] at e
  exact congrArg some e
 .rename_i q
  rw [q] at e
  have a:es.toList.any (·.refKey)=false:=by
   rw [List.any_eq_false]
   intro y hy
   obtain ⟨z,t,hkey⟩:=hk y (Array.mem_toList_iff.mp hy)
   simp [DictEntry.refKey,hkey]
  have a':¬ es.toList.any (·.refKey)=true:=by rw [a];exact Bool.false_ne_true
  rw [if_neg a']
  exact congrArg some e
theorem ObjM.look {h:Heap}{x dx C:Addr}{mA:Str->Option Value}(I:ObjM h x dx C mA):∃ od,PySem.W.InstAt h x (instObj C dx) C (some od)/\∀ name,PySem.W.lookIn name od=some (mA name) :=
 let ⟨od,ho,hl⟩:=yCs I.ns
 ⟨od,⟨I.obj,rfl,rfl,ho⟩,hl⟩
section
variable {prog:Program}{w:World}{A:Around}{E:Value->Shared->Prop}{s:Shared}{K:PySem.W.Frag}{x dx C f:Addr}{mA:Str->Option Value}{name:Str}{v:Value}
theorem yJo {expr:Bool}{Q:Value->Shared->Prop}(X:K.In s.heap) (I:ObjM s.heap x dx C mA) (hg:plainGet K C name=true) (hh:hasDictIn K C=true)
  (ha:findIn K (.ref C) name=some none) (hv:mA name=some v) (hv':PySem.W.handedIn v=true) (h:Q v { s with toks:=s.toks+1 }) :
  wpAny (model prog w) A (getAttr (.ref x) name expr) Q E s:=by
 obtain ⟨od,J,hl⟩:=I.look
 exact PySem.W.get_value X J (PySem.W.plainGet_of hg).1 (PySem.W.findObj_own hh ha rfl (by rw [hl,hv])) hv' h
theorem yFx {pl:Sem Bool}{Q:Value×List Value->Shared->Prop}(X:K.In s.heap) (I:ObjM s.heap x dx C mA) (hg:plainGet K C name=true)
  (hf:findIn K (.ref C) name=some (some (.ref f))) (ht:isFn K (.ref f)=true) (hv:mA name=none) (h:Q (.ref f,[.ref x]) s) :
  wpAny (model prog w) A (getMethod (.ref x) name pl) Q E s:=by
 obtain ⟨od,J,hl⟩:=I.look
 exact PySem.W.method_fn X J (PySem.W.plainGet_of hg).1 (PySem.W.plainGet_of hg).2 hf (beq_iff_eq.mp ht) (by show (PySem.W.lookIn name od).map (·.isSome)=some false;rw [hl,hv];rfl) h
theorem yJp {ns:List Str}{Q:Unit->Shared->Prop}(X:K.In s.heap) (I:ObjM s.heap x dx C mA)
  (hs:findIn K (.ref C) "__setattr__" = some (some (.builtin "object.__setattr__"))) (hp:PySem.W.plainOver K C=true) (ht:PySem.W.takerIn K C name=some none) (hh:hasDictIn K C=true)
  (hw:PySem.Within mA ns) (hsz:ns.length<=sizeLine)
  (h:∀ h',ObjM h' x dx C (fun y=>if y=name then some v else mA y)->Heap.SameBut dx s.heap h'->Q () { s with heap:=h',toks:=s.toks+2 }) :
  wpAny (model prog w) A (setAttr (.ref x) name v) Q E s:=by
 obtain ⟨od,J,hl⟩:=I.look
 refine PySem.W.set_plain X J hs (PySem.W.osa_open (s:={ s with toks:=s.toks+1 }) (r:=none) X J hp ht fun b=>?_)
 obtain ⟨cd,hc,hd'⟩:=PySem.W.any_some hh
 have hx:s.heap.get? x=some ⟨.ref C,some dx,.plain,#[]⟩:=I.obj
 refine wpAny_bind (wpAny_pure (wpAny_bind (wpAny_bind (wpAny_loadPart hx (wpAny_bind (PySem.W.Looks.here (s:={ s with toks:=s.toks+1 }) (PySem.W.looks_clsIn X hc) ?_))))))
 rw [hd']
 refine wpAny_pure (a:=some dx) (wpAny_bind (wpAny_pure (wpAny_bind ?_)))
 refine wpAny_nsSet1 (s:={ s with toks:=s.toks+1 }) I.ns fun h' hn2 hs2=>?_
 obtain ⟨oD,esD,epD,hoD,hdD,hcD⟩:=hn2.count (PySem.Within.cons name v hw)
 refine wpAny_bind (wpAny_lookBehind hoD (by rw [hdD];exact pastItsLine_dict (Nat.le_trans hcD (by rw [length_cons];omega))) ?_)
 exact wpAny_pure (h _ ⟨(hs2.2 _ (Ne.symm I.ne)).trans I.obj,hn2,I.ne⟩ hs2)
theorem yFy {R:Result->Shared->Prop}{vs:List Value}{kw:List (Str×Value)}(X:K.In s.heap) (hm:makesIn K C=true)
  (hi:findIn K (.ref C) "__init__" = some (some (.ref f))) (hf:typeIn K (.ref f)=some (.type "function"))
  (h:codeAny (model prog w) (A.under (.builtin "type.__call__" ⟨.ref C::vs,kw⟩)) (.call (.ref f) ⟨.ref (s.heap.objs.size+1)::vs,kw⟩) (PySem.W.InitBack (s.heap.objs.size+1) R)
   { s with heap:=(s.heap.push emptyDict).push (instObj C s.heap.objs.size) }) :
  codeAny (model prog w) A (.call (.ref C) ⟨vs,kw⟩) R s:=by
 obtain ⟨hh,g,d,t,os⟩:=s
 exact PySem.W.make_core (PySem.W.makes_of X hm) (PySem.W.looks_findIn X hi) (fun self=>PySem.W.bind_fn X self hf) (.inl rfl) h
end
def ytx (f:Str) (v:V):List (Str×V)->List (Str×V)
 | []=>[(f,v)]
 | (g,x)::r=>if g=f then (g,v)::r else (g,x)::ytx f v r
theorem yqA (f g:Str) (v:V):∀ fs:List (Str×V),(ytx f v fs).lookup g=if g=f then some v else fs.lookup g
 | []=>by
  show List.lookup g [(f,v)]=_
  by_cases h:g=f
  .have hb:(g == f)=true:=beq_iff_eq.mpr h
   simp only [List.lookup,hb,if_pos h]
  .have hb:(g == f)=false:=beq_eq_false_iff_ne.mpr h
   simp only [List.lookup,hb,if_neg h]
 | (k,x)::r=>by
  have ih:=yqA f g v r
  rw [show ytx f v ((k,x)::r)=(if k=f then (k,v)::r else (k,x)::ytx f v r) from rfl]
  by_cases hk:k=f
  .rw [if_pos hk]
   by_cases h:g=k
   .have hb:(g == k)=true:=beq_iff_eq.mpr h
    simp only [List.lookup,hb,if_pos (h.trans hk)]
   .have hb:(g == k)=false:=beq_eq_false_iff_ne.mpr h
    simp only [List.lookup,hb,if_neg (fun e:g=f=>h (e.trans hk.symm))]
  .rw [if_neg hk]
   by_cases h:g=k
   .have hb:(g == k)=true:=beq_iff_eq.mpr h
    simp only [List.lookup,hb,if_neg (fun e:g=f=>hk (h.symm.trans e))]
   .have hb:(g == k)=false:=beq_eq_false_iff_ne.mpr h
    simp only [List.lookup,hb]
    exact ih
theorem yqB (f:Str) (v:V):∀ fs:List (Str×V),f∈(ytx f v fs).map (·.1)/\∀ g,g∈fs.map (·.1)->g∈(ytx f v fs).map (·.1)
 | []=>⟨by simp [ytx],fun g h=>by simp at h⟩
 | (k,x)::r=>by
  obtain ⟨i1,i2⟩:=yqB f v r
  rw [show ytx f v ((k,x)::r)=(if k=f then (k,v)::r else (k,x)::ytx f v r) from rfl]
  by_cases hk:k=f
  .rw [if_pos hk]
   subst hk
   exact ⟨by simp,fun g h=>by simpa using h⟩
  .rw [if_neg hk]
   refine ⟨?_,fun g h=>?_⟩
   .rw [map_cons]
    exact mem_cons_of_mem _ i1
   .rw [map_cons] at h ⊢
    rcases mem_cons.mp h with e|e
    .exact mem_cons.mpr (.inl e)
    .exact mem_cons_of_mem _ (i2 g e)
theorem yqC (f:Str) (v:V):∀ fs:List (Str×V),(ytx f v fs).length<=fs.length+1
 | []=>by simp [ytx]
 | (k,x)::r=>by
  have ih:=yqC f v r
  rw [show ytx f v ((k,x)::r)=(if k=f then (k,v)::r else (k,x)::ytx f v r) from rfl]
  by_cases hk:k=f
  .rw [if_pos hk,length_cons,length_cons];omega
  .rw [if_neg hk,length_cons,length_cons];omega
theorem RelO.some_of {v:V}{o:Option Value}(r:RelO (some v) o):∃ u,o=some u/\RelV v u:=by
 cases o with
 | none=>exact (show False from r).elim
 | some u=>exact ⟨u,rfl,r⟩
theorem RelO.none_of {o:Option Value}(r:RelO none o):o=none:=by
 cases o with
 | none=>rfl
 | some u=>exact (show False from r).elim
theorem yCt {v:V}{u:Value}(r:RelV v u):PySem.W.handedIn u=true:=by
 cases v with
 | non=>cases (show u=Value.none from r);rfl
 | bl b=>cases (show u=Value.bool b from r);rfl
 | int i=>obtain ⟨t,e⟩:=(show ∃ t,u=Value.int i t from r);cases e;rfl
 | str x=>obtain ⟨t,e⟩:=(show ∃ t,u=Value.str x t from r);cases e;rfl
 | byt b=>obtain ⟨t,e⟩:=(show ∃ t,u=Value.bytes b t from r);cases e;rfl
 | flt b=>obtain ⟨t,e⟩:=(show ∃ t,u=Value.float b t from r);cases e;rfl
 | ref a=>cases (show u=Value.ref a from r);rfl
 | ty n=>cases (show u=Value.type n from r);rfl
section
variable {P:Program}{w:World}{H H':Hp}{h h':Heap}{a C dx:Addr}{fs fs':List (Str×V)}
theorem yum (hok:HOk P w H h) (e:H a=some (.ins C dx fs)):∃ mA,ObjM h a dx C mA/\(∀ f,RelO (fs.lookup f) (mA f))/\PySem.Within mA (fs.map (·.1))/\fs.length<=1000/\H dx=some (.own a):=by
 obtain ⟨d,z,ne,ob,mA,n,r,q⟩:=(show ObjOk P w H h a (.ins C dx fs) from hok a _ e)
 exact ⟨mA,⟨ob,n,ne⟩,r,q,z,d⟩
end
structure Cls (K:PySem.W.Frag) (C:Addr):Prop where
 pg:plainGet K C Str.empty=true
 hd:hasDictIn K C=true
 po:PySem.W.plainOver K C=true
 sa:findIn K (.ref C) "__setattr__" = some (some (.builtin "object.__setattr__"))
theorem Cls.get {K:PySem.W.Frag}{C:Addr}(c:Cls K C) (f:Str):plainGet K C f=true:=c.pg
def NoAttr (K:PySem.W.Frag) (C:Addr) (f:Str):Prop:=findIn K (.ref C) f=some none
theorem NoAttr.taker {K:PySem.W.Frag}{C:Addr}{f:Str}(n:NoAttr K C f):PySem.W.takerIn K C f=some none:=by
 unfold PySem.W.takerIn
 rw [show findIn K (.ref C) f=some none from n]
 rfl
structure ybj (K:PySem.W.Frag) (C:Addr) (m:Str) (f:Addr):Prop where
 at_:findIn K (.ref C) m=some (some (.ref f))
 fn:isFn K (.ref f)=true
 kp:keepIn K (.ref f)=true
section
variable {X:Cx}{pins:List (Addr×Obj)}{σ:St}{H:Hp}{s:Shared}{a C dx:Addr}{fs:List (Str×V)}{f:Str}{v:V}{A:Around}{E:Value->Shared->Prop}
theorem yAU {b:Bool}{Q:Value->Shared->Prop}(I:Inv X pins σ H s) (e:H a=some (.ins C dx fs)) (c:Cls X.K C) (n:NoAttr X.K C f) (l:fs.lookup f=some v)
  (h:∀ u s',Inv X pins σ H s'->RelV v u->Q u s'):wpAny (model X.prog X.w) A (getAttr (.ref a) f b) Q E s:=by
 obtain ⟨mA,O,r,_,_,_⟩:=yum I.hok e
 obtain ⟨u,hu,ru⟩:=RelO.some_of (v:=v) (o:=mA f) (by rw [<- l];exact r f)
 exact yJo I.kIn O (c.get f) c.hd n hu (yCt ru) (h u _ (I.tok _) ru)
theorem yos {m:Str}{g:Addr}{pl:Sem Bool}{Q:Value×List Value->Shared->Prop}(I:Inv X pins σ H s) (e:H a=some (.ins C dx fs)) (c:Cls X.K C) (k:ybj X.K C m g) (l:fs.lookup m=none)
  (h:Q (.ref g,[.ref a]) s):wpAny (model X.prog X.w) A (getMethod (.ref a) m pl) Q E s:=by
 obtain ⟨mA,O,r,_,_,_⟩:=yum I.hok e
 have hn:mA m=none:=RelO.none_of (by rw [<- l];exact r m)
 exact yFx I.kIn O (c.get m) k.at_ k.fn hn h
theorem yAV {y:V}{u:Value}{Q:Unit->Shared->Prop}(I:Inv X pins σ H s) (e:H a=some (.ins C dx fs)) (c:Cls X.K C) (n:NoAttr X.K C f) (hl:fs.length<1000) (ry:RelV y u)
  (h:∀ s',Inv X pins σ (upd H a (.ins C dx (ytx f y fs))) s'->Q () s'):wpAny (model X.prog X.w) A (setAttr (.ref a) f u) Q E s:=by
 obtain ⟨mA,O,r,wi,_,ho⟩:=yum I.hok e
 have hz:(fs.map (·.1)).length<=sizeLine:=by rw [length_map,sizeLine_eq];omega
 refine yJp I.kIn O c.sa c.po n.taker c.hd wi hz fun h' O' sb=>h _ ?_
 have hd:∃ o,h'.get? dx=some o:=let ⟨o,_,_,e',_⟩:=O'.ns;⟨o,e'⟩
 refine I.write (x:=a) (e:=dx) (by rw [e];exact True.intro) (.inr ho) (fun b q hb z=>(sb.2 b hb).trans z) hd ?_
 refine ⟨by rw [yL O.ne];exact ho,?_,O.ne,O'.obj,_,O'.ns,fun g=>?_,fun g hg=>?_⟩
 .have:=yqC f y fs;omega
 .show RelO ((ytx f y fs).lookup g) (if g=f then some u else mA g)
  rw [yqA]
  by_cases q:g=f
  .rw [if_pos q,if_pos q];exact ry
  .rw [if_neg q,if_neg q];exact r g
 .by_cases q:g=f
  .rw [q];exact (yqB f y fs).1
  .refine (yqB f y fs).2 g (wi g fun z=>hg ?_)
   show (if g=f then some u else mA g)=none
   rw [if_neg q];exact z
theorem Inv.made (I:Inv X pins σ H s):Inv X pins σ (upd (upd H s.heap.objs.size (.own (s.heap.objs.size+1))) (s.heap.objs.size+1) (.ins C s.heap.objs.size []))
  { s with heap:=(s.heap.push emptyDict).push (instObj C s.heap.objs.size) }:=by
 have e1:(s.heap.push emptyDict).get? s.heap.objs.size=some emptyDict:=Heap.get?_push_size s.heap rfl
 have e2:((s.heap.push emptyDict).push (instObj C s.heap.objs.size)).get? (s.heap.objs.size+1)=some (instObj C s.heap.objs.size):=by
  have:=Heap.get?_push_size (s.heap.push emptyDict) (o:=instObj C s.heap.objs.size) rfl
  rwa [Heap.size_push] at this
 have e3:(s.heap.push emptyDict).Ns s.heap.objs.size (fun _=>none):=⟨emptyDict,#[],_,e1,rfl,(fun e he=>absurd he (by simp)),fun _=>rfl⟩
 have I1:=I.laid (a:=s.heap.objs.size) (o:=.own (s.heap.objs.size+1)) (h':=s.heap.push emptyDict) (t':=s.toks) (fun b u q=>Heap.get?_push_of_some _ q) (Nat.le_refl _) ⟨_,e1⟩
 refine I1.laid (a:=s.heap.objs.size+1) (o:=.ins C s.heap.objs.size []) (t':=s.toks) (fun b u q=>Heap.get?_push_of_some _ q) (le_of_eq (Heap.size_push _ _)) ?_
 have ne:s.heap.objs.size≠s.heap.objs.size+1:=ne_of_lt (Nat.lt_succ_self _)
 refine ⟨by rw [yL ne,yF],zero_le _,ne,e2,fun _=>none,(Heap.Ns1.of_empty e3).at fun o q=>Heap.get?_push_of_some _ q,fun _=>True.intro,fun y hy=>absurd rfl hy⟩
theorem yJq {prog:Program}{w:World}{env:Env}{e:Expr}{f:Str}{pos:Pos}{s:Shared}{Q:Value->Shared->Prop}(hb:attributeBase e f env (eval e env)=eval e env)
  (h:wpAny (model prog w) A (eval e env) (fun o s₁=>wpAny (model prog w) A (getAttr o f true) Q E s₁) E s):wpAny (model prog w) A (eval (.Attribute e f pos) env) Q E s :=
 Attribute_any_ h (by rw [arm_eval_Attribute,hb])
end
noncomputable def yRm (K:PySem.W.Frag) (ta:TE) (f:Str):TE:=fun σ H Q=>ta σ H fun x H1=>∃ a C dx fs v,x=.ref a/\H1 a=some (.ins C dx fs)/\Cls K C/\NoAttr K C f/\fs.lookup f=some v/\Q v H1
noncomputable def yOP (K:PySem.W.Frag) (ta tv:TE) (f:Str):TS:=fun D σ H=>tv σ H fun y H1=>ta σ H1 fun x H2=>∃ a C dx fs,x=.ref a/\H2 a=some (.ins C dx fs)/\Cls K C/\NoAttr K C f/\fs.length<1000 /\
 D.nx σ (upd H2 a (.ins C dx (ytx f y fs)))
section
variable {X:Cx}{o e value:Expr}{f:Str}{pos pos' tpos:Pos}{ta tv:TE}
theorem yMn (he:PE X e ta) (hb:attributeBase e f X.env (eval e X.env)=eval e X.env):PE X (.Attribute e f pos) (yRm X.K ta f):=by
 intro pins s σ H Q I h
 refine yJq hb (thn (he pins s σ H _ I h) fun u s1 ⟨x,H1,I1,rx,a,C,dx,fs,v,ex,ea,c,n,l,q⟩=>?_)
 subst ex
 obtain rfl:u=Value.ref a:=rx
 exact yAU I1 ea c n l fun u' s2 I2 ru=>⟨v,H1,I2,ru,q⟩
theorem yIf (ha:PE X o ta) (hv:PE X value tv) (hs:swapsWith value (some (.Attribute o f pos')) pos.line X.env=pure false):PS X (.Assign [.Attribute o f pos'] value pos) (yOP X.K ta tv f):=by
 intro pins s σ H D I h
 refine plainObj_wpAny_Assign_Attribute (thn (hv pins s σ H _ I h) fun u s1 ⟨y,H1,I1,ry,q⟩=>thn (ha pins s1 σ H1 _ I1 q) fun ov s2 ⟨x,H2,I2,rx,a,C,dx,fs,ex,ea,c,n,l,q2⟩=>?_) hs
 subst ex
 obtain rfl:ov=Value.ref a:=rx
 exact yAV I2 ea c n l ry fun s3 I3=>⟨σ,_,I3,q2⟩
end
section
variable {X:Cx}{pins:List (Addr×Obj)}{σ:St}{H:Hp}{s:Shared}{A:Around}{E:Value->Shared->Prop}{Q:Value->Shared->Prop}{c:Value}{b:Bool}
inductive yzH (K:PySem.W.Frag) (H:Hp):V->Value->Prop where
 | non:yzH K H .non (.type "NoneType")
 | bl (x:Bool):yzH K H (.bl x) (.type "bool")
 | int (i:Int):yzH K H (.int i) (.type "int")
 | str (x:Str):yzH K H (.str x) (.type "str")
 | flt (x:UInt64):yzH K H (.flt x) (.type "float")
 | lst {a:Addr}{xs:List V}(e:H a=some (.lst xs)):yzH K H (.ref a) (.type "list")
 | frz {a:Addr}{o:Obj}{xs:List V}(e:H a=some (.frz o (.lst xs))):yzH K H (.ref a) (.type "list")
 | tup {a:Addr}{xs:List V}(e:H a=some (.tup xs)):yzH K H (.ref a) (.type "tuple")
 | kt {a:Addr}{o:Obj}(e:K.lookup a=some o) (c:o.cls=.type "tuple"):yzH K H (.ref a) (.type "tuple")
 | dK {a:Addr}{kvs:List (Key×V)}(e:H a=some (.dK kvs)):yzH K H (.ref a) (.type "dict")
 | dT {a:Addr}{kvs:List (List Key×V)}(e:H a=some (.dT kvs)):yzH K H (.ref a) (.type "dict")
 | ins {a C dx:Addr}{fs:List (Str×V)}(e:H a=some (.ins C dx fs)) (cl:Cls K C) (ha:findIn K (.ref C) "__class__" = some (some (.builtin "object.__class__")))
   (hn:PySem.W.specialIn K (.builtin "object.__class__") "__get__" = some (some (.builtin "getset_descriptor.__get__"))) (htk:PySem.W.takesIn K (.builtin "object.__class__")=some true)
   (hm:mroIn K C (.type "object")=some true):yzH K H (.ref a) (.ref C)
theorem yCu {x:V}{u t:Value}(I:Inv X pins σ H s) (rx:RelV x u) (ty:yzH X.K H x t) (e:PySem.W.kitOne X.K t c=some b) (h:∀ tk,Q (.bool b) { s with toks:=tk }) :
  wpAny (model X.prog X.w) A (call (.builtin "isinstance") [u,c]) Q E s:=by
 cases ty with
 | non=>cases (show u=Value.none from rx);exact kia_one PySem.W.kitx_none I.kIn True.intro e (fun z=>nomatch z) h
 | bl y=>cases (show u=Value.bool y from rx);exact kia_one PySem.W.kitx_bool I.kIn True.intro e (fun z=>nomatch z) h
 | int i=>obtain ⟨t,q⟩:=(show ∃ t,u=Value.int i t from rx);cases q;exact kia_one PySem.W.kitx_int I.kIn True.intro e (fun z=>nomatch z) h
 | str y=>obtain ⟨t,q⟩:=(show ∃ t,u=Value.str y t from rx);cases q;exact kia_one PySem.W.kitx_str I.kIn True.intro e (fun z=>nomatch z) h
 | flt y=>obtain ⟨t,q⟩:=(show ∃ t,u=Value.float y t from rx);cases q;exact kia_one PySem.W.kitx_float I.kIn True.intro e (fun z=>nomatch z) h
 | @lst a xs ea =>
  cases (show u=Value.ref a from rx)
  obtain ⟨_,_,n,_,h1⟩:=(show ObjOk X.prog X.w H s.heap a (.lst xs) from I.hok a _ ea)
  exact kia_one PySem.W.kitx_list I.kIn ⟨_,h1,rfl⟩ e (fun z=>nomatch z) h
 | @frz a ob xs ea =>
  cases (show u=Value.ref a from rx)
  obtain ⟨_,_,_,n,_,h1⟩:=(show ObjOk X.prog X.w H s.heap a (.frz ob (.lst xs)) from I.hok a _ ea)
  exact kia_one PySem.W.kitx_list I.kIn ⟨_,h1,rfl⟩ e (fun z=>nomatch z) h
 | @tup a xs ea =>
  cases (show u=Value.ref a from rx)
  obtain ⟨_,_,_,p⟩:=(show ObjOk X.prog X.w H s.heap a (.tup xs) from I.hok a _ ea)
  obtain ⟨o,h1,h2,_⟩:=p
  exact kia_one PySem.W.kitx_tuple I.kIn ⟨o,h1,h2⟩ e (fun z=>nomatch z) h
 | @kt a ob ek ck =>
  cases (show u=Value.ref a from rx)
  exact kia_one PySem.W.kitx_tuple I.kIn ⟨ob,I.kIn a ob ek,ck⟩ e (fun z=>nomatch z) h
 | @dK a kvs ea =>
  cases (show u=Value.ref a from rx)
  obtain ⟨_,_,vs,_,p⟩:=(show ObjOk X.prog X.w H s.heap a (.dK kvs) from I.hok a _ ea)
  obtain ⟨o,es,ep,h1,h2,_⟩:=p
  exact kia_one PySem.W.kitx_dict I.kIn ⟨o,h1,h2.1⟩ e (fun z=>nomatch z) h
 | @dT a kvs ea =>
  cases (show u=Value.ref a from rx)
  obtain ⟨_,_,xs,_,o,es,ep,h1,h2,_⟩:=(show ObjOk X.prog X.w H s.heap a (.dT kvs) from I.hok a _ ea)
  exact kia_one PySem.W.kitx_dict I.kIn ⟨o,h1,h2.1⟩ e (fun z=>nomatch z) h
 | @ins a C dx fs ea cl ha hn htk hm =>
  cases (show u=Value.ref a from rx)
  obtain ⟨mA,O,_⟩:=yum I.hok ea
  obtain ⟨od,J,_⟩:=O.look
  exact kia_one (PySem.W.kitx_own (cl.get _) cl.hd ha hn htk hm) I.kIn J e (fun z=>nomatch z) h
end
end L2
namespace L2
open PySem PySem.Spec PyProof.Rows
structure Room (k:Nat) (A:Around):Prop where
 hd:A.handled=none
 dp:A.depth+3*k+5<recursionLimit
 un:A.units+16*k+200<cLine
theorem Room.mono {j k:Nat}{A:Around}(r:Room k A) (h:j<=k):Room j A:=⟨r.hd,by have:=r.dp;omega,by have:=r.un;omega⟩
theorem Room.deeper {k:Nat}{A:Around}(r:Room (k+1) A) (env:Env):Room k (A.deeper env) :=
 ⟨r.hd,by have:=r.dp;show A.depth+1+3*k+5<_;omega,by have:=r.un;show A.units+3+16*k+200<_;omega⟩
theorem yAW {A:Around}{C:Addr}{us:List Value}{kw:List (Str×Value)}:(A.under (.builtin "type.__call__" ⟨.ref C::us,kw⟩)).depth=A.depth+1:=by
 first|rfl|simp [Around.under,Code.weight,Code.isCreation,Code.isGuard,Code.isCaller,Code.frames,Code.isFrame,guardIds]
theorem yAX {A:Around}{C:Addr}{us:List Value}{kw:List (Str×Value)}:(A.under (.builtin "type.__call__" ⟨.ref C::us,kw⟩)).units=A.units+1:=by
 first|rfl|simp [Around.under,Code.cUnits,Code.frames,Code.isFrame]
theorem Room.make {k:Nat}{A:Around}(r:Room (k+1) A) (C:Addr) (us:List Value) (kw:List (Str×Value)):Room k (A.under (.builtin "type.__call__" ⟨.ref C::us,kw⟩)) :=
 ⟨r.hd,by have:=r.dp;rw [yAW];omega,by have:=r.un;rw [yAX];omega⟩
theorem Room.depth {k:Nat}{A:Around}(r:Room k A):A.depth<recursionLimit:=by have:=r.dp;omega
theorem Room.units {k:Nat}{A:Around}(r:Room k A):A.units+64<cLine:=by have:=r.un;omega
def yFz:TA:=fun _ H Q=>Q [] H
def yya (ta:TE) (tr:TA):TA:=fun σ H Q=>ta σ H fun x H1=>tr σ H1 fun xs H2=>Q (x::xs) H2
section
variable {X:Cx}{e:Expr}{es:List Expr}{te:TE}{t:TA}{pos:Pos}
theorem yvM:PA X [] yFz:=fun _ _ _ _ H Q I h=>Calls.spliced_nil ⟨[],H,I,.nil,h⟩
theorem yot (ha:PE X e te) (hr:PA X es t) (hs:starEach (e::es) X.env=(false,eval e X.env)::starEach es X.env:=by rfl):PA X (e::es) (yya te t):=by
 intro pos pins s σ H Q I h
 rw [hs]
 show wpAny _ _ (spliced ((false,eval e X.env)::backTo pos (starEach es X.env))) _ _ s
 refine Calls.spliced_cons (thn (ha pins s σ H _ I h) fun u s1 ⟨x,H1,I1,r1,q1⟩=>?_)
 exact thn (hr pos pins s1 σ H1 _ I1 q1) fun us s2 ⟨xs,H2,I2,r2,q2⟩=>⟨x::xs,H2,I2,.cons r1 r2,q2⟩
def yRn (t:TA):TE:=fun σ H Q=>t σ H fun xs H1=>xs.length<=sizeLine/\∀ p,H1 p=none->Q (.ref p) (upd H1 p (.tup xs))
def yRo (t:TA):TE:=fun σ H Q=>t σ H fun xs H1=>xs.length<=sizeLine/\∀ p,H1 p=none->Q (.ref p) (upd H1 p (.lst xs))
theorem yMo {x1} (h:PA X es t):PE X (.Tuple es x1 pos) (yRn t):=by
 intro pins s σ H Q I hq
 refine wpAny_Tuple_spliced (thn (h pos pins s σ H _ I hq) fun us s1 ⟨xs,H1,I1,r,z,q⟩=>⟨by rw [<- r.length];exact z,?_⟩)
 have hf:H1 s1.heap.objs.size=none:=I1.hok.fresh (Nat.le_refl _)
 refine ⟨.ref s1.heap.objs.size,upd H1 s1.heap.objs.size (.tup xs),I1.laid (t':=s1.toks) (fun b u e=>Heap.get?_push_of_some _ e) (Nat.le_refl _) ?_,rfl,q _ hf⟩
 exact ⟨z,us,r,⟨_,Heap.get?_push_size _ rfl,rfl,_,rfl⟩⟩
theorem yMp (h:PA X es t):PE X (.List es pos) (yRo t):=by
 intro pins s σ H Q I hq
 refine wpAny_List_spliced (thn (h pos pins s σ H _ I hq) fun us s1 ⟨xs,H1,I1,r,z,q⟩=>⟨by rw [<- r.length];exact z,?_⟩)
 have hf:H1 s1.heap.objs.size=none:=I1.hok.fresh (Nat.le_refl _)
 refine ⟨.ref s1.heap.objs.size,upd H1 s1.heap.objs.size (.lst xs),I1.laid (t':=s1.toks) (fun b u e=>Heap.get?_push_of_some _ e) (Nat.le_refl _) ?_,rfl,q _ hf⟩
 exact ⟨z,us,0,r,Heap.get?_push_size _ rfl⟩
end
abbrev Sp:=List V->Hp->VK->XK->Prop
abbrev CXT:=List Env->Hp->Shared->XK->Value->Shared->Prop
structure Env0 (P:Program) (w:World) (K:PySem.W.Frag) (mg:Str->Option Value) (base:Heap) (A:Around) (outer:List Env) (s:Shared) (H:Hp):Prop where
 frames:A.frames=some outer
 mod:Mod K mg base
 bs:∀ b o,base.get? b=some o->s.heap.get? b=some o/\H b=none
 bsz:base.objs.size<=s.heap.objs.size
 funs:s.heap.FunFrames base outer
 frf:∀ b∈frs outer,H b=none
 hok:HOk P w H s.heap
 bare:AllBare s.gens
def CE (outer:List Env) (P:Program) (w:World) (H:Hp) (s:Shared) (Q:VK) (u:Value) (s':Shared):Prop :=
 ∃ v H',s'.os=s.os/\AllBare s'.gens/\Un (frs outer) [] H H' s.heap s'.heap/\HOk P w H' s'.heap/\RelV v u/\Q v H'
def CR (CX:CXT) (outer:List Env) (P:Program) (w:World) (H:Hp) (s:Shared) (Q:VK) (E:XK) (r:Result) (s':Shared):Prop :=
 match r with
 | .ok (.ret u)=>CE outer P w H s Q u s'
 | .ok _=>False
 | .error e=>CX outer H s E e s'
structure FnOk (P:Program) (w:World) (K:PySem.W.Frag) (mg:Str->Option Value) (base:Heap) (CX:CXT) (k:Nat) (f:Addr) (fd:FuncData) (ps:List Str) (sp:Sp):Prop where
 len:∀ vs H Q E,sp vs H Q E->vs.length=ps.length
 run:∀ (A:Around) (outer:List Env) (s:Shared) (H:Hp) (args:Args) (us:List Value) (vs:List V) (Q:VK) (E:XK),Room k A->Env0 P w K mg base A outer s H->BindsTo s fd args (ps.zip us)->Vals vs us->sp vs H Q E ->
  codeAny (model P w) A (.call (.ref f) args) (CR CX outer P w H s Q E) s
theorem FnOk.mono {P:Program}{w:World}{K:PySem.W.Frag}{mg:Str->Option Value}{base:Heap}{CX:CXT}{j k:Nat}{f:Addr}{fd:FuncData}{ps:List Str}{sp:Sp}(F:FnOk P w K mg base CX j f fd ps sp) (h:j<=k) :
  FnOk P w K mg base CX k f fd ps sp:=⟨F.len,fun A outer s H args us vs Q E hr=>F.run A outer s H args us vs Q E (hr.mono h)⟩
theorem FnOk.imp {P:Program}{w:World}{K:PySem.W.Frag}{mg:Str->Option Value}{base:Heap}{CX:CXT}{k:Nat}{f:Addr}{fd:FuncData}{ps:List Str}{sp sp':Sp}(F:FnOk P w K mg base CX k f fd ps sp)
  (h:∀ vs H Q E,sp' vs H Q E->sp vs H Q E):FnOk P w K mg base CX k f fd ps sp' :=
 ⟨fun vs H Q E q=>F.len vs H Q E (h _ _ _ _ q),fun A outer s H args us vs Q E hr he hb hv hs=>F.run A outer s H args us vs Q E hr he hb hv (h _ _ _ _ hs)⟩
theorem Env0.make {P:Program}{w:World}{K:PySem.W.Frag}{mg:Str->Option Value}{base:Heap}{A:Around}{outer:List Env}{s:Shared}{H:Hp}(e:Env0 P w K mg base A outer s H) (C:Addr) (us:List Value) (kw:List (Str×Value)) :
  Env0 P w K mg base (A.under (.builtin "type.__call__" ⟨.ref C::us,kw⟩)) outer s H:=⟨by first|exact e.frames|(simpa [Around.under,Code.envs,Code.isFrame,pushEnvs] using e.frames),e.mod,e.bs,e.bsz,e.funs,e.frf,e.hok,e.bare⟩
section
variable {X:Cx}{pins:List (Addr×Obj)}{σ:St}{H:Hp}{s s':Shared}
theorem Inv.env0 (I:Inv X pins σ H s):Env0 X.prog X.w X.K X.mg X.base X.A X.stack s H :=
 ⟨I.ok.frames,I.ok.mod,I.bs,Nat.le_trans I.ok.bsz I.sz,I.stack,I.stkFree,I.hok,I.bare⟩
theorem Inv.after {Q:VK}{u:Value}(I:Inv X pins σ H s) (h:CE X.stack X.prog X.w H s Q u s'):EP X pins σ Q u s':=by
 obtain ⟨v,H',os,bare,un,hok,r,q⟩:=h
 obtain ⟨hh,g,d,t,os'⟩:=s'
 obtain rfl:os'=s.os:=os
 exact ⟨v,H',I.call (h':=hh) (g':=g) (d':=d) (t':=t) (ch:=[]) un hok bare (fun b z=>absurd z (by simp)),r,q⟩
end
def yFA (sp:Sp) (dvs:List V) (E:XK) (t:TA):TE:=fun σ H Q=>t σ H fun vs H1=>sp (vs++dvs) H1 Q E
noncomputable def yJr (C:Addr) (m:Str) (sp:Sp) (dvs:List V) (E:XK) (ta:TE) (t:TA):TE:=fun σ H Q=>ta σ H fun x H1=>∃ a dx fs,x=.ref a/\H1 a=some (.ins C dx fs)/\fs.lookup m=none /\
 t σ H1 fun vs H2=>sp (x::(vs++dvs)) H2 Q E
noncomputable def yFB (C:Addr) (sp:Sp) (dvs:List V) (E:XK) (t:TA):TE:=fun σ H Q=>t σ H fun vs H1=>∀ x dx,H1 x=none->H1 dx=none->dx≠x ->
 sp (.ref x::(vs++dvs)) (upd (upd H1 dx (.own x)) x (.ins C dx [])) (fun v H2=>v=.non/\Q (.ref x) H2) E
noncomputable def Binds (K:PySem.W.Frag) (fd:FuncData) (ps:List Str) (ds:List Value):Prop :=
 ∀ (s:Shared) (us:List Value),K.In s.heap->(us++ds).length=ps.length->BindsTo s fd ⟨us,[]⟩ (ps.zip (us++ds))
theorem Binds.all {K:PySem.W.Frag}{fd:FuncData}{ps:List Str}(h:∀ us:List Value,us.length=ps.length->bindArgs fd ⟨us,[]⟩=pure (ps.zip us)):Binds K fd ps []:=fun s us _ hl=>by
 rw [append_nil] at hl ⊢
 exact .of_eq (h us hl)
noncomputable def ynm (CX:CXT) (X:Cx) (E:XK):Prop:=∀ (pins:List (Addr×Obj)) (σ:St) (H:Hp) (s:Shared) (e:Value) (s':Shared),Inv X pins σ H s->CX X.stack H s E e s'->X.xe e s'
section
variable {X:Cx}{CX:CXT}{k:Nat}{f C:Addr}{fd:FuncData}{ps:List Str}{sp:Sp}{dvs:List V}{ds:List Value}{E:XK}{x m:Str}{p pos apos:Pos}{e o:Expr}{es:List Expr}{ta:TE}{t:TA}
theorem yvN {pins:List (Addr×Obj)}{σ:St}{H:Hp}{s:Shared}{Q:VK}{us:List Value}{vs:List V}(F:FnOk X.prog X.w X.K X.mg X.base CX k f fd ps sp) (hr:Room k X.A) (hb:Binds X.K fd ps ds) (hd:Vals dvs ds) (hx:ynm CX X E)
  (I:Inv X pins σ H s) (r:Vals vs us) (h:sp (vs++dvs) H Q E):wpAny (model X.prog X.w) X.A (call (.ref f) us) (EP X pins σ Q) X.xe s:=by
 have r2:Vals (vs++dvs) (us++ds):=r.append hd
 have hl:(us++ds).length=ps.length:=by rw [<- r2.length];exact F.len _ _ _ _ h
 refine wpAny_call (codeAny_mono (F.run X.A X.stack s H ⟨us,[]⟩ (us++ds) (vs++dvs) Q E hr I.env0 (hb s us I.kIn hl) r2 h) fun r s' hq=>?_)
 cases r with
 | error e=>exact hx pins σ H s e s' I hq
 | ok fl =>
  cases fl with
  | ret u=>exact I.after hq
  | next=>exact False.elim hq
  | brk=>exact False.elim hq
  | cont=>exact False.elim hq
theorem yJs (F:FnOk X.prog X.w X.K X.mg X.base CX k f fd ps sp) (hr:Room k X.A) (hg:Gl X x) (hm:X.mg x=some (.ref f)) (hk:keepIn X.K (.ref f)=true) (hb:Binds X.K fd ps ds) (hd:Vals dvs ds) (hx:ynm CX X E)
  (ha:PA X (e::es) t) (hdb:(x == ("__debug__":Str))=false:=by decide) (he:starEach (e::es) X.env=(false,eval e X.env)::starEach es X.env:=by rfl) (hpl:(backTo pos (starEach es X.env)).any (·.1)=false:=by rfl) :
  PE X (.Call (.Name x p) (e::es) [] pos) (yFA sp dvs E t):=by
 intro pins s σ H Q I h
 refine wpAny_Call_Name_kw (yqz I hg hm ?_ hdb)
 refine PySem.W.callWith_K (h₀:=X.base) I.ok.mod.kin hk (thn (ha pos pins s σ H _ I h) fun us s1 ⟨vs,H1,I1,r,q⟩=>⟨I1.kIn,?_⟩) he hpl
 exact yvN F hr hb hd hx I1 r q
theorem yJt {pl:Sem Bool}(he:PE X o ta) (c:Cls X.K C) (hm:ybj X.K C m f) (F:FnOk X.prog X.w X.K X.mg X.base CX k f fd ps sp) (hr:Room k X.A) (hb:Binds X.K fd ps ds) (hd:Vals dvs ds) (hx:ynm CX X E) (ha:PA X (e::es) t)
  (hst:starEach (e::es) X.env=(false,eval e X.env)::starEach es X.env:=by rfl) (hpl:(backTo pos (starEach es X.env)).any (·.1)=false:=by rfl)
  (ht:eval (.Call (.Attribute o m apos) (e::es) [] pos) X.env=(do
   let ov <- eval o X.env
   standAt apos.atName
   let (f,first) <- holding [ov] (getMethod ov m pl)
   callWith pos f first (backTo pos (starEach (e::es) X.env)) (backToKw pos (keywordEach [] X.env))):=by rfl) :
  PE X (.Call (.Attribute o m apos) (e::es) [] pos) (yJr C m sp dvs E ta t):=by
 intro pins s σ H Q I h
 refine PySem.W.methodCall_KW (pl:=pl) (thn (he pins s σ H _ I h) fun u s1 ⟨x,H1,I1,rx,a,dx,fs,ex,ea,l,q⟩=>?_) ht
 subst ex
 obtain rfl:u=Value.ref a:=rx
 refine yos I1 ea c hm l ?_
 refine PySem.W.callWith_K (first:=[.ref a]) (h₀:=X.base) I.ok.mod.kin hm.kp (thn (ha pos pins s1 σ H1 _ I1 q) fun us s2 ⟨vs,H2,I2,r,q2⟩=>⟨I2.kIn,?_⟩) hst hpl
 exact yvN (us:=.ref a::us) (vs:=.ref a::vs) F hr hb hd hx I2 (.cons rfl r) q2
theorem yFC {pl:Sem Bool}(he:PE X o ta) (c:Cls X.K C) (hm:ybj X.K C m f) (F:FnOk X.prog X.w X.K X.mg X.base CX k f fd ps sp) (hr:Room k X.A) (hb:Binds X.K fd ps ds) (hd:Vals dvs ds) (hx:ynm CX X E)
  (ht:eval (.Call (.Attribute o m apos) [] [] pos) X.env=(do
   let ov <- eval o X.env
   standAt apos.atName
   let (f,first) <- holding [ov] (getMethod ov m pl)
   callWith pos f first (backTo pos (starEach [] X.env)) (backToKw pos (keywordEach [] X.env))):=by rfl) :
  PE X (.Call (.Attribute o m apos) [] [] pos) (yJr C m sp dvs E ta yFz):=by
 intro pins s σ H Q I h
 refine PySem.W.methodCall_KW (pl:=pl) (thn (he pins s σ H _ I h) fun u s1 ⟨x,H1,I1,rx,a,dx,fs,ex,ea,l,q⟩=>?_) ht
 subst ex
 obtain rfl:u=Value.ref a:=rx
 refine yos I1 ea c hm l ?_
 exact PySem.W.callWith_K0 (first:=[.ref a]) I1.kIn hm.kp (yvN (us:=[.ref a]) (vs:=[.ref a]) F hr hb hd hx I1 (.cons rfl .nil) q)
structure Mk (K:PySem.W.Frag) (C f:Addr):Prop where
 makes:makesIn K C=true
 init:findIn K (.ref C) "__init__" = some (some (.ref f))
 fn:isFn K (.ref f)=true
 kp:keepIn K (.ref C)=true
theorem yzI {pins:List (Addr×Obj)}{σ:St}{H:Hp}{s:Shared}{Q:VK}{us:List Value}{vs:List V}(M:Mk X.K C f) (F:FnOk X.prog X.w X.K X.mg X.base CX k f fd ps sp) (hr:Room (k+1) X.A) (hb:Binds X.K fd ps ds) (hd:Vals dvs ds)
  (hx:ynm CX X E) (I:Inv X pins σ H s) (r:Vals vs us)
  (h:∀ x dx,H x=none->H dx=none->dx≠x->sp (.ref x::(vs++dvs)) (upd (upd H dx (.own x)) x (.ins C dx [])) (fun v H2=>v=.non/\Q (.ref x) H2) E) :
  wpAny (model X.prog X.w) X.A (call (.ref C) us) (EP X pins σ Q) X.xe s:=by
 have hq:=h (s.heap.objs.size+1) s.heap.objs.size (I.hok.fresh (Nat.le_succ _)) (I.hok.fresh (Nat.le_refl _)) (ne_of_lt (Nat.lt_succ_self _))
 have I2:=Inv.made (C:=C) I
 have r2:Vals (V.ref (s.heap.objs.size+1)::(vs++dvs)) (Value.ref (s.heap.objs.size+1)::(us++ds)):=.cons rfl (r.append hd)
 have hl:(Value.ref (s.heap.objs.size+1)::us++ds).length=ps.length:=by
  have e:=r2.length
  rw [F.len _ _ _ _ hq] at e
  exact e.symm
 refine wpAny_call (yFy (f:=f) I.kIn M.makes M.init (beq_iff_eq.mp M.fn) (codeAny_mono (F.run _ X.stack _ _ ⟨Value.ref (s.heap.objs.size+1)::us,[]⟩ (Value.ref (s.heap.objs.size+1)::(us++ds)) _ _ E (hr.make C us [])
  (I2.env0.make C us []) (hb _ (Value.ref (s.heap.objs.size+1)::us) I2.kIn hl) r2 hq) fun r s' hq'=>?_))
 cases r with
 | error e=>exact hx pins σ _ _ e s' I2 hq'
 | ok fl =>
  cases fl with
  | ret u =>
   obtain ⟨v,H',I3,rv,ev,q3⟩:=I2.after hq'
   subst ev
   exact ⟨rv,⟨V.ref (s.heap.objs.size+1),H',I3,rfl,q3⟩⟩
  | next=>exact False.elim hq'
  | brk=>exact False.elim hq'
  | cont=>exact False.elim hq'
theorem yCv (M:Mk X.K C f) (F:FnOk X.prog X.w X.K X.mg X.base CX k f fd ps sp) (hr:Room (k+1) X.A) (hg:Gl X x) (hm:X.mg x=some (.ref C)) (hb:Binds X.K fd ps ds) (hd:Vals dvs ds) (hx:ynm CX X E)
  (ha:PA X (e::es) t) (hdb:(x == ("__debug__":Str))=false:=by decide) (he:starEach (e::es) X.env=(false,eval e X.env)::starEach es X.env:=by rfl) (hpl:(backTo pos (starEach es X.env)).any (·.1)=false:=by rfl) :
  PE X (.Call (.Name x p) (e::es) [] pos) (yFB C sp dvs E t):=by
 intro pins s σ H Q I h
 refine wpAny_Call_Name_kw (yqz I hg hm ?_ hdb)
 refine PySem.W.callWith_K (h₀:=X.base) I.ok.mod.kin M.kp (thn (ha pos pins s σ H _ I h) fun us s1 ⟨vs,H1,I1,r,q⟩=>⟨I1.kIn,?_⟩) he hpl
 exact yzI M F hr hb hd hx I1 r q
theorem yFD (M:Mk X.K C f) (F:FnOk X.prog X.w X.K X.mg X.base CX k f fd ps sp) (hr:Room (k+1) X.A) (hg:Gl X x) (hm:X.mg x=some (.ref C)) (hb:Binds X.K fd ps ds) (hd:Vals dvs ds) (hx:ynm CX X E)
  (hdb:(x == ("__debug__":Str))=false:=by decide):PE X (.Call (.Name x p) [] [] pos) (yFB C sp dvs E yFz):=by
 intro pins s σ H Q I h
 refine wpAny_Call_Name_kw (yqz I hg hm ?_ hdb)
 exact PySem.W.callWith_K0 I.kIn M.kp (yzI (us:=[]) M F hr hb hd hx I .nil h)
end
section
variable {X:Cx}{CX:CXT}{k:Nat}{f C:Addr}{fd:FuncData}{ps ks:List Str}{sp:Sp}{E:XK}{x m:Str}{p pos apos kpos:Pos}{e o:Expr}{es:List Expr}{kws:List Keyword}{te ta:TE}{t tk:TA}{nm:Option Str}
variable {g:List Value->List Value->List Value}{gV:List V->List V->List V}
end
structure yi (N P:List Str) (sc:Scope):Prop where
 kind:sc.kind=.function
 co:sc.isCoroutine=false
 gen:sc.isGenerator=false
 nd:N.Nodup
 pre:N.take P.length=P
 par:∀ x∈P,sc.names.lookup x=some .local \/ sc.names.lookup x=some .cell
 nofree:∀ y∈sc.names,y.2≠.free
theorem yvO {kindOf:Str->Option NameKind}{x:Str}:∀ {binds:List (Str×Value)}{m:Str->Option Value},(∀ v,(x,v)∉binds)->bindL kindOf binds m x=m x
 | [],_,_=>rfl
 | (n,v)::r,m,h=>by
  unfold bindL
  rw [yvO fun w hw=>h w (mem_cons_of_mem _ hw)]
  split
  .have:x≠n:=by rintro rfl;exact h v mem_cons_self
   simp [this]
  .rfl
theorem yvP {kindOf:Str->Option NameKind}{x:Str}:∀ {binds:List (Str×Value)}{m:Str->Option Value},(∀ v,(x,v)∉binds)->bindC kindOf binds m x=m x
 | [],_,_=>rfl
 | (n,v)::r,m,h=>by
  unfold bindC
  rw [yvP fun w hw=>h w (mem_cons_of_mem _ hw)]
  split
  .rfl
  .have:x≠n:=by rintro rfl;exact h v mem_cons_self
   simp [this]
theorem yvQ {kindOf:Str->Option NameKind}{x:Str}{v:Value}:∀ {P:List Str}{vs:List Value}{i:Nat}{m:Str->Option Value},P.Nodup->P[i]?=some x->vs[i]?=some v->kindOf x=some .local ->
  bindL kindOf (P.zip vs) m x=some v
 | [],_,_,_,_,h,_,_=>by simp at h
 | _::_,[],_,_,_,_,h,_=>by simp at h
 | p::P,w::vs,0,m,nd,h1,h2,hk=>by
  simp at h1 h2;subst h1;subst h2
  show bindL kindOf ((p,w)::P.zip vs) m p=_
  unfold bindL
  rw [yvO fun v hv=>(List.nodup_cons.mp nd).1 (of_mem_zip hv).1,if_pos hk]
  simp
 | p::P,w::vs,i+1,m,nd,h1,h2,hk=>by
  show bindL kindOf ((p,w)::P.zip vs) m x=_
  unfold bindL
  exact yvQ (i:=i) (List.nodup_cons.mp nd).2 (by simpa using h1) (by simpa using h2) hk
theorem yvR {kindOf:Str->Option NameKind}{x:Str}{v:Value}:∀ {P:List Str}{vs:List Value}{i:Nat}{m:Str->Option Value},P.Nodup->P[i]?=some x->vs[i]?=some v->kindOf x≠some .local ->
  bindC kindOf (P.zip vs) m x=some v
 | [],_,_,_,_,h,_,_=>by simp at h
 | _::_,[],_,_,_,_,h,_=>by simp at h
 | p::P,w::vs,0,m,nd,h1,h2,hk=>by
  simp at h1 h2;subst h1;subst h2
  show bindC kindOf ((p,w)::P.zip vs) m p=_
  unfold bindC
  rw [yvP fun v hv=>(List.nodup_cons.mp nd).1 (of_mem_zip hv).1,if_neg hk]
  simp
 | p::P,w::vs,i+1,m,nd,h1,h2,hk=>by
  show bindC kindOf ((p,w)::P.zip vs) m x=_
  unfold bindC
  exact yvR (i:=i) (List.nodup_cons.mp nd).2 (by simpa using h1) (by simpa using h2) hk
def start (N:List Str) (vs:List V):St:=vs.map some++replicate (N.length-vs.length) none
noncomputable def yFE (CX:CXT) (P:Program) (w:World) (K:PySem.W.Frag) (mg:Str->Option Value) (base:Heap) (N:List Str) (qual:Str) (scope:Scope) (f:Addr) (cd:Value) (A:Around) (outer:List Env) (s:Shared) (H:Hp) (E:XK):Cx where
 prog:=P
 w:=w
 K:=K
 mg:=mg
 base:=base
 A:=A.deeper (envOfC qual scope s.heap.objs.size f cd)
 N:=N
 s₀:=s
 H₀:=H
 env:=envOfC qual scope s.heap.objs.size f cd
 outer:=outer
 stack:=envOfC qual scope s.heap.objs.size f cd::outer
 ex:=[]
 calm:=true
 fn:=fun _=>true
 pn:=[]
 xe:=fun e s'=>wpAny (model P w) (A.deeper (envOfC qual scope s.heap.objs.size f cd)) (leaving (envOfC qual scope s.heap.objs.size f cd) e) (fun _ s''=>CX outer H s E e s'') (fun e' s''=>CX outer H s E e' s'') s'
theorem yzJ {sc:Scope}{n:Nat}{x:Str}(h:sc.names.lookup x=some .cell):∃ c,(cellsFrom n sc.names []).lookup x=some c:=by
 have q:=PySem.W.cellsFrom_some sc.names n [] (.inl h)
 exact Option.isSome_iff_exists.mp q
theorem yCw {CX:CXT}{P:Program}{w:World}{K:PySem.W.Frag}{mg:Str->Option Value}{base:Heap}{N ps:List Str}{qual:Str}{scope:Scope}{f:Addr}{cd:Value}{A:Around}{outer:List Env}{s s1:Shared}{H:Hp}{E:XK}{us:List Value}{vs:List V}
  (S:yi N ps scope) (hd:A.handled=none) (e0:Env0 P w K mg base A outer s H) (hl:vs.length=ps.length) (r:Vals vs us)
  (x:InCallC s s.heap.objs.size (bindL (envOfC qual scope s.heap.objs.size f cd).kindOf (ps.zip us) fun _=>none) (cellsFrom (s.heap.objs.size+1) scope.names []) (bindC (envOfC qual scope s.heap.objs.size f cd).kindOf (ps.zip us) fun _=>none) s1) :
  Inv (yFE CX P w K mg base N qual scope f cd A outer s H E) [] (start N vs) H s1:=by
 have hpl:ps.length<=N.length:=by have:=congrArg length S.pre;rw [length_take] at this;omega
 obtain ⟨h1,tk,rfl,hk⟩:=x.done
 have noA:∀ b:Addr,b∉(yFE CX P w K mg base N qual scope f cd A outer s H E).ex:=fun b z=>absurd (show b∈([]:List Addr) from z) (by simp)
 refine ⟨⟨e0.mod,S.kind,rfl,rfl,Nat.le_refl _,fun y z c h1 h2=>?_,fun y hy=>?_,fun y c _ h=>?_,fun _=>hd,Around.frames_deeper e0.frames,.inr ⟨rfl,rfl⟩,fun b z=>absurd z (noA b),e0.bs,e0.bsz,fun b _ _=>noA b,fun b z=>absurd z (noA b),e0.funs,e0.frf⟩,
  rfl,e0.bare,Un.kept hk,⟨_,x.toInCall.ns,fun i y v h1 h2 h3=>?_⟩,fun y c h=>⟨_,x.cell y c h⟩,e0.hok.fresh (Nat.le_refl _),fun y c h=>?_,fun p hp=>absurd (show p∈([]:List (Addr×Obj)) from hp) (by simp),e0.hok.kept hk,?_⟩
 .exact name_of_addr x.apart (PySem.mem_of_lookup h1) (PySem.mem_of_lookup h2)
 .have hy:scope.names.lookup y=some .cell\/scope.names.lookup y=some .free:=hy
  rcases hy with hy|hy
  .exact yzJ hy
  .exact absurd rfl (S.nofree _ (PySem.mem_of_lookup hy))
 .exact le_of_lt (x.above y c (PySem.mem_of_lookup h))
 .have hi:i<vs.length:=by
   unfold start at h2
   by_cases hi:i<vs.length
   .exact hi
   .rw [getElem?_append_right (by simpa using hi)] at h2
    rw [getElem?_replicate] at h2
    split at h2<;>cases h2
  have ha:vs[i]?=some v:=by
   unfold start at h2
   rw [getElem?_append_left (by simpa using hi),getElem?_map] at h2
   cases e:vs[i]? with
   | none=>rw [e] at h2;cases h2
   | some a=>rw [e] at h2;cases h2;rfl
  obtain ⟨u,hu,rv⟩:=r.get ha
  have hp:ps[i]?=some y:=by
   rw [<- S.pre,List.getElem?_take_of_lt (by omega)];exact h1
  have ndP:ps.Nodup:=by rw [<- S.pre];exact S.nd.sublist (List.take_sublist _ _)
  refine ⟨u,rv,?_⟩
  rcases S.par y (mem_of_getElem? hp) with k|k
  .exact .inl ⟨k,yvQ ndP hp hu k⟩
  .obtain ⟨c,e⟩:=yzJ (n:=s.heap.objs.size+1) k
   refine .inr ⟨.inl k,c,e,?_⟩
   have q:=x.cell y c e
   rw [yvR ndP hp hu (by show scope.names.lookup y≠_;rw [k];decide)] at q
   exact q
 .exact e0.hok.fresh (le_of_lt (x.above y c (PySem.mem_of_lookup h)))
 .unfold start
  show _=N.length
  rw [length_append,length_map,List.length_replicate]
  omega
theorem yOQ {CX:CXT}{P:Program}{w:World}{K:PySem.W.Frag}{mg:Str->Option Value}{base:Heap}{k:Nat}{f:Addr}{name qual:Str}{params:Arguments}{body:List Stmt}{scope:Scope}{dV kV doc pm cdv ct oc:Value}{an od:Option Addr}
  {osl:Array (Option Value)}{N ps:List Str}{sp:Sp}(lk:K.lookup f=some ⟨oc,od,.func (fnOf name qual params body scope dV kV doc pm an cdv ct),osl⟩) (hcd:codeIn K cdv qual=true) (S:yi N ps scope)
  (len:∀ vs H Q E,sp vs H Q E->vs.length=ps.length)
  (hbody:∀ (A:Around) (outer:List Env) (s:Shared) (H:Hp) (vs:List V) (Q:VK) (E:XK),Room k (A.deeper (envOfC qual scope s.heap.objs.size f cdv))->sp vs H Q E ->
   ∃ t,PSs (yFE CX P w K mg base N qual scope f cdv A outer s H E) body t/\t { nx:=fun _ H'=>Q .non H',rt:=Q } (start N vs) H) :
  FnOk P w K mg base CX (k+1) f (fnOf name qual params body scope dV kV doc pm an cdv ct) ps sp:=by
 refine ⟨len,fun A outer s H args us vs Q E hr e0 hb r hsp=>?_⟩
 have hl:=len _ _ _ _ hsp
 have KX:K.In s.heap:=e0.mod.kin.keeps fun b o e=>(e0.bs b o e).1
 have lim:s.heap.NoLimit:=e0.mod.nolimit.keeps fun b o e=>(e0.bs b o e).1
 have hkind:∀ y∈ps.zip us,scope.names.lookup y.1=some .local \/ (scope.names.lookup y.1=some .cell/\((cellsFrom (s.heap.objs.size+1) scope.names []).lookup y.1).isSome=true):=fun ⟨n,v⟩ hy=>by
  rcases S.par n (of_mem_zip hy).1 with q|q
  .exact .inl q
  .exact .inr ⟨q,PySem.W.cellsFrom_some _ _ _ (.inl q)⟩
 refine codeAny_call_function hr.depth (KX _ _ lk) rfl S.co S.gen rfl (PySem.W.codeRec_of KX hcd) (hb _ _ _ _ ?_)
 refine wpAny_newFunctionEnv_cells S.kind hkind fun env he s1 x=>?_
 subst he
 refine ⟨lim.keeps x.toInCall.keep,codeAny_func ?_⟩
 obtain ⟨t,ht,hq⟩:=hbody A outer s H vs Q E (hr.deeper _) hsp
 have I:Inv (yFE CX P w K mg base N qual scope f cdv A outer s H E) [] (start N vs) H s1:=yCw S hr.hd e0 hl r x
 refine wpAny_mono (ht [] s1 (start N vs) H _ I hq) (fun fl s' hs=>?_) fun e s' hs=>hs
 have fin:∀ {σ':St}{H':Hp}{v:V}{u:Value},Inv (yFE CX P w K mg base N qual scope f cdv A outer s H E) [] σ' H' s'->RelV v u->Q v H'->CE outer P w H s Q u s' :=
  fun {σ' H' v u} J rv q=>⟨v,H',J.os,J.bare,J.base,J.hok,rv,q⟩
 cases fl with
 | ret u =>
  obtain ⟨v,σ',H',J,rv,q⟩:=hs
  exact fin J rv q
 | next =>
  obtain ⟨σ',H',J,q⟩:=hs
  exact fin (v:=V.non) (u:=Value.none) J rfl q
 | brk =>
  obtain ⟨_,_,_,q⟩:=hs
  exact False.elim q
 | cont =>
  obtain ⟨_,_,_,q⟩:=hs
  exact False.elim q
end L2
namespace L2
open PySem PySem.Spec PyProof.Rows
section
variable {X:Cx}{x:Str}{p pos:Pos}{e:Expr}{es:List Expr}{t:TA}{id T:String}{r:List V->Hp->VK->Prop}
def tCB (r:List V->Hp->VK->Prop) (t:TA):TE:=fun σ H Q=>t σ H fun vs H1=>r vs H1 Q
theorem yun (hc:ylQ X (.builtin id) r) (hg:Gl X x) (hm:X.mg x=none) (hv:bootBuiltins x=some (.builtin id)) (ha:PA X (e::es) t) (hn:x≠"__name__":=by decide) (hdb:(x == ("__debug__":Str))=false:=by decide)
  (he:starEach (e::es) X.env=(false,eval e X.env)::starEach es X.env:=by rfl) (hpl:(backTo pos (starEach es X.env)).any (·.1)=false:=by rfl):PE X (.Call (.Name x p) (e::es) [] pos) (tCB r t):=by
 intro pins s σ H Q I h
 refine wpAny_Call_Name_kw (yzE I hg hm hv ?_ hn hdb)
 exact PyProof.Rows.callWith_builtin1 (thn (ha pos pins s σ H _ I h) fun us s1 ⟨vs,H1,I1,r1,q1⟩=>hc pins s1 σ H1 vs us Q I1 r1 q1) he hpl
theorem yvS (hc:ylQ X (.type T) r) (hg:Gl X x) (hm:X.mg x=none) (hv:bootBuiltins x=some (.type T)) (ha:PA X (e::es) t) (hn:x≠"__name__":=by decide) (hdb:(x == ("__debug__":Str))=false:=by decide)
  (he:starEach (e::es) X.env=(false,eval e X.env)::starEach es X.env:=by rfl) (hpl:(backTo pos (starEach es X.env)).any (·.1)=false:=by rfl):PE X (.Call (.Name x p) (e::es) [] pos) (tCB r t):=by
 intro pins s σ H Q I h
 refine wpAny_Call_Name_kw (yzE I hg hm hv ?_ hn hdb)
 exact PyProof.Rows.callWith_type1 (thn (ha pos pins s σ H _ I h) fun us s1 ⟨vs,H1,I1,r1,q1⟩=>hc pins s1 σ H1 vs us Q I1 r1 q1) he hpl
end
end L2
namespace HT
open PySem PyProof.Rows
section
open PySem.SeqAt
open PySem.AutoSeq1 (wpAny_loadPart')
open PySem.MeetsSeq PySem.MeetsSeq2 PySem.MeetsSeq3
end
section
variable {prog:Program}{w:World}{A:Around}{E:Value->Shared->Prop}{s:Shared}
def sIx (n d:Nat):Option Int->Nat
 | none=>d
 | some v=>if v<0 then (v+(n:Int)).toNat else min v.toNat n
theorem sIx_nat (n d k:Nat):sIx n d (some (k:Int))=min k n:=by
 show (if (k:Int)<0 then ((k:Int)+(n:Int)).toNat else min (k:Int).toNat n)=min k n
 rw [if_neg (by omega),Int.toNat_natCast]
end
end HT
namespace L2
open PySem PySem.Spec PyProof.Rows
abbrev TO:=St->Hp->(Option Int->Hp->Prop)->Prop
noncomputable def PO (X:Cx) (e:Option Expr) (t:TO):Prop :=
 ∀ (pins:List (Addr×Obj)) (s:Shared) (σ:St) (H:Hp) (Q:Option Int->Hp->Prop),Inv X pins σ H s->t σ H Q ->
  wpAny (model X.prog X.w) X.A (evalPart e X.env) (fun u s'=>∃ o H',Inv X pins σ H' s'/\IsPart u o/\Q o H') X.xe s
def yCx:TO:=fun _ H Q=>Q none H
def yMq (t:TE):TO:=fun σ H Q=>t σ H fun x H1=>∃ i,x=.int i/\Q (some i) H1
theorem intsAre_of {ns:List Int}:∀ {us:List Value},Vals (ns.map V.int) us->IntsAre us ns:=by
 induction ns with
 | nil=>intro us r;rw [map_nil] at r;cases r;exact .nil
 | cons n ns ih =>
  intro us r
  rw [map_cons] at r
  cases r with
  | cons r1 r2 =>
   obtain ⟨t,e⟩:=r1
   subst e
   exact .cons n t (ih r2)
section
variable {X:Cx}{e:Expr}{te:TE}{lo hi:Option Expr}{tl th:TO}{pos p2:Pos}
theorem yJu:PO X none yCx:=by
 intro pins s σ H Q I h
 rw [evalPart_none]
 exact wpAny_pure ⟨none,H,I,.none,h⟩
theorem yJv (h:PE X e te):PO X (some e) (yMq te):=by
 intro pins s σ H Q I hw
 rw [evalPart_some]
 refine thn (h pins s σ H _ I hw) fun u s1 ⟨x,H1,I1,r1,q1⟩=>?_
 obtain ⟨i,rfl,q⟩:=q1
 obtain ⟨t,rfl⟩:=r1
 exact ⟨some i,H1,I1,.int i t,q⟩
def SlR (X:Cx) (r:V->Option Int->Option Int->Hp->VK->Prop):Prop :=
 ∀ (pins:List (Addr×Obj)) (s:Shared) (σ:St) (H:Hp) (x:V) (v vl vu:Value) (lo hi:Option Int) (sl:Addr) (Q:VK),Inv X pins σ H s->RelV x v->s.heap.IsSliceOf sl vl vu .none->IsPart vl lo->IsPart vu hi->r x lo hi H Q ->
  ∃ T id,typeLookup (.type T) "__getitem__" = pure (some (.builtin id))/\s.TypeIs v T/\wpAny (model X.prog X.w) X.A (getItem v (.ref sl)) (EP X pins σ Q) X.xe s
noncomputable def tSl (r:V->Option Int->Option Int->Hp->VK->Prop) (te:TE) (tl th:TO):TE:=fun σ H Q=>te σ H fun x H1=>tl σ H1 fun l H2=>th σ H2 fun u H3=>r x l u H3 Q
theorem yFF {r:V->Option Int->Option Int->Hp->VK->Prop}(hr:SlR X r) (he:PE X e te) (hl:PO X lo tl) (hu:PO X hi th):PE X (.Subscript e (.Slice lo hi none p2) pos) (tSl r te tl th):=by
 intro pins s σ H Q I h
 refine Subscript_ (thn (he pins s σ H _ I h) fun v s1 ⟨x,H1,I1,r1,q1⟩=>?_)
 refine wpAny_Slice (thn (hl pins s1 σ H1 _ I1 q1) fun vl s2 ⟨l,H2,I2,pl,q2⟩=>thn (hu pins s2 σ H2 _ I2 q2) fun vu s3 ⟨u,H3,I3,pu,q3⟩=>?_)
 rw [evalPart_none]
 refine wpAny_pure ?_
 have I4:Inv X pins σ H3 { s3 with heap:=s3.heap.push { cls:=.type "slice",data:=.fields #[vl,vu,.none] } }:=I3.kept (t':=s3.toks) fun b ob q=>Heap.get?_push_of_some _ q
 obtain ⟨T,id,hT,ht,hg⟩:=hr pins { s3 with heap:=s3.heap.push { cls:=.type "slice",data:=.fields #[vl,vu,.none] } } σ H3 x v vl vu l u s3.heap.objs.size Q I4 r1 (Heap.IsSliceOf.new ..) pl pu q3
 show wpAny (model X.prog X.w) X.A (subscriptTail e (.Slice lo hi none p2) v (.ref s3.heap.objs.size)) (EP X pins σ Q) X.xe { s3 with heap:=s3.heap.push { cls:=.type "slice",data:=.fields #[vl,vu,.none] } }
 exact tail_any (ops:=[.ref s3.heap.objs.size,v]) ht hT hg (by with_unfolding_all rfl)
noncomputable def yMr (xs:List V) (lo hi:Option Int):List V:=(xs.drop (HT.sIx xs.length 0 lo)).take (HT.sIx xs.length xs.length hi-HT.sIx xs.length 0 lo)
theorem yyb (xs:List V) (lo hi:Option Int):(yMr xs lo hi).length<=xs.length:=by
 unfold yMr
 rw [length_take,length_drop]
 omega
end
end L2
namespace L2
open PySem PySem.Spec PyProof.Rows
noncomputable def ixN (n:Nat) (i:Int):Option Nat:=if 0<=i then (if i<n then some i.toNat else none) else if -(n:Int)<=i then some (i+n).toNat else none
def atI {α:Type}(xs:List α) (i:Int):Option α:=(ixN xs.length i).bind fun j=>xs[j]?
theorem yCy {n:Nat}{i:Int}{j:Nat}(h:ixN n i=some j):seqIndex? i n=some j/\j<n/\-(n:Int)<=i/\i<n:=by
 unfold ixN at h
 by_cases h0:0<=i
 .rw [if_pos h0] at h
  by_cases h1:i<n
  .rw [if_pos h1] at h
   have e:i.toNat=j:=Option.some.inj h
   exact ⟨by rw [seqIndex_of h0 h1,e],by omega,by omega,h1⟩
  .rw [if_neg h1] at h;cases h
 .rw [if_neg h0] at h
  by_cases h1:-(n:Int)<=i
  .rw [if_pos h1] at h
   have e:(i+n).toNat=j:=Option.some.inj h
   exact ⟨by rw [seqIndex_neg (by omega) h1,e],by omega,h1,by omega⟩
  .rw [if_neg h1] at h;cases h
theorem yyc {α:Type}{xs:List α}{i:Int}{v:α}(h:atI xs i=some v):∃ j,seqIndex? i xs.length=some j/\xs[j]?=some v/\j<xs.length/\-(xs.length:Int)<=i/\i<xs.length:=by
 unfold atI at h
 cases e:ixN xs.length i with
 | none=>rw [e] at h;cases h
 | some j =>
  rw [e] at h
  obtain ⟨h1,h2,h3,h4⟩:=yCy e
  exact ⟨j,h1,h,h2,h3,h4⟩
theorem ydL {α:Type}{xs:List α}{j:Nat}{v:α}(h:xs[j]?=some v):atI xs (j:Int)=some v:=by
 have hj:j<xs.length:=(List.getElem?_eq_some_iff.mp h).1
 have e:ixN xs.length (j:Int)=some j:=by
  unfold ixN
  rw [if_pos (by omega),if_pos (by omega)];simp
 unfold atI;rw [e];exact h
def yCz (b:Expr):Prop:=∀ o i,subscripted b false o i=operate [o,i] (getItem o i)
def IxR (X:Cx) (r:R2):Prop :=
 ∀ (value slice:Expr) (pins:List (Addr×Obj)) (s:Shared) (σ:St) (H:Hp) (x y:V) (v u:Value) (Q:VK),Inv X pins σ H s->RelV x v->RelV y u->r x y H Q ->
  subscripted slice false v u=operate [v,u] (getItem v u)->wpAny (model X.prog X.w) X.A (subscriptTail value slice v u) (EP X pins σ Q) X.xe s
def MtR (X:Cx) (id:String) (r:V->List V->Hp->VK->Prop):Prop :=
 ∀ (pins:List (Addr×Obj)) (s:Shared) (σ:St) (H:Hp) (x:V) (xs:List V) (v:Value) (us:List Value) (Q:VK),Inv X pins σ H s->RelV x v->Vals xs us->r x xs H Q ->
  wpAny (model X.prog X.w) X.A (call (.builtin id) (v::us)) (EP X pins σ Q) X.xe s
section
variable {X:Cx}{a b:Expr}{ta tb:TE}{pos:Pos}
theorem yOR {r:R2}(hr:IxR X r) (ha:PE X a ta) (hb:PE X b tb) (hs:yCz b):PE X (.Subscript a b pos) (tOp r ta tb):=by
 intro pins s σ H Q I h
 exact Subscript_ (yOL ha hb I h fun v u s2 x y H2 I2 rx ry q=>hr a b pins s2 σ H2 x y v u Q I2 rx ry q (hs _ _))
def yRp (K:PySem.W.Frag):R2:=fun x y H Q=>∃ p xs i v,x=.ref p/\y=.int i/\SqL K H p xs/\atI xs i=some v/\Q v H
def yRq (K:PySem.W.Frag):R2:=fun x y H Q=>∃ p xs i v,x=.ref p/\y=.int i/\SqT K H p xs/\atI xs i=some v/\Q v H
def yRr:R2:=fun x y H Q=>∃ z i c,x=.str z/\y=.int i/\z.length<=sizeLine/\atI z.cps.toList i=some c/\Q (.str ⟨#[c]⟩) H
theorem yX:IxR X (yRp X.K):=by
 intro value slice pins s σ H x y v u Q I rx ry h hs
 obtain ⟨p,xs,i,z,rfl,rfl,hq,he,q⟩:=h
 cases rx
 obtain ⟨t,rfl⟩:=ry
 obtain ⟨its,r,pl,hz⟩:=I.list hq
 obtain ⟨j,h1,h2,h3,h4,h5⟩:=yyc he
 obtain ⟨w,ew,rw'⟩:=r.get h2
 have hl:=r.length
 have hn:=ytw
 have fin:EP X pins σ Q w s:=⟨z,H,I,rw',q⟩
 by_cases h0:0<=i
 .have hj:i.toNat=j:=by
   rw [seqIndex_of h0 h5] at h1
   exact Option.some.inj h1
  exact item_listR pl.isList h0 (by omega) (by rw [hj];simpa using ew) fin hs
 .have hj:(i+(its.toArray.size:Int)).toNat=j:=by
   rw [seqIndex_neg (by omega) h4] at h1
   rw [size_toArray,<- hl]
   exact Option.some.inj h1
  exact subscriptTail_builtinR (x:=w) pl.isList.typeIs slot_list_getitem.lookup
   (wpAny_getItem_list_neg (Q:=fun r s'=>r=w/\EP X pins σ Q r s') pl.isList (by omega) (by rw [size_toArray]<;>omega) (by omega) (by rw [hj];simpa using ew) ⟨rfl,fin⟩) hs
theorem yB:IxR X (yRq X.K):=by
 intro value slice pins s σ H x y v u Q I rx ry h hs
 obtain ⟨p,xs,i,z,rfl,rfl,hq,he,q⟩:=h
 cases rx
 obtain ⟨t,rfl⟩:=ry
 obtain ⟨its,r,pl,hz⟩:=I.tuple hq
 obtain ⟨j,h1,h2,h3,h4,h5⟩:=yyc he
 obtain ⟨w,ew,rw'⟩:=r.get h2
 have hl:=r.length
 have hn:=ytw
 have fin:EP X pins σ Q w s:=⟨z,H,I,rw',q⟩
 exact subscriptTail_builtinR (x:=w) pl.typeIs slot_tuple_getitem.lookup
  (getItem_tuple (j:=j) (Q:=fun r s'=>r=w/\EP X pins σ Q r s') pl (by omega) (by omega) (by rw [size_toArray,<- hl];exact h1) (by simpa using ew) ⟨rfl,fin⟩) hs
theorem yMs:IxR X yRr:=by
 intro value slice pins s σ H x y v u Q I rx ry h hs
 obtain ⟨z,i,c,rfl,rfl,hz,he,q⟩:=h
 obtain ⟨t,rfl⟩:=rx
 obtain ⟨t',rfl⟩:=ry
 obtain ⟨j,h1,h2,h3,h4,h5⟩:=yyc he
 have hl:z.cps.toList.length=z.length:=by simp [Str.length]
 rw [hl] at h1 h4 h5
 have hn:=ytw
 exact tail_any (typeIs_str s z t) slot_str_getitem.lookup (getItem_str (c:=c) (by
  have e1:decide (i < -(2 ^ 63:Int))=false:=decide_eq_false (by omega)
  have e2:decide (i>=2 ^ 63)=false:=decide_eq_false (by omega)
  rw [e1,e2,Bool.or_false]) (by rw [h1];simpa using h2) ⟨.str ⟨#[c]⟩,H,I.tok _,⟨_,rfl⟩,q⟩) hs
theorem yAY (its:List Value) (n j:Nat) (u:Value):Obj.mapSeq (·.setIfInBounds j u) { cls:=.type "list",data:=.seq its.toArray n }={ cls:=.type "list",data:=.seq (its.set j u).toArray n }:=by
 simp [Obj.mapSeq]
theorem Inv.lst {pins:List (Addr×Obj)}{σ:St}{H:Hp}{s:Shared}{p:Addr}{xs:List V}(I:Inv X pins σ H s) (h:H p=some (.lst xs)) :
  ∃ (its:List Value) (n:Nat),Vals xs its/\s.heap.get? p=some { cls:=.type "list",data:=.seq its.toArray n }/\xs.length<=sizeLine:=by
 obtain ⟨z,its,n,r,e⟩:=I.hok p _ h
 exact ⟨its,n,r,e,z⟩
theorem Inv.lstUpd {pins:List (Addr×Obj)}{σ:St}{H:Hp}{s:Shared}{p:Addr}{xs ys:List V}{its its':List Value}{n n':Nat}{f:Obj->Obj}(I:Inv X pins σ H s) (h:H p=some (.lst xs))
  (ho:s.heap.get? p=some { cls:=.type "list",data:=.seq its.toArray n }) (hf:f { cls:=.type "list",data:=.seq its.toArray n }={ cls:=.type "list",data:=.seq its'.toArray n' }) (r:Vals ys its') (hz:ys.length<=sizeLine) (t:Nat) :
  Inv X pins σ (upd H p (.lst ys)) { s with heap:=s.heap.update p f,toks:=t }:=by
 have e:(s.heap.update p f).get? p=some { cls:=.type "list",data:=.seq its'.toArray n' }:=by
  rw [Heap.get?_update_self f ho (by rw [hf]<;>rfl),hf]
 refine I.write (x:=p) (e:=p) (by rw [h];trivial) (.inl rfl) (fun b u hb q=>(Heap.get?_update_other _ _ (Ne.symm hb)).trans q) ⟨_,e⟩ ?_
 exact ⟨hz,its',n',r,e⟩
def yMt:V->V->V->Hp->(Hp->Prop)->Prop:=fun o i v H Q=>∃ p xs k j,o=.ref p/\i=.int k/\H p=some (.lst xs)/\ixN xs.length k=some j/\Q (upd H p (.lst (xs.set j v)))
theorem set_list:yRg X yMt:=by
 intro pins s σ H o i v ov iv u Q I ro ri rv h
 obtain ⟨p,xs,k,j,rfl,rfl,hp,hj,q⟩:=h
 cases ro
 obtain ⟨t,rfl⟩:=ri
 obtain ⟨its,n,r,ho,hz⟩:=I.lst hp
 obtain ⟨h1,h2,h3,h4⟩:=yCy hj
 have hl:=r.length
 have hn:=ytw
 have I':Inv X pins σ (upd H p (.lst (xs.set j v))) { s with heap:=s.heap.update p (Obj.mapSeq (·.setIfInBounds j u)) } :=
  I.lstUpd hp ho (yAY its n j u) (r.set rv j) (by rw [length_set];exact hz) s.toks
 by_cases h0:0<=k
 .have hk:k.toNat=j:=by
   rw [seqIndex_of h0 h4] at h1
   exact Option.some.inj h1
  exact PySem.W.ki_setAt ho h0 (by omega) (by rw [size_toArray,<- hl];exact h4) (by rw [hk];exact ⟨_,I',q⟩)
 .have hk:(k+(its.toArray.size:Int)).toNat=j:=by
   rw [seqIndex_neg (by omega) h3] at h1
   rw [size_toArray,<- hl]
   exact Option.some.inj h1
  exact PySem.W.ki_setBack ho (by omega) (by rw [size_toArray,<- hl];exact h3) (by omega) (by rw [hk];exact ⟨_,I',q⟩)
theorem yvT (lo hi:Option Int) (n:Nat):(sliceBounds lo hi none n).1=((HT.sIx n 0 lo:Nat):Int)/\(sliceBounds lo hi none n).2.1=((HT.sIx n n hi:Nat):Int)/\(sliceBounds lo hi none n).2.2=1:=by
 refine ⟨?_,?_,rfl⟩
 .cases lo with
  | none=>simp [sliceBounds,HT.sIx]
  | some i =>
   simp only [sliceBounds,HT.sIx,Option.getD_none,show (1:Int)>0 by decide,if_true]
   by_cases h:i<0
   .simp only [h,if_true]<;>omega
   .simp only [h,if_false]<;>omega
 .cases hi with
  | none=>simp [sliceBounds,HT.sIx]
  | some i =>
   simp only [sliceBounds,HT.sIx,Option.getD_none,show (1:Int)>0 by decide,if_true]
   by_cases h:i<0
   .simp only [h,if_true]<;>omega
   .simp only [h,if_false]<;>omega
theorem yuo (its:List Value) (lo hi:Option Int):slicePick its.toArray lo hi none=((its.drop (HT.sIx its.length 0 lo)).take (HT.sIx its.length its.length hi-HT.sIx its.length 0 lo)).toArray:=by
 obtain ⟨h1,h2,h3⟩:=yvT lo hi its.toArray.size
 unfold slicePick
 rw [h1,h2,h3]
 simp only [sliceRange_one,pick_run,size_toArray]<;>rfl
def yRs (K:PySem.W.Frag):V->Option Int->Option Int->Hp->VK->Prop:=fun x lo hi H Q=>∃ a xs,x=.ref a/\SqL K H a xs/\∀ p,H p=none->Q (.ref p) (upd H p (.lst (yMr xs lo hi)))
theorem yCA:SlR X (yRs X.K):=by
 intro pins s σ H x v vl vu lo hi sl Q I rx hs pl pu h
 obtain ⟨a,xs,rfl,hx,q⟩:=h
 cases rx
 obtain ⟨its,r,ht,hz⟩:=I.list hx
 have hlen:=r.length
 refine ⟨"list",_,slot_list_getitem.lookup,ht.isList.typeIs,?_⟩
 refine wpAny_getItem_list_slice ht.isList hs pl pu .none (by simp) ?_ (by rw [size_toArray]<;>omega)
 rw [yuo,<- hlen]
 refine ⟨.ref s.heap.objs.size,_,I.laid (t':=s.toks) (o:=.lst (yMr xs lo hi)) (fun b ob q=>Heap.get?_push_of_some _ q) (Nat.le_refl _) ?_,rfl,q _ (I.hok.fresh (Nat.le_refl _))⟩
 exact ⟨Nat.le_trans (yyb xs lo hi) hz,_,0,(r.drop (HT.sIx xs.length 0 lo)).take (HT.sIx xs.length xs.length hi-HT.sIx xs.length 0 lo),Heap.get?_push_size _ rfl⟩
def ynn:V->Bool
 | .non=>true
 | .bl _=>true
 | .int _=>true
 | .str _=>true
 | _=>false
noncomputable def eqV:V->V->Bool
 | .non,.non=>true
 | .bl a,.bl b=>a == b
 | .bl a,.int b=>(if a then 1 else 0) == b
 | .int a,.bl b=>a == (if b then 1 else 0)
 | .int a,.int b=>a == b
 | .str a,.str b=>a == b
 | _,_=>false
theorem yIg {A:Around}{s:Shared}{y x:V}{u v:Value}(ry:RelV y u) (rx:RelV x v) (fy:ynn y=true) (fx:ynn x=true):SeqAt.EqAt A s u v (eqV y x):=by
 cases y with
 | non =>
  cases ry
  cases x with
  | non=>cases rx;exact SeqAt.EqAt.same _
  | bl b=>cases rx;exact SeqAt.EqAt.none_bool b
  | int b=>obtain ⟨t,rfl⟩:=rx;exact SeqAt.EqAt.none_int b t
  | str b=>obtain ⟨t,rfl⟩:=rx;exact SeqAt.EqAt.none_str b t
  | _=>exact absurd (show false=true from fx) Bool.false_ne_true
 | bl a =>
  cases ry
  cases x with
  | non=>cases rx;exact SeqAt.EqAt.bool_none a
  | bl b=>cases rx;exact SeqAt.EqAt.bool_bool a b
  | int b=>obtain ⟨t,rfl⟩:=rx;exact SeqAt.EqAt.bool_int a b t
  | str b=>obtain ⟨t,rfl⟩:=rx;exact SeqAt.EqAt.bool_str a b t
  | _=>exact absurd (show false=true from fx) Bool.false_ne_true
 | int a =>
  obtain ⟨t',rfl⟩:=ry
  cases x with
  | non=>cases rx;exact SeqAt.EqAt.int_none a t'
  | bl b=>cases rx;exact SeqAt.EqAt.int_bool a t' b
  | int b=>obtain ⟨t,rfl⟩:=rx;exact SeqAt.EqAt.int_int a t' b t
  | str b=>obtain ⟨t,rfl⟩:=rx;exact SeqAt.EqAt.int_str a t' b t
  | _=>exact absurd (show false=true from fx) Bool.false_ne_true
 | str a =>
  obtain ⟨t',rfl⟩:=ry
  cases x with
  | non=>cases rx;exact SeqAt.EqAt.str_none a t'
  | bl b=>cases rx;exact SeqAt.EqAt.str_bool a t' b
  | int b=>obtain ⟨t,rfl⟩:=rx;exact SeqAt.EqAt.str_int a t' b t
  | str b=>obtain ⟨t,rfl⟩:=rx;exact SeqAt.EqAt.str_str a t' b t
  | _=>exact absurd (show false=true from fx) Bool.false_ne_true
 | _=>exact absurd (show false=true from fy) Bool.false_ne_true
def eqU (x:V) (u:Value):Bool:=match u with
 | .none=>eqV .non x
 | .bool b=>eqV (.bl b) x
 | .int i _=>eqV (.int i) x
 | .str z _=>eqV (.str z) x
 | _=>false
theorem yIh {x y:V}{u:Value}(r:RelV y u) (f:ynn y=true):eqU x u=eqV y x:=by
 cases y with
 | non=>cases r;rfl
 | bl b=>cases r;rfl
 | int i=>obtain ⟨t,rfl⟩:=r;rfl
 | str z=>obtain ⟨t,rfl⟩:=r;rfl
 | _=>exact absurd (show false=true from f) Bool.false_ne_true
theorem yyd {x:V}:∀ {xs:List V}{us:List Value},Vals xs us->xs.all ynn=true->us.any (eqU x)=xs.any fun y=>eqV y x
 | _,_,.nil,_=>rfl
 | y::xs,u::us,.cons r t,f=>by
  rw [List.all_cons,and_eq_true] at f
  rw [any_cons,any_cons,yIh r f.1,yyd t f.2]
theorem yup {A:Around}{s:Shared}{x:V}{v:Value}(rx:RelV x v) (fx:ynn x=true):∀ {xs:List V}{us:List Value},Vals xs us->xs.all ynn=true->∀ u∈us,SeqAt.EqAt A s u v (eqU x u)
 | _,_,.nil,_=>fun u hu=>by cases hu
 | y::xs,u::us,.cons r t,f=>fun u' hu=>by
  rw [List.all_cons,and_eq_true] at f
  rcases mem_cons.mp hu with rfl|hu
  .rw [yIh r f.1];exact yIg r rx f.1 fx
  .exact yup rx fx t f.2 u' hu
def inV (x:V) (xs:List V):Bool:=xs.any fun y=>eqV y x
def rIn (K:PySem.W.Frag) (neg:Bool):R2:=fun x y H Q=>∃ p xs,y=.ref p/\(SqL K H p xs\/SqT K H p xs)/\ynn x=true/\xs.all ynn=true/\Q (.bl (if neg then !inV x xs else inV x xs)) H
theorem yCB:OpR X (compareOp .In) (rIn X.K false):=by
 intro pins s σ H x y v u Q I rx ry h
 obtain ⟨p,xs,rfl,hq,fx,fs,q⟩:=h
 cases ry
 rcases hq with hq|hq
 .obtain ⟨its,r,pl,hz⟩:=I.list hq
  refine SeqAt.in_listAt (eqU x) pl.isList (fun w hw=>yup rx fx r fs w (by simpa using hw)) ⟨.bl _,H,I,rfl,?_⟩
  rw [show its.toArray.any (eqU x)=its.any (eqU x) by simp,yyd r fs]
  exact q
 .obtain ⟨its,r,pl,hz⟩:=I.tuple hq
  refine SeqAt.in_tupleAt (eqU x) pl (fun w hw=>yup rx fx r fs w (by simpa using hw)) ⟨.bl _,H,I,rfl,?_⟩
  rw [show its.toArray.any (eqU x)=its.any (eqU x) by simp,yyd r fs]
  exact q
theorem yJ:ylQ X (.builtin "len") (fun xs H Q=>∃ p ys,xs=[.ref p]/\(SqL X.K H p ys\/SqT X.K H p ys)/\Q (.int ys.length) H):=by
 intro pins s σ H xs us Q I r h
 obtain ⟨p,ys,rfl,hq,q⟩:=h
 obtain ⟨u,rfl,rx⟩:=vals1 r
 cases rx
 have hn:=ytw
 rcases hq with hq|hq
 .obtain ⟨its,r',pl,hz⟩:=I.list hq
  have hlen:=r'.length
  exact Calls.call_len_list pl.isList (by simp only [size_toArray]<;>omega) ⟨.int ys.length,H,I.tok _,⟨s.toks+1,by rw [size_toArray,hlen]⟩,q⟩
 .obtain ⟨its,r',pl,hz⟩:=I.tuple hq
  have hlen:=r'.length
  exact len_tuple pl (by simp only [size_toArray]<;>omega) ⟨.int ys.length,H,I.tok _,⟨s.toks+1,by rw [size_toArray,hlen]⟩,q⟩
theorem ygV:ylQ X (.builtin "len") (fun xs H Q=>∃ z,xs=[.str z]/\z.length<=sizeLine/\Q (.int z.length) H):=by
 intro pins s σ H xs us Q I r h
 obtain ⟨z,rfl,hz,q⟩:=h
 obtain ⟨u,rfl,t,rfl⟩:=vals1 r
 have hn:=ytw
 exact len_str (by omega) ⟨.int z.length,H,I.tok _,⟨_,rfl⟩,q⟩
theorem yy:ylQ X (.type "list") (fun xs H Q=>∃ p ys,xs=[.ref p]/\(SqL X.K H p ys\/SqT X.K H p ys)/\∀ l,H l=none->Q (.ref l) (upd H l (.lst ys))):=by
 intro pins s σ H xs us Q I r h
 obtain ⟨p,ys,rfl,hq,q⟩:=h
 obtain ⟨u,rfl,rx⟩:=vals1 r
 cases rx
 have fin:∀ (its:List Value),Vals ys its->ys.length<=sizeLine->∀ (h':Heap) (c':Nat),(∀ b o',s.heap.get? b=some o'->h'.get? b=some o') ->
   h'.get? s.heap.objs.size=some { cls:=.type "list",dict:=none,data:=.seq its.toArray c',slots:=#[] }->EP X pins σ Q (.ref s.heap.objs.size) { s with heap:=h' }:=fun its r' hz h' c' kp e =>
  ⟨.ref s.heap.objs.size,_,I.laid (t':=s.toks) kp (Nat.le_refl _) (show ObjOk X.prog X.w _ h' _ (.lst ys) from ⟨hz,its,c',r',e⟩),rfl,q _ (I.hok.fresh (Nat.le_refl _))⟩
 rcases hq with hq|hq
 .obtain ⟨its,r',pl,hz⟩:=I.list hq
  have hlen:=r'.length
  obtain ⟨o,ho,hc,n,hd⟩:=pl.isList
  exact call_list_seq p (.inl rfl) ho hc hd (fun h' c' kp e=>fin its r' hz h' c' kp e) (by simp only [size_toArray]<;>omega)
 .obtain ⟨its,r',pl,hz⟩:=I.tuple hq
  have hlen:=r'.length
  obtain ⟨o,ho,hc,n,hd⟩:=pl
  exact call_list_seq p (.inr rfl) ho hc hd (fun h' c' kp e=>fin its r' hz h' c' kp e) (by simp only [size_toArray]<;>omega)
def tyV (K:PySem.W.Frag) (T:String) (x:V) (H:Hp):Prop:=match x with
 | .str _=>T = "str"
 | .int _=>T = "int"
 | .ref p=>(T = "list"/\∃ xs,SqL K H p xs)\/(T = "tuple"/\∃ o,K.lookup p=some o/\o.cls=.type "tuple"/\o.dict=none) \/
   (T = "dict"/\((∃ kvs,H p=some (.dK kvs))\/∃ kvs,H p=some (.dT kvs)))\/(T = "set"/\∃ S n,H p=some (.set S n))
 | _=>False
theorem yIi {pins:List (Addr×Obj)}{σ:St}{H:Hp}{s:Shared}{T:String}{x:V}{v:Value}(I:Inv X pins σ H s) (r:RelV x v) (ty:tyV X.K T x H) :
  s.TypeIs v T/\∀ a,v=.ref a->∃ ob,s.heap.get? a=some ob/\ob.dict=none:=by
 cases x with
 | str z =>
  obtain ⟨t,rfl⟩:=r
  cases (show T = "str" from ty)
  exact ⟨typeIs_str s z t,fun _ e=>nomatch e⟩
 | int i =>
  obtain ⟨t,rfl⟩:=r
  cases (show T = "int" from ty)
  exact ⟨typeIs_int s i t,fun _ e=>nomatch e⟩
 | ref p =>
  cases r
  rcases ty with ⟨rfl,xs,hq⟩|⟨rfl,o,hk,hc,hd⟩|⟨rfl,hk⟩|⟨rfl,S,n,hk⟩
  .obtain ⟨its,_,pl,_⟩:=I.list hq
   refine ⟨pl.isList.typeIs,fun a e=>?_⟩
   cases e
   obtain ⟨o,n,e,c,hd,_⟩:=pl
   exact ⟨o,e,hd⟩
  .refine ⟨⟨o,I.kIn p o hk,hc⟩,fun a e=>?_⟩
   cases e
   exact ⟨o,I.kIn _ o hk,hd⟩
  .have z:∃ o,s.heap.get? p=some o/\o.ExactDict:=by
    rcases hk with ⟨kvs,hk⟩|⟨kvs,hk⟩
    .obtain ⟨_,_,_,_,o,_,_,e,ex,_⟩:=I.hok p _ hk
     exact ⟨o,e,ex⟩
    .obtain ⟨_,_,_,_,o,_,_,e,ex,_⟩:=I.hok p _ hk
     exact ⟨o,e,ex⟩
   obtain ⟨o,e,ex⟩:=z
   refine ⟨⟨o,e,ex.1⟩,fun a e2=>?_⟩
   cases e2
   exact ⟨o,e,ex.2.1⟩
  .obtain ⟨o,_,_,_,e,ex,_⟩:=I.hok p _ hk
   refine ⟨⟨o,e,ex.1⟩,fun a e2=>?_⟩
   cases e2
   exact ⟨o,e,ex.2.1⟩
 | _=>exact False.elim ty
def yOS (K:PySem.W.Frag) (T:String) (r:V->List V->Hp->VK->Prop) (to:TE):TE:=fun σ H Q=>to σ H fun x H1=>tyV K T x H1/\r x [] H1 Q
def tBM (K:PySem.W.Frag) (T:String) (r:V->List V->Hp->VK->Prop) (to:TE) (t:TA):TE:=fun σ H Q=>to σ H fun x H1=>tyV K T x H1/\t σ H1 fun xs H2=>r x xs H2 Q
variable {o e:Expr}{es:List Expr}{to:TE}{t:TA}{name:Str}{apos cpos:Pos}{T id:String}{r:V->List V->Hp->VK->Prop}
theorem yIj (pa:PlainAttrs T) (slot:Slot T name id) (hty:typeOf (.builtin id)=pure (.type "method_descriptor")) (hm:MtR X id r) (ho:PE X o to)
  (hbase:attributeBase o name X.env (eval o X.env)=eval o X.env:=by rfl) (hline:(apos.endLine == cpos.line)=true:=by rfl):PE X (.Call (.Attribute o name apos) [] [] cpos) (yOS X.K T r to):=by
 intro pins s σ H Q I h
 refine wpAny_Call_method0_late hbase hline (thn (ho pins s σ H _ I h) fun v s1 ⟨x,H1,I1,r1,ty,q1⟩=>?_)
 obtain ⟨h1,h2⟩:=yIi I1 r1 ty
 exact ⟨T,id,pa,slot,hty,h1,h2,Calls.callWith_builtin rfl (PySem.evalArgs_none (hm pins s1 σ H1 x [] v [] Q I1 r1 .nil q1))⟩
theorem yJw (pa:PlainAttrs T) (slot:Slot T name id) (hty:typeOf (.builtin id)=pure (.type "method_descriptor")) (hm:MtR X id r) (ho:PE X o to) (ha:PA X (e::es) t)
  (hbase:attributeBase o name X.env (eval o X.env)=eval o X.env:=by rfl)
  (hfew:((backTo cpos (starEach (e::es) X.env)).all (fun x=>!x.1) && (backToKw cpos (keywordEach [] X.env)).all (fun x=>x.1.isSome)
   && decide ((e::es).length+([]:List Keyword).length+(if ([]:List Keyword).isEmpty then 0 else 1)<30))=true:=by rfl)
  (hline:(apos.endLine == cpos.line)=true:=by rfl) (hs:starEach (e::es) X.env=(false,eval e X.env)::starEach es X.env:=by rfl) (hplain:(backTo cpos (starEach es X.env)).any (·.1)=false:=by rfl) :
  PE X (.Call (.Attribute o name apos) (e::es) [] cpos) (tBM X.K T r to t):=by
 intro pins s σ H Q I h
 refine wpAny_Call_method_late hbase hfew hline rfl (thn (ho pins s σ H _ I h) fun v s1 ⟨x,H1,I1,r1,ty,q1⟩=>?_)
 obtain ⟨h1,h2⟩:=yIi I1 r1 ty
 refine ⟨T,id,pa,slot,hty,h1,h2,?_⟩
 have hA:=ha cpos pins s1 σ H1 _ I1 q1
 rw [hs] at hA ⊢
 refine Calls.callWith_builtin (by show (false || (backTo cpos (starEach es X.env)).any (·.1))=false;rw [hplain]<;>rfl) (Calls.evalArgs_plain ?_)
 exact thn hA fun us s2 ⟨vs,H2,I2,r2,q2⟩=>hm pins s2 σ H2 x vs v us Q I2 r1 r2 q2
end
end L2
namespace L2
open PySem PySem.Spec PyProof.Rows
def MtM (X:Cx) (id:String) (r:V->List V->Hp->VK->Prop):Prop :=
 ∀ (pins:List (Addr×Obj)) (s:Shared) (σ:St) (H:Hp) (x:V) (xs:List V) (v:Value) (us:List Value) (Q:VK),Inv X pins σ H s->RelV x v->Vals xs us->r x xs H Q ->
  wpAny (model X.prog X.w) X.A (call (.builtin id) (v::us)) (EP X pins σ Q) X.xe s
theorem Vals.one:∀ {x:V}{us:List Value},Vals [x] us->∃ u,us=[u]/\RelV x u
 | _,_,.cons r .nil=>⟨_,rfl,r⟩
theorem Vals.zero:∀ {us:List Value},Vals [] us->us=[]
 | _,.nil=>rfl
theorem Vals.dropLast {xs:List V}{us:List Value}(h:Vals xs us):Vals xs.dropLast us.dropLast:=by
 induction h with
 | nil=>exact .nil
 | cons r t ih =>
  cases t with
  | nil=>exact .nil
  | cons q t'=>exact .cons r ih
theorem Vals.rep {xs:List V}{us:List Value}(h:Vals xs us):∀ k:Nat,Vals (replicate k xs).flatten (replicate k us).flatten
 | 0=>.nil
 | k+1=>by
  rw [List.replicate_succ,List.replicate_succ,List.flatten_cons,List.flatten_cons]
  exact Vals.append h (Vals.rep h k)
theorem yAZ {α:Type}(l:List α):l.eraseIdx (l.length-1)=l.dropLast:=by
 induction l with
 | nil=>rfl
 | cons a r ih =>
  cases r with
  | nil=>rfl
  | cons b r =>
   have e:(a::b::r).length-1=((b::r).length-1)+1:=by
    have h1:(a::b::r).length=r.length+2:=rfl
    have h2:(b::r).length=r.length+1:=rfl
    omega
   rw [e,List.eraseIdx_cons_succ,ih]
   all_goals rfl
theorem foldl_rep (its:List Value):∀ (k:Nat) (acc:List Value),
  List.foldl (fun x1 x2=>x1++x2) acc.toArray (replicate k its.toArray)=(acc++(replicate k its).flatten).toArray
 | 0,acc=>by simp
 | k+1,acc=>by
  have e:acc.toArray++its.toArray=(acc++its).toArray:=by simp
  have e2:(acc++its)++(replicate k its).flatten=acc++(replicate (k+1) its).flatten:=by
   rw [List.replicate_succ,List.flatten_cons,append_assoc]
  rw [<- e2,<- foldl_rep its k (acc++its),<- e,List.replicate_succ,List.foldl_cons]
section
variable {X:Cx}{pins:List (Addr×Obj)}{σ:St}{H:Hp}{s:Shared}{l b:Addr}{xs ys zs:List V}
theorem Inv.lset {its its':List Value}{n:Nat}{f:Array Value->Array Value}{t':Nat}(I:Inv X pins σ H s) (hH:H l=some (.lst xs))
  (e:s.heap.get? l=some { cls:=.type "list",data:=.seq its.toArray n }) (hf:f its.toArray=its'.toArray) (hv:Vals ys its') (hz:ys.length<=sizeLine) :
  Inv X pins σ (upd H l (.lst ys)) { s with heap:=s.heap.update l (Obj.mapSeq f),toks:=t' }:=by
 have q:=PySem.IsL.update e f
 rw [hf] at q
 refine I.write (x:=l) (e:=l) (by rw [hH];exact trivial) (.inl rfl) (fun b' u hb hu=>(Heap.get?_update_other s.heap (Obj.mapSeq f) (Ne.symm hb)).trans hu) ⟨_,q⟩ ?_
 exact ⟨hz,its',_,hv,q⟩
theorem Inv.lnew {its:List Value}{t':Nat}(I:Inv X pins σ H s) (hv:Vals ys its) (hz:ys.length<=sizeLine) :
  Inv X pins σ (upd H s.heap.objs.size (.lst ys)) { s with heap:=s.heap.push { cls:=.type "list",data:=.seq its.toArray },toks:=t' } :=
 I.laid (fun _ _ q=>Heap.get?_push_of_some _ q) (Nat.le_refl _) ⟨hz,its,0,hv,Heap.get?_push_size _ rfl⟩
theorem Inv.fresh (I:Inv X pins σ H s):H s.heap.objs.size=none:=I.hok.fresh (Nat.le_refl _)
theorem Inv.lstM (I:Inv X pins σ H s) (hH:H l=some (.lst xs)):xs.length<=sizeLine/\∃ (its:List Value) (n:Nat),Vals xs its/\xs.length=its.length/\s.heap.get? l=some { cls:=.type "list",data:=.seq its.toArray n }:=by
 obtain ⟨z,its,n,r,e⟩:=I.hok l _ hH
 exact ⟨z,its,n,r,r.length,e⟩
theorem yzK {n:Nat}(h:n<=sizeLine):Builtin.List.listTooLong n=false:=by
 unfold Builtin.List.listTooLong
 exact decide_eq_false (by omega)
end
section
variable {X:Cx}
noncomputable def yye:V->List V->Hp->VK->Prop:=fun x vs H Q=>∃ l xs y,x=.ref l/\vs=[y]/\H l=some (.lst xs)/\xs.length<sizeLine/\Q .non (upd H l (.lst (xs++[y])))
theorem yid:MtM X "list.append" yye:=by
 intro pins s σ H x vs v us Q I rx rv h
 obtain ⟨l,xs,y,rfl,rfl,hH,hz,q⟩:=h
 cases rx
 obtain ⟨u,rfl,ru⟩:=rv.one
 obtain ⟨z,its,n,r,hl,e⟩:=I.lstM hH
 refine call_meets F.slot_list_append ⟨_,e,rfl⟩ F.entry_list_append (F.args_list_append_2 _ _) (PySem.list_append l its.toArray n u (by rw [size_toArray];omega)) ⟨e,?_⟩
 refine ⟨.non,_,I.lset (its':=its++[u]) hH e (by simp) (r.append (.cons ru .nil)) ?_,rfl,q⟩
 rw [length_append,List.length_singleton]
 omega
noncomputable def yCC:V->List V->Hp->VK->Prop:=fun x vs H Q=>∃ l b xs zs,x=.ref l/\vs=[.ref b]/\H l=some (.lst xs)/\H b=some (.lst zs)/\xs.length+zs.length<=sizeLine/\Q .non (upd H l (.lst (xs++zs)))
theorem yCD:MtM X "list.extend" yCC:=by
 intro pins s σ H x vs v us Q I rx rv h
 obtain ⟨l,b,xs,zs,rfl,rfl,hH,hB,hz,q⟩:=h
 cases rx
 obtain ⟨u,rfl,ru⟩:=rv.one
 cases ru
 obtain ⟨z,its,n,r,hl,e⟩:=I.lstM hH
 obtain ⟨z2,its2,n2,r2,hl2,e2⟩:=I.lstM hB
 have hsz:its.toArray.size+its2.toArray.size<=sizeLine:=by rw [size_toArray,size_toArray];omega
 have hlong:¬ (!its.toArray.isEmpty && Builtin.List.listTooLong (its.toArray.size+its2.toArray.size))=true:=by
  rw [yzK hsz,Bool.and_false]
  exact Bool.false_ne_true
 refine call_meets F.slot_list_extend ⟨_,e,rfl⟩ F.entry_list_extend (F.args_list_extend_2 _ _)
  (AutoSeq1.list_extend_list_list_0 l its.toArray n b its2.toArray n2 hlong (by rw [size_toArray];omega) (by omega)) ⟨e,e2,?_⟩
 refine ⟨.non,_,I.lset (its':=its++its2) hH e (by simp) (r.append r2) ?_,rfl,q⟩
 rw [length_append]
 omega
noncomputable def yRt:V->List V->Hp->VK->Prop:=fun x vs H Q=>∃ l xs y,x=.ref l/\vs=[]/\H l=some (.lst xs)/\xs[xs.length-1]?=some y/\Q y (upd H l (.lst xs.dropLast))
theorem yzL:MtM X "list.pop" yRt:=by
 intro pins s σ H x vs v us Q I rx rv h
 obtain ⟨l,xs,y,rfl,rfl,hH,hy,q⟩:=h
 cases rx
 have hus:=rv.zero
 subst hus
 obtain ⟨z,its,n,r,hl,e⟩:=I.lstM hH
 obtain ⟨u,hu,ru⟩:=r.get hy
 have hy':its.toArray[its.toArray.size-1]?=some u:=by
  show its.toArray[its.length-1]?=some u
  rw [<- Array.getElem?_toList,<- hl]
  exact hu
 refine call_meets F.slot_list_pop ⟨_,e,rfl⟩ F.entry_list_pop (F.args_list_pop_1 _) (MeetsSeq.list_pop_last l its.toArray n u hy' (by rw [size_toArray];omega)) ⟨e,?_⟩
 refine ⟨y,_,I.lset (its':=its.dropLast) hH e ?_ r.dropLast ?_,ru,q⟩
 .show its.toArray.eraseIdxIfInBounds (its.toArray.size-1)=its.dropLast.toArray
  rw [size_toArray,List.eraseIdxIfInBounds_toArray,yAZ]
 .rw [List.length_dropLast]
  omega
noncomputable def yRu:R2:=fun x y H Q=>∃ l b xs zs,x=.ref l/\y=.ref b/\H l=some (.lst xs)/\H b=some (.lst zs)/\xs.length+zs.length<=sizeLine/\∀ p,H p=none->Q (.ref p) (upd H p (.lst (xs++zs)))
theorem ylm:OpR X (binaryOp .Add) yRu:=by
 intro pins s σ H x y v u Q I rx ry h
 obtain ⟨l,b,xs,zs,rfl,rfl,hH,hB,hz,q⟩:=h
 cases rx
 cases ry
 obtain ⟨z,its,n,r,hl,e⟩:=I.lstM hH
 obtain ⟨z2,its2,n2,r2,hl2,e2⟩:=I.lstM hB
 refine PySem.P.add_list e e2 ?_ (by rw [size_toArray,size_toArray];omega)
 have ea:its.toArray++its2.toArray=(its++its2).toArray:=by simp
 rw [ea]
 exact ⟨.ref _,_,I.lnew (t':=s.toks) (r.append r2) (by rw [length_append];omega),rfl,q _ I.fresh⟩
noncomputable def yRv:R2:=fun x y H Q=>∃ l k xs,x=.ref l/\y=.int k/\H l=some (.lst xs)/\-(2 ^ 63)<=k/\k<2 ^ 63/\xs.length*k.toNat<=sizeLine /\
 ∀ p,H p=none->Q (.ref p) (upd H p (.lst (replicate k.toNat xs).flatten))
theorem len_rep {α:Type}(xs:List α) (k:Nat):(replicate k xs).flatten.length=k*xs.length:=by
 induction k with
 | zero=>simp
 | succ k ih=>rw [List.replicate_succ,List.flatten_cons,length_append,ih,Nat.succ_mul,Nat.add_comm]
theorem yzM:OpR X (binaryOp .Mult) yRv:=by
 intro pins s σ H x y v u Q I rx ry h
 obtain ⟨l,k,xs,rfl,rfl,hH,h1,h2,hz,q⟩:=h
 cases rx
 obtain ⟨t,rfl⟩:=ry
 obtain ⟨z,its,n,r,hl,e⟩:=I.lstM hH
 have hlen:its.toArray.size*k.toNat<=sizeLine:=by rw [size_toArray,<- hl];exact hz
 have hcap:¬ its.toArray.size*k.toNat>(2 ^ 63-1)/8:=by
  have:(sizeLine:Nat)<=(2 ^ 63-1)/8:=by decide
  omega
 have hfit:¬ (!Builtin.List.listFitsIndex k)=true:=by
  rw [fitsIndex_both h1 h2]
  exact Bool.false_ne_true
 have hlong:¬ Builtin.List.listTooLong (its.toArray.size*k.toNat)=true:=by
  rw [yzK hlen]
  exact Bool.false_ne_true
 have hnew:List.foldl (fun x1 x2=>x1++x2) #[] (replicate (if its.toArray.isEmpty=true then 0 else k.toNat) its.toArray)=(replicate k.toNat its).flatten.toArray:=by
  have f0:∀ m:Nat,List.foldl (fun x1 x2=>x1++x2) #[] (replicate m its.toArray)=(replicate m its).flatten.toArray:=fun m=>by
   have:=foldl_rep its m []
   rw [List.nil_append] at this
   exact this
  rw [f0]
  cases its with
  | nil=>simp
  | cons a r'=>rw [if_neg (by simp)]
 refine wpAny_binaryOp_repeat_ref (T:="list") (U:="int") (by decide) ⟨_,e,rfl⟩ (fun s'=>typeIs_int s' k t) noFill_list_mul F.fills_int_mul F.slot_int_rmul repeat_list F.slot_int_index.lookup
  (call_meets F.slot_int_rmul (typeIs_int s k t) F.entry_int_rmul (F.args_int_rmul_2 _ _) (int___rmul___int_list k t l its.toArray n)
   ⟨e,rfl,⟨_,e,rfl⟩,call_meets F.slot_list_mul ⟨_,e,rfl⟩ F.entry_list_mul (F.args_list_mul_2 _ _) (AutoListH.list___mul___list_int_3 l its.toArray n k t hfit hcap hlong) ⟨e,?_⟩⟩)
 rw [hnew]
 exact ⟨.ref _,_,I.lnew (t':=s.toks) (r.rep k.toNat) (by rw [len_rep,Nat.mul_comm];exact hz),rfl,q _ I.fresh⟩
end
section
variable {prog:Program}{w:World}{A:Around}{E:Value->Shared->Prop}{s:Shared}
end
section
variable {X:Cx}
end
end L2
namespace Att
open PySem PySem.W PySem.Calls PyProof.Rows
theorem yqD {P:Params}{h:Heap}:∀ (ns:List Int) (vs:List Value),WellAll P h vs (ns.map WData.int)->IntsAre vs ns:=by
 intro ns
 induction ns with
 | nil =>
  intro vs w
  rw [map_nil] at w
  cases w
  exact .nil
 | cons n ns ih =>
  intro vs w
  rw [map_cons] at w
  cases w with
  | cons a b =>
   cases a
   exact .cons _ _ (ih _ b)
theorem yCE {l:OpenLaw}{n:Nat}(hn:l.most=some n) {P:Params}{h:Heap}{args:List WData}{vals:List Value}
  (hpre:l.row.toRowW.claim.pre args=true) (hwl:WellAll P h vals args) :
  ∃ a vs ns,vals=[Value.ref a]/\args=[WData.list (ns.map WData.int)]/\h.get? a=some { cls:=.type "list",data:=.seq vs.toArray }/\IntsAre vs ns/\ns.length<=n:=by
 have hsh:WShape.hasAll [] args [.list .int]=true:=(pre_splitW hpre).1
 have hc:l.pre.holds [] { args:=args }=true:=(pre_splitW hpre).2
 obtain ⟨d,r,rfl,h1,h2⟩:=hasAllW_cons hsh
 obtain rfl:=hasAllW_nil h2
 obtain ⟨xs,rfl,h3⟩:=hasW_list h1
 obtain ⟨ns,rfl⟩:=items_int h3
 have hlen:ns.length<=n:=by
  unfold OpenLaw.pre at hc
  have h4:(WTm.not (.lt (.lit (.int (n:Int))) (.len (.arg 0)))).holds [] { args:=[.list (ns.map .int)] }=true:=by
   have h4:=(holds_andW hc).1
   rw [hn] at h4
   exact h4
  have h5:=condW_of h4 (w_not (w_lt w_lit (w_len_list (w_arg rfl))))
  rw [length_map] at h5
  refine Nat.le_of_not_lt fun q=>?_
  have q':(n:Int)<((ns.length:Nat):Int):=by omega
  first
   | (rw [decide_eq_true q'] at h5;exact absurd h5 (by decide))
   | (simp at h5;omega)
 cases hwl with
 | cons w1 w2 =>
  cases w2
  cases w1 with
  | list ho hall=>exact ⟨_,_,ns,rfl,rfl,ho,yqD ns _ hall,hlen⟩
theorem yCF (l:OpenLaw) (args:List WData):l.row.toRowW.claim.post args (.bool true) args=true :=
 postW_of (r:=l.row.toRowW) (X:=(true == true))
  (show WShape.has [] (.bool true) .bool=true by first|rfl|decide|simp [WShape.has,WShape.arms,WShape.armsAll])
  (show (WTm.eq .res (.lit (.bool true))).value [] { args:=args,res:=some (.bool true),after:=args }=some (.bool (true == true)) from w_eq_bool (w_res rfl) w_lit) rfl
theorem attach_call {l:OpenLaw}{n:Nat}{q:Program}{loose:List Str}{XP:(Str->Option Value)->Heap->Prop}{YP:World->Heap->Prop}{d:DefRec}
  (hn:l.most=some n) (hdf:d.params.defaults=[])
  (call:∀ (w:World) (s₀ s₁:Shared) (mg mb:Str->Option Value) (fa:Addr) (o:Obj) (pm cd doc:Value) (a:Addr) (vs:List Value) (ns:List Int),
   Ground q loose [] XP w s₀ mg mb s₁.heap->YP w s₁.heap ->
   s₁.heap.get? fa=some o->o.data=.func (docDef d.name d.params d.body d.scope pm cd doc)->s₁.heap.CodeRec cd d.name->mg d.name=some (.ref fa) ->
   s₁.heap.get? a=some { cls:=.type "list",data:=.seq vs.toArray }->IntsAre vs ns->ns.length<=n->s₁.gens = #[] ->
   codeAny (model l.prog w) callerA (.call (.ref fa) ⟨[.ref a],[]⟩) (fun r s'=>r=.ok (.ret (.bool true))/\OldK s₁.heap s'.heap/\s'.os=s₁.os/\AllBare s'.gens) s₁) :
  WalkO q loose XP YP l.row.toRowW d [] (fun f vs=>PySem.call f vs):=by
 intro w s₀ s₁ mg mb G Y fa o pm cd doc dV kV ho hd hcd hD hmg hg args vals as hpre hlay hrd hwl hlo
 obtain rfl:dV=.none:=Dflts.none hD hdf
 obtain rfl:kV=.none:=Dflts.noKw hD
 obtain ⟨a,vs,ns,rfl,rfl,hobj,hints,hlen⟩:=yCE hn hpre hwl
 refine enter_call (codeAny_mono (call w s₀ s₁ mg mb fa o pm cd doc a vs ns G Y ho (fd_plain hd) hcd hmg hobj hints hlen hg) fun r s' hq=>?_)
 obtain ⟨rfl,h2,h3,h4⟩:=hq
 exact ⟨.inl ⟨.bool true,.bool true,[],rfl,fun _=>rfl,.bool true,yCF l _,fun _=>⟨List.Pairwise.nil,fun _ hm=>(nomatch hm)⟩⟩,h2,h3,h4⟩
section
variable {prog:Program}{w:World}{A:Around}{E:Value->Shared->Prop}{s:Shared}{K:Frag}
end
end Att
namespace L2
open PySem PySem.Spec PyProof.Rows
theorem yqE:∀ {vs:List Value}{ns:List Int},IntsAre vs ns->Vals (ns.map V.int) vs
 | _,_,.nil=>.nil
 | _,_,.cons n t h=>.cons ⟨t,rfl⟩ (yqE h)
def yOT (H:Hp):Prop:=∀ b,H b=none\/∃ o xs,H b=some (.frz o (.lst xs))
theorem yFG {P:Program}{w:World}{K:PySem.W.Frag}{mg mb:Str->Option Value}{CX:CXT}{k:Nat}{fa a:Addr}{fd:FuncData}{x:Str}{sp:Sp}{s₁:Shared}{vs:List Value}{ns:List Int}
  (KX:K.In s₁.heap) (hns:s₁.heap.Ns mainGlobals mg) (hb:s₁.heap.Ns builtinsNs mb) (hbb:∀ x:Str,x≠"__name__"->mb x=bootBuiltins x) (hlim:s₁.heap.NoLimit) (hg:s₁.gens = #[])
  (ha:s₁.heap.get? a=some { cls:=.type "list",data:=.seq vs.toArray }) (hi:IntsAre vs ns) (hl:ns.length<=sizeLine) (hr:Room k callerA)
  (F:∀ base:Heap,K.In base->base.Ns mainGlobals mg->FnOk P w K mg base CX k fa fd [x] sp) (hbind:∀ (s:Shared) (u:Value),BindsTo s fd ⟨[u],[]⟩ [(x,u)])
  (hsp:∀ H:Hp,yOT H->SqL K H a (ns.map V.int)->sp [.ref a] H (fun v _=>v=.bl true) fun _ _ _=>False)
  (hCX:∀ H e s',CX [] H s₁ (fun _ _ _=>False) e s'->False) :
  codeAny (model P w) callerA (.call (.ref fa) ⟨[.ref a],[]⟩) (fun r s'=>r=.ok (.ret (.bool true))/\OldK s₁.heap s'.heap/\s'.os=s₁.os/\AllBare s'.gens) s₁:=by
 have rv:=yqE hi
 have lenV:=hi.length
 have core:∀ H:Hp,yOT H->SqL K H a (ns.map V.int)->HOk P w H s₁.heap->(∀ b,H b≠none->b=a)->(H a≠none->K.lookup a=none) ->
   codeAny (model P w) callerA (.call (.ref fa) ⟨[.ref a],[]⟩) (fun r s'=>r=.ok (.ret (.bool true))/\OldK s₁.heap s'.heap/\s'.os=s₁.os/\AllBare s'.gens) s₁:=by
  intro H hO hS hok hA hK
  have base_of:∀ {b:Addr}{o:Obj},s₁.heap.get? b=some o->H b=none->(yFl s₁.heap H).get? b=some o:=fun e n=>yFm e n
  have noA:∀ {b:Addr}{o:Obj}{es:Array DictEntry}{ep:Nat},s₁.heap.get? b=some o->o.data=.dict es ep->H b=none:=fun {b o es ep} e d=>by
   cases q:H b with
   | none=>rfl
   | some u =>
    have e':b=a:=hA b (by rw [q];simp)
    subst e'
    rw [ha] at e;cases e
    have d':Data.seq vs.toArray _=Data.dict es ep:=d
    cases d'
  have nsK:∀ {b:Addr}{m:Str->Option Value},s₁.heap.Ns b m->(yFl s₁.heap H).Ns b m:=fun {b m} ⟨o,es,ep,e,d,r⟩=>⟨o,es,ep,base_of e (noA e d),d,r⟩
  have hKb:K.In (yFl s₁.heap H):=fun b o e=>base_of (KX b o e) (by
   cases q:H b with
   | none=>rfl
   | some u =>
    have e':b=a:=hA b (by rw [q];simp)
    subst e'
    rw [hK (by rw [q];simp)] at e;cases e)
  have hM:Mod K mg (yFl s₁.heap H):=⟨hKb,nsK hns,⟨mb,nsK hb,hbb⟩,let ⟨mc,h1,h2⟩:=hlim;⟨mc,nsK h1,h2⟩⟩
  have e0:Env0 P w K mg (yFl s₁.heap H) callerA [] s₁ H:=⟨rfl,hM,fun b o e=>yJe e,le_of_eq (yCc _ _),trivial,fun b hb=>absurd (show b∈([]:List Addr) from hb) (by simp),hok,.of_eq hg⟩
  refine codeAny_mono ((F _ hKb (nsK hns)).run callerA [] s₁ H ⟨[.ref a],[]⟩ [.ref a] [.ref a] _ _ hr e0 (hbind s₁ (.ref a)) (.cons rfl .nil) (hsp H hO hS)) fun r s' h=>?_
  cases r with
  | error e=>exact (hCX H e s' h).elim
  | ok fl =>
   cases fl with
   | next=>exact False.elim h
   | brk=>exact False.elim h
   | cont=>exact False.elim h
   | ret u =>
    obtain ⟨v,H',os,bare,un,hok',r',q⟩:=h
    have q':v=.bl true:=q
    subst q'
    obtain rfl:u=Value.bool true:=r'
    refine ⟨rfl,OldK.of_keep fun b o e=>?_,os,bare⟩
    cases q:H b with
    | none=>exact un.keep b o e q (by intro z;exact absurd (show b∈([]:List Addr) from z) (by simp)) (by simp)
    | some u =>
     rcases hO b with z|⟨ob,xs,z⟩
     .rw [q] at z;cases z
     .have z2:=un.frzs b ob _ z
      obtain ⟨e1,_⟩:=hok b _ z
      obtain ⟨e2,_⟩:=hok' b _ z2
      rw [e] at e1;cases e1
      exact e2
 cases hk:K.lookup a with
 | some o =>
  have e:=KX a o hk
  rw [ha] at e
  cases e
  refine core (fun _=>none) (fun _=>.inl rfl) (.inr ⟨_,vs.toArray,_,hk,rfl,rfl,rfl,by rw [size_toArray,lenV];exact hl,by simpa using rv⟩) (fun b u z=>by have z':(none:Option HO)=some u:=z;cases z') (fun b z=>absurd rfl z) fun z=>absurd rfl z
 | none =>
  refine core (fun b=>if b=a then some (.frz { cls:=.type "list",data:=.seq vs.toArray } (.lst (ns.map V.int))) else none) (fun b=>?_) (.inl (.inr ⟨{ cls:=.type "list",data:=.seq vs.toArray },if_pos rfl⟩)) (fun b u z=>?_) (fun b z=>?_) fun _=>hk
  .by_cases hb:b=a
   .exact .inr ⟨_,_,if_pos hb⟩
   .exact .inl (if_neg hb)
  .by_cases hb:b=a
   .have z':=(if_pos hb).symm.trans z
    cases z'
    subst hb
    exact ⟨ha,by rw [length_map];exact hl,vs,_,rv,ha⟩
   .have z':=(if_neg hb).symm.trans z
    cases z'
  .by_cases hb:b=a
   .exact hb
   .exact absurd (if_neg hb) z
end L2
namespace L2
open PySem PySem.Spec PyProof.Rows
theorem walk_of {l:PySem.W.OpenLaw}{n k:Nat}{q:Program}{loose:List Str}{XP:(Str->Option Value)->Heap->Prop}{YP:World->Heap->Prop}{d:DefRec}{K:Params->PySem.W.Frag}{CX:World->CXT}{sp:World->Sp}{x:Str}
  (hn:l.most=some n) (hn2:n<=sizeLine) (hdf:d.params.defaults=[]) (hr:Room k callerA)
  (hY:∀ (w:World) (h:Heap),YP w h->(K w.params).In h)
  (F:∀ (w:World) (mg:Str->Option Value) (fa:Addr) (h:Heap),(K w.params).In h->h.Ns mainGlobals mg->mg d.name=some (.ref fa) ->
   ∃ fd:FuncData,(∀ (s:Shared) (u:Value),BindsTo s fd ⟨[u],[]⟩ [(x,u)]) /\
    ∀ base:Heap,(K w.params).In base->base.Ns mainGlobals mg->FnOk l.prog w (K w.params) mg base (CX w) k fa fd [x] (sp w))
  (hsp:∀ (w:World) (H:Hp) (a:Addr) (ns:List Int),ns.length<=n->yOT H->SqL (K w.params) H a (ns.map V.int)->sp w [.ref a] H (fun v _=>v=.bl true) fun _ _ _=>False)
  (hCX:∀ (w:World) (H:Hp) (s:Shared) (e:Value) (s':Shared),CX w [] H s (fun _ _ _=>False) e s'->False) :
  PySem.W.WalkO q loose XP YP l.row.toRowW d [] (fun f vs=>PySem.call f vs):=by
 refine Att.attach_call hn hdf fun w s₀ s₁ mg mb fa o pm cd doc a vs ns G Y ho hd hcd hmg hobj hints hlen hg=>?_
 have KX:=hY w _ Y
 obtain ⟨fd,hb,hF⟩:=F w mg fa _ KX G.T.g hmg
 exact yFG KX G.T.g G.T.b G.T.builtins G.T.nolimit hg hobj hints (Nat.le_trans hlen hn2) hr hF hb (fun H hO hS=>hsp w H a ns hlen hO hS) fun H e s'=>hCX w H s₁ e s'
end L2
namespace L2
open PySem PySem.Spec PyProof.Rows
noncomputable def inClass (s:Stmt) (j:Nat):Stmt:=match s with
 | .ClassDef _ _ _ body _ _ _ _ _ _ _=>body.getD j (.Pass ⟨0,0,0,0⟩)
 | _=>.Pass ⟨0,0,0,0⟩
noncomputable def yyf (s:Stmt):Arguments:=match s with
 | .FunctionDef _ a _ _ _ _ _ _ _ _=>a
 | _=>{ posonlyargs:=[],args:=[],vararg:=none,kwonlyargs:=[],kw_defaults:=[],kwarg:=none,defaults:=[] }
def ylR (s:Stmt):List Stmt:=match s with
 | .FunctionDef _ _ b _ _ _ _ _ _ _=>b
 | _=>[]
noncomputable def yh (s:Stmt):Scope:=match s with
 | .FunctionDef _ _ _ _ _ _ sc _ _ _=>sc
 | _=>{ kind:=.function,names:=[],isGenerator:=false,isCoroutine:=false }
abbrev CX0:CXT:=fun _ _ _ _ _ _=>False
abbrev E0:XK:=fun _ _ _=>False
theorem yvU {X:Cx}:ynm CX0 X E0:=fun _ _ _ _ _ _ _ h=>h.elim
structure Fun (K:PySem.W.Frag) (x qual:Str) (st:Stmt) (f:Addr) (fd:FuncData):Prop where
 ex:∃ (oc:Value) (od:Option Addr) (kV doc pm:Value) (an:Option Addr) (cdv ct:Value) (osl:Array (Option Value)),
  fd=fnOf x qual (yyf st) (ylR st) (yh st) .none kV doc pm an cdv ct/\K.lookup f=some ⟨oc,od,.func fd,osl⟩/\codeIn K cdv qual=true
 kp:keepIn K (.ref f)=true
section
variable {P:Program}{w:World}{K:PySem.W.Frag}{mg:Str->Option Value}{base:Heap}
theorem Fun.ok {x qual:Str}{st:Stmt}{f:Addr}{fd:FuncData}{N ps:List Str}{k:Nat}{sp:Sp}(F:Fun K x qual st f fd) (S:yi N ps (yh st)) (len:∀ vs H Q E,sp vs H Q E->vs.length=ps.length)
  (hbody:∀ (cdv:Value) (A:Around) (outer:List Env) (s:Shared) (H:Hp) (vs:List V) (Q:VK) (E:XK),Room k (A.deeper (envOfC qual (yh st) s.heap.objs.size f cdv))->sp vs H Q E ->
   ∃ t,PSs (yFE CX0 P w K mg base N qual (yh st) f cdv A outer s H E).nox (ylR st) t/\t { nx:=fun _ H'=>Q .non H',rt:=Q } (start N vs) H):FnOk P w K mg base CX0 (k+1) f fd ps sp:=by
 obtain ⟨oc,od,kV,doc,pm,an,cdv,ct,osl,rfl,lk,hcd⟩:=F.ex
 refine yOQ lk hcd S len fun A outer s H vs Q E hr hsp=>?_
 obtain ⟨t,h,q⟩:=hbody cdv A outer s H vs Q E hr hsp
 exact ⟨t,h.nox,q⟩
theorem fun_mk {x qual:Str}{st:Stmt}{f:Addr}{oc:Value}{od an:Option Addr}{osl:Array (Option Value)}{kV doc pm cdv ct:Value}(l:K.lookup f=some ⟨oc,od,.func (fnOf x qual (yyf st) (ylR st) (yh st) .none kV doc pm an cdv ct),osl⟩)
  (c:codeIn K cdv qual=true) (k:keepIn K (.ref f)=true):Fun K x qual st f (fnOf x qual (yyf st) (ylR st) (yh st) .none kV doc pm an cdv ct):=⟨⟨oc,od,kV,doc,pm,an,cdv,ct,osl,rfl,l,c⟩,k⟩
end
theorem yMu {A:Around}{k:Nat}(hr:Room k A):A.units+1<cLine:=Nat.lt_of_le_of_lt (Nat.add_le_add_left (by decide:1<=64) _) hr.units
theorem yvV {n:Nat}(h:n<=1000):n<sizeLine:=Nat.lt_of_le_of_lt h (by decide)
section
variable {X:Cx}
end
def Same (H H':Hp):Prop:=∀ b o,H b=some o->H' b=some o
theorem Same.refl (H:Hp):Same H H:=fun _ _ h=>h
theorem Same.trans {H H1 H2:Hp}(a:Same H H1) (b:Same H1 H2):Same H H2:=fun c o h=>b c o (a c o h)
theorem Same.free {H H':Hp}(e:Same H H') {l:Addr}(h:H' l=Option.none):H l=Option.none:=by
 cases q:H l with
 | none=>rfl
 | some o =>
  rw [e l o q] at h
  cases h
theorem Same.seq {K:PySem.W.Frag}{H H':Hp}{a:Addr}{xs:List V}(e:Same H H') (h:SqL K H a xs):SqL K H' a xs:=by
 rcases h with (h|⟨o,h⟩)|h
 .exact .inl (.inl (e _ _ h))
 .exact .inl (.inr ⟨o,e _ _ h⟩)
 .exact .inr h
end L2
namespace L2
open PySem PySem.Spec PyProof.Rows
def cV:V->Option Value
 | .ty n=>some (.type n)
 | .ref a=>some (.ref a)
 | _=>none
def IsI (K:PySem.W.Frag) (H:Hp) (x c:V) (b:Bool):Prop:=∃ t u,yzH K H x t/\cV c=some u/\PySem.W.kitOne K t u=some b
theorem yyg {K:PySem.W.Frag}{H:Hp}{i:Int}:IsI K H (.int i) (.ty "int") true:=⟨_,_,.int i,rfl,by with_unfolding_all rfl⟩
theorem yvW {K:PySem.W.Frag}{H:Hp}{i:Int}:IsI K H (.int i) (.ty "bool") false:=⟨_,_,.int i,rfl,by with_unfolding_all rfl⟩
theorem yyh {K:PySem.W.Frag}{H:Hp}:IsI K H .non (.ty "int") false:=⟨_,_,.non,rfl,by with_unfolding_all rfl⟩
theorem yyi {K:PySem.W.Frag}{H:Hp}{i:Bool}:IsI K H (.bl i) (.ty "bool") true:=⟨_,_,.bl i,rfl,by with_unfolding_all rfl⟩
theorem yyj {K:PySem.W.Frag}{H:Hp}{i:Str}:IsI K H (.str i) (.ty "str") true:=⟨_,_,.str i,rfl,by with_unfolding_all rfl⟩
theorem yvX {K:PySem.W.Frag}{H:Hp}{a:Addr}{xs:List V}(e:H a=some (.lst xs)):IsI K H (.ref a) (.ty "list") true:=⟨_,_,.lst e,rfl,by with_unfolding_all rfl⟩
theorem str_len {v:Int}(h0:0<=v) {k:Nat}(hk:0<k) (h:v<10 ^ k):(Str.ofString (toString v)).length<=k:=toString_length_le h0 hk h
end L2
namespace L2
open PySem
abbrev yOU:R2:=rI0 fun i j=>.int (i+j)
abbrev yOV:R2:=rI0 fun i j=>.int (i-j)
abbrev yOW:R2:=rI CMul fun i j=>.int (i*j)
abbrev yOX:R2:=rI yRl fun i j=>.int (i/j)
abbrev yOY:R2:=rI (fun _ j=>0<j) fun i j=>.int (i%j)
abbrev yOZ:R2:=rI yON fun i j=>.int (i ^ j.toNat)
abbrev yRQ:R2:=rI0 fun i j=>.bl (decide (i<j))
abbrev yRR:R2:=rI0 fun i j=>.bl (decide (i<=j))
abbrev yRS:R2:=rI0 fun i j=>.bl (decide (j<i))
abbrev yRT:R2:=rI0 fun i j=>.bl (decide (j<=i))
abbrev yPa:V->Hp->VK->Prop:=rU fun i=>.int (-i)
def yPb:R2:=fun x y H Q=>∃ i j,x=.str i/\y=.str j/\i.length+j.length<=sizeLine/\Q (.str (i++j)) H
def yRU:R2:=fun x y H Q=>y=.non/\Q (.bl (decide (x=.non))) H
def yPc:R2:=fun x y H Q=>y=.non/\Q (.bl (!decide (x=.non))) H
def yPd:List V->Hp->VK->Prop:=fun xs H Q=>∃ z,xs=[.str z]/\z.length<=sizeLine/\Q (.int z.length) H
def yMv (K:PySem.W.Frag):List V->Hp->VK->Prop:=fun xs H Q=>∃ p ys,xs=[.ref p]/\(SqL K H p ys\/SqT K H p ys)/\Q (.int ys.length) H
def yPe:List V->Hp->VK->Prop:=fun xs H Q=>∃ i,xs=[.int i]/\i.natAbs.log2<1920/\Q (.str (toString i)) H
def yRw (K:PySem.W.Frag):List V->Hp->VK->Prop:=fun xs H Q=>∃ x c b,xs=[x,c]/\IsI K H x c b/\Q (.bl b) H
theorem ygW {H:Hp}{p:Addr}(h:H p=none) (o:HO):Same H (upd H p o):=fun b u q=>by rw [yL (ycd q h)];exact q
section
variable {K:PySem.W.Frag}{σ:St}{H:Hp}{Q:VK}{ta tb tc:TE}{tA tB':TT}{t u:TS}{D:Ends}
theorem w_not {Q:Bool->Hp->Prop}:yOF tA σ H Q=tA σ H fun c H1=>Q (!c) H1:=rfl
end
end L2
namespace L2
open PySem
def yJx (cs:List Nat):Int:=cs.foldl (fun (a:Int) (c:Nat)=>a*10+((c:Int)-48)) 0
noncomputable def yMw:List V->Hp->VK->Prop:=fun xs H Q=>∃ x:Str,xs=[.str x]/\x.cps.toList≠[]/\(∀ c∈x.cps.toList,48<=c/\c<=57)/\x.length<=640/\Q (.int (yJx x.cps.toList)) H
def yRx:R2:=fun x y H Q=>∃ (c:Nat) (j:Str),x=.str ⟨#[c]⟩/\y=.str j/\Q (.bl (decide (c∈j.cps.toList))) H
noncomputable def yCG:V->List V->Hp->VK->Prop:=fun x vs H Q=>∃ (z:Str) (c:Nat),x=.str z/\vs=[.str ⟨#[c]⟩]/\z.length<=1000/\c∈z.cps.toList/\Q (.int (z.cps.toList.idxOf c)) H
noncomputable def yRy:List V->Hp->VK->Prop:=fun xs H Q=>∃ (p:Addr) (bs:List Bool),xs=[.ref p]/\H p=some (.lst (bs.map V.bl))/\Q (.bl (bs.all id)) H
noncomputable def yRz:List V->Hp->VK->Prop:=fun xs H Q=>∃ (p:Addr) (ns:List Int),xs=[.ref p]/\H p=some (.lst (ns.map V.int))/\Q (.int ns.sum) H
def yJy (K:PySem.W.Frag):List V->Hp->VK->Prop:=fun xs H Q=>∃ p ys,xs=[.ref p]/\(SqL K H p ys\/SqT K H p ys)/\∀ l,H l=none->Q (.ref l) (upd H l (.lst ys))
noncomputable def Its (z:Str):It:=⟨fun i _=>i<z.length,fun i H x H'=>H'=H/\∃ c,z.cps.toList[i]?=some c/\x=.str ⟨#[c]⟩,fun i _=>i=z.length⟩
def yRA (ta:TE):TI:=fun σ H R=>ta σ H fun x H1=>∃ z,x=.str z/\z.length<=sizeLine/\R (Its z) H1
noncomputable def yPf (J:It) (te:TE) (inn:V->St) (D:Addr) (Q:VK) (H:Hp):Prop:=∃ W:Nat->Nat->Hp->Prop,(∃ m,W 0 m H)/\∀ i m H,W i m H ->
 (J.stop i H/\Q (.ref D) H)\/(J.go i H/\∀ x H',J.yld i H x H'->te (inn x) H' fun y H2=>∃ acc,H2 D=some (.lst acc)/\acc.length<sizeLine/\∃ m',m'<m/\W (i+1) m' (upd H2 D (.lst (acc++[y]))))
def inner (ix:List Nat) (σ:St) (x:V):St:=some x::ix.map fun i=>(σ[i]?).getD none
def yFH (wi:TI) (ix:List Nat) (te:TE):TE:=fun σ H Q=>wi σ H fun J H1=>∀ D,H1 D=none->yPf J te (inner ix σ) D Q (upd H1 D (.lst []))
section
variable {K:PySem.W.Frag}{σ:St}{H:Hp}{Q:VK}{ta tb tc:TE}{tA tB':TT}{t u:TS}{D:Ends}
end
end L2
namespace L2
open PySem
def yIk (C:Addr):TE:=fun _ H Q=>∀ x dx,H x=none->H dx=none->dx≠x->Q (.ref x) (upd (upd H dx (.own x)) x (.ins C dx []))
noncomputable def yIl {κ:Type}(A:κ->Addr) (m:Str) (sp:κ->Sp) (ta:TE):TE:=fun σ H Q=>ta σ H fun x H1=>∃ a k dx fs,x=.ref a/\H1 a=some (.ins (A k) dx fs)/\fs.lookup m=none/\sp k [x] H1 Q E0
theorem yPg {k:Str}{v:V}{r:List (Str×V)}:List.lookup k ((k,v)::r)=some v:=by simp [List.lookup]
theorem yMx {k k':Str}{v:V}{r:List (Str×V)}(h:¬ k=k'):List.lookup k ((k',v)::r)=List.lookup k r:=by
 have:(k == k')=false:=by simpa using h
 simp [List.lookup,this]
section
variable {K:PySem.W.Frag}{σ:St}{H:Hp}{Q:VK}{ta tb tc:TE}{t u:TS}{D:Ends}
end
end L2
namespace L2
open PySem PySem.Builtin PySem.Builtin.Str
theorem at_one {z:Str}{c i:Nat}:StrLaws.At z ⟨#[c]⟩ z.length i ↔ z.cps.toList[i]?=some c:=by
 unfold StrLaws.At subAt
 have e1:(⟨#[c]⟩:Str).length=1:=rfl
 rw [e1]
 have e2:(z.cps.extract i (i+1) == (⟨#[c]⟩:Str).cps)=true ↔ z.cps.extract i (i+1) = #[c]:=by simp
 rw [e2]
 constructor
 .rintro ⟨h1,h2⟩
  have h3:(z.cps.extract i (i+1)).toList=[c]:=by rw [h2]
  rw [Array.toList_extract,List.extract_eq_take_drop] at h3
  have h4:((z.cps.toList.drop i).take (i+1-i))[0]?=some c:=by rw [h3];rfl
  rw [List.getElem?_take_of_lt (by omega),List.getElem?_drop] at h4
  simpa using h4
 .intro h
  obtain ⟨hlt,hc⟩:=List.getElem?_eq_some_iff.mp h
  have hl:i<z.length:=by simpa [Str.length] using hlt
  refine ⟨by omega,?_⟩
  apply Array.ext'
  rw [Array.toList_extract,List.extract_eq_take_drop]
  have e:i+1-i=1:=by omega
  rw [e,List.drop_eq_getElem_cons hlt,hc]
  rfl
theorem yCH (z:Str) (c:Nat):(occurrences z ⟨#[c]⟩ 0 z.length 1=[]/\c∉z.cps.toList)\/∃ r,occurrences z ⟨#[c]⟩ 0 z.length 1=z.cps.toList.idxOf c::r/\c∈z.cps.toList:=by
 rcases StrLaws.occ_head z ⟨#[c]⟩ 1 (Nat.le_refl _) with ⟨h1,h2⟩|⟨i,r,h1,h2,h3⟩
 .refine .inl ⟨h1,fun hc=>?_⟩
  obtain ⟨i,hi,e⟩:=getElem_of_mem hc
  exact h2 i (at_one.mpr (List.getElem?_eq_some_iff.mpr ⟨hi,e⟩))
 .have hi:=at_one.mp h2
  obtain ⟨hlt,hc⟩:=List.getElem?_eq_some_iff.mp hi
  have hm:c∈z.cps.toList:=mem_of_getElem? hi
  refine .inr ⟨r,?_,hm⟩
  have hj:z.cps.toList.idxOf c<z.cps.toList.length:=List.idxOf_lt_length_of_mem hm
  have hg:z.cps.toList[z.cps.toList.idxOf c]?=some c:=by
   rw [List.getElem?_eq_getElem hj,List.getElem_idxOf hj]
  have e:i=z.cps.toList.idxOf c:=by
   rcases Nat.lt_trichotomy i (z.cps.toList.idxOf c) with h|h|h
   .exact absurd hc (by
     have:=List.not_of_lt_findIdx (p:=(· == c)) (xs:=z.cps.toList) (i:=i) (by simpa [idxOf] using h)
     simpa using this)
   .exact h
   .exact absurd (at_one.mpr hg) (h3 _ h)
  rw [h1,e]
end L2
namespace L2
open PySem PySem.Spec PyProof.Rows
theorem ydA {env:Env}(y:Str):∀ names:List (Str×NameKind),
  (names.map fun (n,k)=>if (k == NameKind.free && env.scope.kind == .function && env.kindOf n == some .cell) then (n,NameKind.cell) else (n,k)).lookup y
   = (names.lookup y).map fun k=>if (k == NameKind.free && env.scope.kind == .function && env.kindOf y == some .cell) then NameKind.cell else k
 | []=>rfl
 | (n,k)::r=>by
  have ih:=ydA (env:=env) y r
  show List.lookup y ((if (k == NameKind.free && env.scope.kind == .function && env.kindOf n == some .cell)=true then (n,NameKind.cell) else (n,k))::_)=_
  cases hx:y == n with
  | true =>
   have e:y=n:=eq_of_beq hx
   subst e
   by_cases hc:(k == NameKind.free && env.scope.kind == .function && env.kindOf y == some .cell)=true
   .rw [if_pos hc]
    simp only [lookup_cons,hx,map_some,if_pos hc]
   .rw [if_neg hc]
    simp only [lookup_cons,hx,map_some,if_neg hc]
  | false =>
   by_cases hc:(k == NameKind.free && env.scope.kind == .function && env.kindOf n == some .cell)=true
   .rw [if_pos hc];simp only [lookup_cons,hx];exact ih
   .rw [if_neg hc];simp only [lookup_cons,hx];exact ih
theorem ygX {env:Env}:∀ (names:List (Str×NameKind)) (cs:List (Str×Addr)),(∀ n,(n,NameKind.free)∈names->∃ c,env.cells.lookup n=some c) ->
  ∃ cl,(forIn names cs (fun (x:Str×NameKind) (r:List (Str×Addr))=>if (x.2 == NameKind.free)=true then do let c <- cellOf env x.1;pure (ForInStep.yield ((x.1,c)::r)) else pure (ForInStep.yield r)):Sem (List (Str×Addr)))=pure cl /\
   (∀ y,(y,NameKind.free)∈names->cl.lookup y=env.cells.lookup y)/\(∀ y,(y,NameKind.free)∉names->cl.lookup y=cs.lookup y)
 | [],cs,_=>⟨cs,rfl,fun y h=>by simp at h,fun y _=>rfl⟩
 | (n,k)::r,cs,h=>by
  by_cases hk:k=.free
  .subst hk
   obtain ⟨c,hc⟩:=h n mem_cons_self
   obtain ⟨cl,e,h1,h2⟩:=ygX r ((n,c)::cs) fun y hy=>h y (mem_cons_of_mem _ hy)
   refine ⟨cl,?_,fun y hy=>?_,fun y hy=>?_⟩
   .rw [List.forIn_cons]
    have e0:cellOf env n=pure c:=by unfold cellOf;rw [hc]
    simp only [beq_self_eq_true,if_true,e0,pure_bind]
    exact e
   .by_cases hr:(y,NameKind.free)∈r
    .exact h1 y hr
    .rw [h2 y hr]
     rcases mem_cons.mp hy with z|z
     .cases z
      rw [hc];simp [List.lookup]
     .exact absurd z hr
   .have hr:(y,NameKind.free)∉r:=fun z=>hy (mem_cons_of_mem _ z)
    rw [h2 y hr]
    have hn:(y == n)=false:=by
     cases e:y == n with
     | false=>rfl
     | true=>exact absurd (by rw [eq_of_beq e];exact mem_cons_self) hy
    simp [List.lookup,hn]
  .obtain ⟨cl,e,h1,h2⟩:=ygX r cs fun y hy=>h y (mem_cons_of_mem _ hy)
   have hb:(k == NameKind.free)=false:=by simpa using hk
   refine ⟨cl,?_,fun y hy=>?_,fun y hy=>?_⟩
   .rw [List.forIn_cons]
    simp only [hb,Bool.false_eq_true,if_false,pure_bind]
    exact e
   .rcases mem_cons.mp hy with z|z
    .cases z;exact absurd rfl hk
    .exact h1 y z
   .exact h2 y fun z=>hy (mem_cons_of_mem _ z)
noncomputable def cxC (X:Cx) (scope:Scope) (cl:List (Str×Addr)) (C:Addr) (N:List Str) (s₃:Shared) (H₃:Hp) (fp:List Addr) (pins:List (Addr×Obj)):Cx :=
 { prog:=X.prog,w:=X.w,K:=X.K,mg:=X.mg,base:=X.base,A:=X.A,N:=N,s₀:=s₃,H₀:=H₃,env:=compEnvC scope cl C X.env,outer:=X.stack,stack:=X.stack,ex:=fp,fn:=fun _=>false,calm:=X.calm,pn:=X.pn++pins,xe:=fun _ _=>False }
noncomputable def FrOk (X:Cx) (scope:Scope):List Nat->List Str->Prop
 | [],[]=>True
 | i::is,y::ys=>X.N[i]?=some y/\scope.names.lookup y=some .free/\X.env.kindOf y=some .cell/\FrOk X scope is ys
 | _,_=>False
theorem FrOk.len {X:Cx}{scope:Scope}:∀ {is:List Nat}{ys:List Str},FrOk X scope is ys->is.length=ys.length
 | [],[],_=>rfl
 | _::is,_::ys,h=>by rw [length_cons,length_cons,FrOk.len h.2.2.2]
theorem FrOk.get {X:Cx}{scope:Scope}:∀ {is:List Nat}{ys:List Str}{j:Nat}{y:Str},FrOk X scope is ys->ys[j]?=some y->∃ i,is[j]?=some i/\X.N[i]?=some y/\scope.names.lookup y=some .free/\X.env.kindOf y=some .cell
 | [],[],_,_,_,e=>by simp at e
 | [],_::_,_,_,h,_=>h.elim
 | _::_,[],_,_,h,_=>h.elim
 | i::is,z::ys,0,y,h,e=>by
  simp at e
  subst e
  exact ⟨i,rfl,h.1,h.2.1,h.2.2.1⟩
 | i::is,z::ys,j+1,y,h,e=>by
  obtain ⟨k,h1,h2⟩:=FrOk.get (j:=j) h.2.2.2 (by simpa using e)
  exact ⟨k,by simpa using h1,h2⟩
theorem yCI {X:Cx}{elt iter:Expr}{x:Str}{px:Pos}{scope:Scope}{cpos:Pos}{wi:TI}{te:TE}(ix:List Nat) (fr:List Str) (hc:X.calm=true) (hi:PI X (.Name x px) iter wi) (hfr:FrOk X scope ix fr)
  (he:∀ (cl:List (Str×Addr)) (C:Addr) (s₃:Shared) (H₃:Hp) (fp:List Addr) (pins:List (Addr×Obj)),PE (cxC X scope cl C (x::fr) s₃ H₃ fp pins) elt te)
  (hnd:(x::fr).Nodup:=by rfl') (hkind:scope.kind=.function:=by rfl) (hcell:∀ y∈scope.names,y.2≠.cell:=by rfl')
  (hnames:∀ y∈scope.names,y.2=.local->scope.names.lookup y.1=some .local:=by rfl') (hfree0:∀ y∈scope.names,y.2=.free->y.1∈fr:=by rfl') (hx:scope.names.lookup x=some .local:=by rfl)
  (hs:∀ v,foldedSetIterable iter X.env v=pure v:=by intro _;rfl):PE X (.ListComp elt [⟨.Name x px,iter,[],0⟩] scope cpos) (yFH wi ix te):=by
 intro pins s σ H Q I h
 have hfn:X.env.scope.kind=.function:=I.ok.kind
 have hfree:∀ y∈scope.names,y.2=.free->X.env.kindOf y.1=some .cell/\scope.names.lookup y.1=some .free:=fun y hy e=>by
  obtain ⟨j,hj,ej⟩:=getElem_of_mem (hfree0 y hy e)
  obtain ⟨i,_,_,h3,h4⟩:=hfr.get (j:=j) (y:=y.1) (by rw [List.getElem?_eq_getElem hj,ej])
  exact ⟨h4,h3⟩
 obtain ⟨cl,ecl,hcl1,hcl2⟩:=ygX (env:=X.env) scope.names [] fun n hn=>I.ok.has n (.inl (hfree _ hn rfl).1)
 have hclos:closureFor scope X.env=pure cl:=by
  unfold closureFor
  have:(forIn scope.names ([]:List (Str×Addr)) (fun (x:Str×NameKind) (r:List (Str×Addr))=>if (x.2 == NameKind.free)=true then do let c <- cellOf X.env x.1;pure (ForInStep.yield ((x.1,c)::r)) else pure (ForInStep.yield r)):Sem (List (Str×Addr)))=pure cl:=ecl
  first
   | exact (by simpa using congrArg (· >>= fun r=>pure r) this)
   | (rw [show (pure cl:Sem (List (Str×Addr)))=(pure cl >>= fun r=>pure r) from rfl,<- this];rfl)
 have hcle:∀ y c,cl.lookup y=some c->X.env.cells.lookup y=some c/\(y,NameKind.free)∈scope.names:=fun y c e=>by
  by_cases hy:(y,NameKind.free)∈scope.names
  .exact ⟨by rw [<- hcl1 y hy];exact e,hy⟩
  .rw [hcl2 y hy] at e;simp at e
 rw [eval_ListComp]
 refine wpAny_comprehension_free (use:=none) rfl hs hclos hkind hnames ?_
 refine thn (hi pins s σ H _ I h) fun v s1 h1=>thn h1 fun itv s2 h2=>?_
 obtain ⟨it,fp,tn,J,H2,e,I2,T,st2,f2,q2⟩:=h2
 subst e
 refine wpAny_newObj_type ?_
 generalize hs3:({ s2 with heap:=s2.heap.push { cls:=.type "list",dict:=none,data:=.seq ([]:List Value).toArray } }:Shared)=s3
 generalize hD:s2.heap.objs.size=D
 have hDn:H2 D=none:=by rw [<- hD];exact I2.hok.fresh (Nat.le_refl _)
 have I3:Inv X pins σ (upd H2 D (.lst [])) s3:=by
  rw [<- hs3,<- hD]
  exact I2.lnew (t':=s2.toks) (ys:=[]) (its:=[]) .nil (zero_le _)
 have k3:∀ b o,s2.heap.get? b=some o->s3.heap.get? b=some o:=fun b o e=>by rw [<- hs3];exact Heap.get?_push_of_some _ e
 have st3:tn 0 s3.heap:=T.keep _ _ _ st2 fun b _ o e=>k3 b o e
 have fne:∀ b∈fp,b≠D:=fun b hb=>by
  obtain ⟨o,e,_⟩:=T.obj _ _ st2 b hb
  rw [<- hD]
  exact ne_of_lt (Heap.lt_size e)
 have f3:∀ b∈fp,yCg X pins (upd H2 D (.lst [])) b:=fun b hb=>⟨by rw [yL (fne b hb)];exact (f2 b hb).1,(f2 b hb).2⟩
 have q3:=q2 D hDn
 generalize upd H2 D (.lst [])=H3 at I3 f3 q3
 obtain ⟨W,⟨m0,w0⟩,turn⟩:=q3
 refine wpAny_newFunctionEnv hcell (by intro y hy;simp at hy) (fun h4 hns hsb=>?_) hkind
 try dsimp only at hns hsb ⊢
 generalize hC:s3.heap.objs.size=C at hns hsb ⊢
 have k4:∀ b o,s3.heap.get? b=some o->h4.get? b=some o:=fun b o e=>(hsb.2 b (by rw [<- hC];exact ne_of_lt (Heap.lt_size e))).trans (Heap.get?_push_of_some _ e)
 have Cne:∀ b o,s3.heap.get? b=some o->b≠C:=fun b o e=>by rw [<- hC];exact ne_of_lt (Heap.lt_size e)
 have stk:=I3.stkSub
 have pinF:∀ p∈X.pn++pins,p.1∉frs X.stack:=fun p hp z=>by
  obtain ⟨_,_,n1,n2,_⟩:=I3.pin p hp
  rcases mem_cons.mp (stk _ z) with z|z
  .exact n1 z
  .exact n2 z
 have okC:(cxC X scope cl C (x::fr) s3 H3 fp pins).Ok:=by
  refine ⟨I3.ok.mod,by show (relabel scope X.env).kind=_;exact hkind,I3.ok.glob,I3.ok.blt,le_of_eq hC,fun y z c h1 h2=>I3.ok.inj y z c (hcle y c h1).1 (hcle z c h2).1,fun y hy=>?_,fun y c hf _=>(by cases hf),I3.ok.hd,I3.ok.frames,.inl rfl,fun b hb=>⟨?_,fun y c e z=>?_⟩,I3.bs,?_,fun b o e hb=>?_,fun b hb z=>?_,I3.stack,I3.stkFree⟩
  .have hy:((relabel scope X.env).names.lookup y=some .cell)\/((relabel scope X.env).names.lookup y=some .free):=hy
   rw [show (relabel scope X.env).names.lookup y=_ from ydA y scope.names] at hy
   cases e:scope.names.lookup y with
   | none=>rw [e] at hy;simp at hy
   | some k =>
    have hm:(y,k)∈scope.names:=PySem.mem_of_lookup e
    have hkf:k=.free:=by
     rw [e] at hy
     cases k<;>simp at hy ⊢
     exact absurd rfl (hcell _ hm)
    subst hkf
    obtain ⟨c,hc'⟩:=I3.ok.has y (.inl (hfree _ hm rfl).1)
    exact ⟨c,by show cl.lookup y=_;rw [hcl1 y hm];exact hc'⟩
  .obtain ⟨o,e,_⟩:=T.obj _ _ st3 b hb
   exact Cne b o e
  .exact (f3 b hb).2.2.2.2.1 y c (hcle y c e).1 z
  .exact Nat.le_trans I3.ok.bsz I3.sz
  .rcases (f3 b hb).2.2.2.1 with z|z
   .exact I3.ok.noex b o e z
   .exact absurd (lt_of_lt_of_le (Heap.lt_size e) (Nat.le_trans I3.ok.bsz z)) (lt_irrefl _)
  .rcases mem_cons.mp (stk _ z) with z|z
   .exact (f3 b hb).2.1 z
   .exact (f3 b hb).2.2.1 z
 have inn:∀ v,(inner ix σ v)=some v::ix.map fun i=>(σ[i]?).getD none:=fun _=>rfl
 have I4:Inv (cxC X scope cl C (x::fr) s3 H3 fp pins) [] (none::ix.map fun i=>(σ[i]?).getD none) H3 { s3 with heap:=h4,toks:=s3.toks+([]:List (Str×Value)).length }:=by
  refine ⟨okC,rfl,I3.bare,Un.kept k4,⟨_,hns,fun j y v e1 e2 e3=>?_⟩,fun y c e=>?_,I3.hok.fresh (le_of_eq hC),fun y c e=>I3.freeC y c (hcle y c e).1,fun p hp=>?_,I3.hok.kept k4,?_⟩
  .match j,e1,e2 with
   | 0,e1,e2=>simp at e2
   | j+1,e1,e2 =>
    obtain ⟨i,hi1,hi2,hi3,hi4⟩:=hfr.get (j:=j) (y:=y) (by have e1':(x::fr)[j+1]?=some y:=e1;simpa using e1')
    have e2':σ[i]?=some (some v):=by
     have e2:(ix.map fun i=>(σ[i]?).getD none)[j]?=some (some v):=by simpa using e2
     rw [getElem?_map,hi1] at e2
     simp at e2
     cases z:σ[i]? with
     | none=>rw [z] at e2;simp at e2
     | some o=>rw [z] at e2;simp at e2;rw [e2]
    obtain ⟨m,_,hl⟩:=I3.loc
    obtain ⟨u,r,l⟩:=hl i y v hi2 e2' (.inr (.inl hi4))
    refine ⟨u,r,?_⟩
    rcases l with ⟨k,_⟩|⟨k,c,ec,z⟩
    .rw [hi4] at k;cases k
    .have hm:(y,NameKind.free)∈scope.names:=PySem.mem_of_lookup hi3
     refine .inr ⟨.inl ?_,c,by show cl.lookup y=_;rw [hcl1 y hm];exact ec,?_⟩
     .show (relabel scope X.env).names.lookup y=_
      rw [show (relabel scope X.env).names.lookup y=_ from ydA y scope.names,hi3]
      simp [hfn,hi4]
     .obtain ⟨o,ho,hd⟩:=z
      exact ⟨o,k4 _ _ ho,hd⟩
  .obtain ⟨v,o,ho,hd⟩:=I3.cell y c (hcle y c e).1
   exact ⟨v,o,k4 _ _ ho,hd⟩
  .have hp:p∈X.pn++pins:=by simpa [cxC] using hp
   obtain ⟨e,n,ne,nf,d⟩:=I3.pin p hp
   exact ⟨k4 _ _ e,n,Cne _ _ e,pinF p hp,d⟩
  .show (none::ix.map fun i=>(σ[i]?).getD none).length=(x::fr).length
   rw [length_cons,length_cons,length_map,hfr.len]
 have st4:tn 0 h4:=T.keep _ _ _ st3 fun b _ o e=>k4 b o e
 have f4:∀ b∈fp,b≠C/\b∉frs X.stack/\(∀ y c,cl.lookup y=some c->c≠b)/\∀ p∈(X.pn++pins)++([]:List (Addr×Obj)),p.1≠b:=fun b hb=>by
  obtain ⟨o,e,_⟩:=T.obj _ _ st3 b hb
  refine ⟨Cne b o e,fun z=>?_,fun y c e=>(f3 b hb).2.2.2.2.1 y c (hcle y c e).1,fun p hp=>(f3 b hb).2.2.2.2.2 p (by simpa using hp)⟩
  rcases mem_cons.mp (stk _ z) with z|z
  .exact (f3 b hb).2.1 z
  .exact (f3 b hb).2.2.1 z
 have stat:∀ {H':Hp},(∀ b∈fp,H' b=none)->∀ b∈fp,yCg (cxC X scope cl C (x::fr) s3 H3 fp pins) [] H' b:=fun hn b hb=>⟨hn b hb,(f4 b hb).1,(f4 b hb).2.1,.inl hb,(f4 b hb).2.2.1,(f4 b hb).2.2.2⟩
 have fin:∀ {σ':St}{H':Hp}{s':Shared},Inv (cxC X scope cl C (x::fr) s3 H3 fp pins) [] σ' H' s'->Q (.ref D) H'->compPost (model X.prog X.w) X.A X.xe none (EP X pins σ Q) (.ref D) C (.ok .next) s':=fun {σ' H' s'} I' q'=>by
  obtain ⟨m,hn,_⟩:=I'.loc
  refine ⟨m,hn,fun h' sb=>⟨.ref D,H',?_,rfl,q'⟩⟩
  have hCn:H' C=none:=I'.free
  have same:∀ b,b≠C->h'.get? b=s'.heap.get? b:=fun b hb=>sb.2 b hb
  have U:=I'.base
  have U':Un (frs X.stack) fp H3 H' s3.heap h':=by
   refine ⟨fun b o e n h1 h2=>?_,fun b o e n h1 h2=>?_,U.free,fun b o e h2=>?_,U.tups,U.frzs,U.tbls⟩
   .rw [same b (Cne b o e)];exact U.keep b o e n h1 h2
   .rw [same b (Cne b o e)];exact U.slot b o e n h1 h2
   .rw [same b (Cne b o e)];exact U.there b o e h2
  refine I3.call' (s':={ s' with heap:=h' }) (by show s'.os=s3.os;exact I'.os) U' ?_ I'.bare fun b hb=>⟨(f3 b hb).2.2.2.1,(f3 b hb).2.1,(f3 b hb).2.2.2.2.1,(f3 b hb).2.2.2.2.2⟩
  intro b ob e
  refine (I'.hok b ob e).stay (fun c w' hc q=>?_) (fun _ q=>q) fun _ _ q=>q
  show h'.get? c=_
  rw [same c ?_]
  .exact q
  rintro rfl
  rcases hc with rfl|hc
  .rw [hCn] at e;cases e
  .rw [hCn] at hc;cases hc
 have loop:∀ s5:Shared,s5={ s3 with heap:=h4,toks:=s3.toks+([]:List (Str×Value)).length } ->
   codeAny (model X.prog X.w) X.A (.compLoop (.ListComp elt [⟨.Name x px,iter,[],0⟩] scope cpos) 0 (.ref it) (.ref D) (compEnvC scope cl C X.env)) (compPost (model X.prog X.w) X.A X.xe none (EP X pins σ Q) (.ref D) C) s5:=by
  rintro s5 rfl
  refine codeAny_loop rfl (fun n s'=>∃ i o H',Inv (cxC X scope cl C (x::fr) s3 H3 fp pins) [] (o::ix.map fun i=>(σ[i]?).getD none) H' s'/\tn i s'.heap/\(∀ b∈fp,H' b=none)/\W i n H') ?_ m0 ⟨0,none,H3,I4,st4,fun b hb=>(f3 b hb).1,w0⟩
  rintro n s6 ⟨i,o,H6,I6,st6,fr6,w6⟩
  show wpAny _ _ ((compTurn (.ListComp elt [⟨.Name x px,iter,[],0⟩] scope cpos) 0 (.ref it) (.ref D) (compEnvC scope cl C X.env)).onRaise (fun x=>do noteFrame x (compEnvC scope cl C X.env);theTreesLotGoes x)) _ _ s6
  refine wpAny_noted ?_
  rw [compTurn_list1]
  rcases turn i n H6 w6 with ⟨stop,qn⟩|⟨go,step⟩
  .refine wpAny_bind (wpAny_standAt (wpAny_bind (thn (T.done (cxC X scope cl C (x::fr) s3 H3 fp pins) rfl rfl rfl hc i [] s6 _ H6 _ I6 (stat fr6) st6 stop) fun r s7 ⟨hr,I7⟩=>?_)))
   subst hr
   exact wpAny_pure (fin I7 qn)
  .refine wpAny_bind (wpAny_standAt (wpAny_bind (thn (T.item (cxC X scope cl C (x::fr) s3 H3 fp pins) rfl rfl rfl hc i [] s6 _ H6 _ I6 (stat fr6) st6 go) fun r s7 ⟨u,hr,h7⟩=>?_)))
   subst hr
   refine wpAny_bind (thn h7 fun _ s8 ⟨y,H8,I8,r8,y8,st8,fr8⟩=>?_)
   have I8':=I8.pinned (stat fr8) (T.obj _ _ st8)
   have hx':Loc (cxC X scope cl C (x::fr) s3 H3 fp pins).env.scope x:=.inl (lookup_relabel_local hx)
   refine wpAny_bind (wpAny_mono (yul (X:=cxC X scope cl C (x::fr) s3 H3 fp pins) (i:=0) (x:=x) (pos:=px) hnd rfl hx' (.inr (lookup_relabel_local hx)) _ s8 _ H8 y u (fun σ9 H9=>σ9=inner ix σ y/\H9=H8) I8' r8 ⟨rfl,rfl⟩) (fun _ s9 ⟨σ9,H9,I9,e9,e9'⟩=>?_) fun _ _ f=>f.elim)
   subst e9 e9'
   refine wpAny_bind (wpAny_bind (wpAny_mono (he cl C s3 H3 fp pins _ s9 _ _ _ I9 (step y _ y8)) (fun v s10 ⟨z,H10,I10,r10,acc,a10,l10,m',hm',w10⟩=>?_) fun _ _ f=>f.elim))
   refine wpAny_bind (wpAny_mono (yid (X:=cxC X scope cl C (x::fr) s3 H3 fp pins) _ s10 _ H10 (.ref D) [z] (.ref D) [v] (fun _ H11=>H11=upd H10 D (.lst (acc++[z]))) I10 rfl (.cons r10 .nil) ⟨D,acc,z,rfl,rfl,a10,l10,rfl⟩) (fun _ s11 ⟨_,H11,I11,_,e11⟩=>?_) fun _ _ f=>f.elim)
   subst e11
   refine wpAny_pure (wpAny_pure ⟨rfl,m',hm',i+1,some y,_,I11.unpinned,T.keep _ _ _ st8 fun b hb o e=>(I11.pin (b,o) (mem_append_right _ (mem_append_right _ (yeI hb e)))).1,fun b hb=>?_,w10⟩)
   obtain ⟨o,e,d⟩:=T.obj _ _ st8 b hb
   exact (I11.pin (b,o) (mem_append_right _ (mem_append_right _ (yeI hb e)))).2.1
 exact codeAny_compStart_list (loop _ rfl) (T.self X.A 0 _ _ _ st4 (loop _ rfl))
end L2
namespace L2
open PySem PySem.Spec PyProof.Rows
theorem yFI {P:Program}{w:World}{K:PySem.W.Frag}{tg:Expr}{ty:String}(hty:ty = "str_ascii_iterator"\/ty = "str_iterator") (z:Str) (t:Tok) (it:Addr):Turn P w K tg (Its z) [it] it (fun i h=>h.IsStrIter it ty z t i) where
 mem:=by simp
 obj:=fun i h st b hb=>by
  have e:b=it:=by simpa using hb
  subst e
  obtain ⟨o,e,c,d⟩:=st
  exact ⟨o,e,fun v q=>by rw [d] at q;cases q⟩
 keep:=fun i h h' st k=>by
  obtain ⟨o,e,c,d⟩:=st
  exact ⟨o,k it (by simp) o e,c,d⟩
 item:=by
  intro X hP hw hK hc i pins s σ H E I hf st hg
  subst hP hw hK
  obtain ⟨f0,f1,f2,f3,f4,f5⟩:=hf it (by simp)
  have hg:i<z.length:=hg
  obtain ⟨ch,hz⟩:∃ ch,z.cps[i]?=some ch:=⟨_,Array.getElem?_eq_getElem (show i<z.cps.size from hg)⟩
  have fin:∀ h',h'.IsStrIter it ty z t (i+1)->Heap.SameBut it s.heap h'->∃ u,some (Value.str ⟨#[ch]⟩ s.toks)=some u /\
    wpAny (model X.prog X.w) X.A (letOwnedTupleGo tg (.ref it) u) (fun _ s2=>∃ x H',Inv X pins σ H' s2/\RelV x u/\(Its z).yld i H x H'/\s2.heap.IsStrIter it ty z t (i+1)/\∀ b∈[it],H' b=none) E { s with heap:=h',toks:=s.toks+1 }:=fun h' st' sb=>by
   have I1:Inv X pins σ H { s with heap:=h',toks:=s.toks+1 }:=I.turned (t':=s.toks+1) (fun b o hb e=>(sb.2 b hb).trans e) f0 f1 f3 f4 f5
   obtain ⟨o,e,c,d⟩:=id st'
   refine ⟨_,rfl,yFr (s:={ s with heap:=h',toks:=s.toks+1 }) e c d (by rcases hty with rfl|rfl<;>decide) ⟨.str ⟨#[ch]⟩,H,I1,⟨_,rfl⟩,⟨rfl,_,by simpa using hz,rfl⟩,st',fun b hb=>(hf b hb).1⟩⟩
  rcases hty with rfl|rfl
  .exact wpAny_pyNext_ascii_item st hz fun h' st' sb=>fin h' st' sb
  .exact wpAny_pyNext_wide_item st hz fun h' st' sb=>fin h' st' sb
 done:=by
  intro X hP hw hK hc i pins s σ H E I hf st hg
  subst hP hw hK
  obtain ⟨f0,f1,f2,f3,f4,f5⟩:=hf it (by simp)
  have hg:i=z.length:=hg
  have hz:z.cps[i]?=none:=by simp [hg,Str.length]
  rcases hty with rfl|rfl
  .exact wpAny_pyNext_ascii_end (I.ok.hd hc) st hz fun h' eb=>⟨rfl,I.turned (t':=s.toks) (fun b o hb e=>eb b o hb e) f0 f1 f3 f4 f5⟩
  .exact wpAny_pyNext_wide_end (I.ok.hd hc) st hz fun h' eb=>⟨rfl,I.turned (t':=s.toks) (fun b o hb e=>eb b o hb e) f0 f1 f3 f4 f5⟩
 self:=fun _ _ _ _ _ st h=>by
  rcases hty with rfl|rfl
  .exact wpAny_pyIter_striter_ascii st h
  .exact wpAny_pyIter_striter_wide st h
section
variable {X:Cx}{tg:Expr}
theorem yMy {l:Expr}{tl:TE}(hl:PE X l tl):PI X tg l (yRA tl):=by
 intro pins s σ H R I h
 refine thn (hl pins s σ H _ I h) fun v s1 ⟨x,H1,I1,r1,q1⟩=>?_
 obtain ⟨z,e,hz,q⟩:=q1
 subst e
 obtain ⟨t,rfl⟩:=r1
 have fin:∀ ty,(ty = "str_ascii_iterator"\/ty = "str_iterator")->PIE X pins σ tg R (.ref s1.heap.objs.size) { s1 with heap:=s1.heap.push { cls:=.type ty,data:=.fields #[.str z t,.int 0 0] } }:=fun ty hty=>by
  refine ⟨s1.heap.objs.size,[s1.heap.objs.size],_,_,H1,rfl,I1.kept (t':=s1.toks) fun b o e=>Heap.get?_push_of_some _ e,yFI hty z t _,⟨_,Heap.get?_push_size _ rfl,rfl,rfl⟩,fun b hb=>?_,q⟩
  have e:b=s1.heap.objs.size:=by simpa using hb
  subst e
  exact I1.fpOk (Nat.le_refl _) (I1.hok.fresh (Nat.le_refl _))
 cases ha:z.cps.all (· < 128)
 .exact wpAny_pyIter_wide ha (fin _ (.inr rfl))
 .exact wpAny_pyIter_ascii ha (fin _ (.inl rfl))
theorem yuq:∀ {bs:List Bool}{us:List Value},Vals (bs.map V.bl) us->us=bs.map Value.bool
 | [],_,.nil=>rfl
 | b::bs,_,.cons r t=>by rw [show _=Value.bool b from r,yuq t];rfl
theorem yzN (hc:X.calm=true):ylQ X (.builtin "all") yRy:=by
 intro pins s σ H xs us Q I r h
 obtain ⟨p,bs,rfl,hp,q⟩:=h
 obtain ⟨u,rfl,rx⟩:=vals1 r
 cases rx
 obtain ⟨its,n,rv,e,hz⟩:=I.lst hp
 have eb:=yuq rv
 subst eb
 have hl:s.heap.IsList p (bs.map Value.bool).toArray:=⟨_,e,rfl,n,rfl⟩
 have hlt:p<s.heap.objs.size:=Heap.lt_size e
 refine call_all_walk (wpAny_pyIter_list hl ?_)
 refine ⟨s.heap.objs.size,[s.heap.objs.size,p],[s.heap.objs.size],(bs.map Value.bool).toArray.size,_,_,fun i=>(bs[i]?).getD true,rfl,Walks.list (A:=X.A.in1) (I.ok.hd hc) _ p (ne_of_lt hlt) _,
  ⟨⟨_,Heap.get?_push_size _ rfl,rfl,rfl⟩,hl.push _⟩,fun i v s' Q' E' hP hQ=>?_,fun h' tk hk=>?_⟩
 .have hP:(bs.map Value.bool)[i]?=some v:=by simpa using hP
  rw [getElem?_map] at hP
  cases eb:bs[i]? with
  | none=>rw [eb] at hP;cases hP
  | some b =>
   rw [eb] at hP
   cases hP
   simp only [eb,Option.getD_some] at hQ
   exact wpAny_truthy_bool hQ
 .have ea:((List.range (bs.map Value.bool).toArray.size).all fun i=>(bs[i]?).getD true)=bs.all id:=by
   rw [size_toArray,length_map]
   exact LSm.range_all bs
  rw [ea]
  exact ⟨.bl _,H,I.kept (t':=tk) fun b o eo=>hk b o (fun hm=>by rw [List.mem_singleton.mp hm] at eo;exact absurd (Heap.lt_size eo) (lt_irrefl _)) (Heap.get?_push_of_some _ eo),rfl,q⟩
theorem yFJ (hc:X.calm=true):ylQ X (.builtin "sum") yRz:=by
 intro pins s σ H xs us Q I r h
 obtain ⟨p,ns,rfl,hp,q⟩:=h
 obtain ⟨u,rfl,rx⟩:=vals1 r
 cases rx
 obtain ⟨its,n,rv,e,hz⟩:=I.lst hp
 have hi:IntsAre its ns:=intsAre_of rv
 have hl:s.heap.IsList p its.toArray:=⟨_,e,rfl,n,rfl⟩
 obtain ⟨xs,hx⟩:=hi.allInts.items
 have hl':s.heap.IsList p (intItems xs):=hx ▸ hl
 refine sum_intListG (I.ok.hd hc) hl' fun h' tk t' hk=>?_
 have e1:ns=xs.toList.map (·.1):=by
  rw [<- nums_intItems,<- hx]
  exact (show numsOf its.toArray.toList=ns from hi.numsOf).symm
 have e2:preSum (numAt xs) xs.size=ns.sum:=by
  rw [preSum_eq,List.take_of_length_le (by simp),e1]
 rw [e2]
 exact ⟨.int ns.sum,H,I.kept (t':=tk) hk,⟨_,rfl⟩,q⟩
theorem yvY:OpR X (compareOp .In) yRx:=by
 intro pins s σ H x y v u Q I rx ry h
 obtain ⟨c,j,rfl,rfl,q⟩:=h
 refine yCp pins s σ H _ _ v u Q I rx ry ⟨_,_,rfl,rfl,?_⟩
 have e:(!(Builtin.Str.occurrences j ⟨#[c]⟩ 0 j.length 1).isEmpty)=decide (c∈j.cps.toList):=by
  rcases yCH j c with ⟨h1,h2⟩|⟨r,h1,h2⟩
  .rw [h1];simp [h2]
  .rw [h1];simp [h2]
 rw [e]
 exact q
theorem yFK {C:Addr}{x:Str}{p pos:Pos}(hm:makesIn X.K C=true) (hi:findIn X.K (.ref C) "__init__" = some (some (.builtin "object.__init__"))) (hk:keepIn X.K (.ref C)=true)
  (hg:Gl X x) (hmg:X.mg x=some (.ref C)) (hdb:(x == ("__debug__":Str))=false:=by decide):PE X (.Call (.Name x p) [] [] pos) (yIk C):=by
 intro pins s σ H Q I h
 refine wpAny_Call_Name_kw (yqz I hg hmg ?_ hdb)
 refine PySem.W.callWith_K0 I.kIn hk (wpAny_call ?_)
 have I2:=Inv.made (C:=C) I
 have q:=h (s.heap.objs.size+1) s.heap.objs.size (I.hok.fresh (Nat.le_succ _)) (I.hok.fresh (Nat.le_refl _)) (ne_of_lt (Nat.lt_succ_self _))
 have kin:=I.kIn
 obtain ⟨hh,g,d,t,os⟩:=s
 have Y:=PySem.W.makes_of (M:=model X.prog X.w) kin hm
 refine PySem.W.make_core Y (PySem.W.looks_findIn kin hi) (fun self=>PySem.W.Looks.of_pure (PySem.W.oi_bind self)) (.inr ⟨rfl,rfl⟩) ?_
 have e1:((hh.push emptyDict).push (instObj C hh.objs.size)).get? (hh.objs.size+1)=some (instObj C hh.objs.size):=by
  have:=Heap.get?_push_size (h:=hh.push emptyDict) (o:=instObj C hh.objs.size) rfl
  rwa [Heap.size_push] at this
 have t1:PySem.W.Looks (model X.prog X.w) ((hh.push emptyDict).push (instObj C hh.objs.size)) (typeOf (.ref (hh.objs.size+1))) (.ref C):=(PySem.W.Looks.ld e1).andThen .now
 have t2:PySem.W.Looks (model X.prog X.w) ((hh.push emptyDict).push (instObj C hh.objs.size)) (isInstance (.ref (hh.objs.size+1)) (.type "object")) true:=t1.andThen (Y.top.keeps fun b o e=>Heap.get?_push_of_some _ (Heap.get?_push_of_some _ e))
 refine codeAny_call_builtin PySem.W.oi_plain PySem.W.entry_oi (@PySem.W.check_slot (model X.prog X.w) _ _ _ "object.__init__" "object" "__init__" (.ref (hh.objs.size+1)) [] [] _ PySem.W.oi_kind PySem.W.oi_split t2 (PySem.W.oi_args (.ref (hh.objs.size+1))) ?_)
 show wpAny _ _ (Builtin.«object.__init__» ⟨[.ref (hh.objs.size+1)],[]⟩) _ _ _
 rw [PySem.W.oi_run]
 exact wpAny_pure (And.intro rfl ⟨.ref _,_,I2,rfl,q⟩)
def yyk {κ:Type}(P:Program) (w:World) (K:PySem.W.Frag) (mg:Str->Option Value) (base:Heap) (k:Nat) (A:κ->Addr) (m:Str) (sp:κ->Sp):Prop :=
 ∀ c:κ,Cls K (A c)/\((∀ vs H Q E,¬ sp c vs H Q E)\/∃ f fd ps,ybj K (A c) m f/\FnOk P w K mg base CX0 k f fd ps (sp c)/\Binds K fd ps [])
theorem yCJ {κ:Type}{A:κ->Addr}{m:Str}{sp:κ->Sp}{k:Nat}{o:Expr}{ta:TE}{apos pos:Pos}{pl:Sem Bool}(he:PE X o ta) (G:yyk X.prog X.w X.K X.mg X.base k A m sp) (hr:Room k X.A)
  (ht:eval (.Call (.Attribute o m apos) [] [] pos) X.env=(do
   let ov <- eval o X.env
   standAt apos.atName
   let (f,first) <- holding [ov] (getMethod ov m pl)
   callWith pos f first (backTo pos (starEach [] X.env)) (backToKw pos (keywordEach [] X.env))):=by rfl):PE X (.Call (.Attribute o m apos) [] [] pos) (yIl A m sp ta):=by
 intro pins s σ H Q I h
 refine PySem.W.methodCall_KW (pl:=pl) (thn (he pins s σ H _ I h) fun u s1 ⟨x,H1,I1,rx,a,c,dx,fs,ex,ea,l,q⟩=>?_) ht
 subst ex
 obtain rfl:u=Value.ref a:=rx
 obtain ⟨cl,hn|⟨f,fd,ps,hm,F,hb⟩⟩:=G c
 .exact (hn _ _ _ _ q).elim
 refine yos I1 ea cl hm l ?_
 exact PySem.W.callWith_K0 (first:=[.ref a]) I1.kIn hm.kp (yvN (us:=[.ref a]) (vs:=[.ref a]) (dvs:=[]) (ds:=[]) F hr hb .nil yvU I1 (.cons rfl .nil) q)
end
end L2
namespace L2
open PySem PySem.Spec PyProof.Rows
section
variable {X:Cx}
theorem ybm:ylQ X (.builtin "isinstance") (yRw X.K):=by
 intro pins s σ H xs us Q I r h
 obtain ⟨x,c,b,rfl,⟨t,u',ty,hc,hk⟩,q⟩:=h
 obtain ⟨u,w',rfl,ru,rc⟩:=vals2 r
 have e:w'=u':=by
  cases c<;>first|(cases hc;exact rc)|cases hc
 subst e
 exact yCu I ru ty hk fun tk=>⟨.bl b,H,I.tok tk,rfl,q⟩
theorem yty:∀ (cs:List Nat) (a:Nat),(∀ c∈cs,48<=c/\c<=57)->((cs.foldl (fun acc c=>acc*10+(c-48)) a:Nat):Int)=cs.foldl (fun (a:Int) (c:Nat)=>a*10+((c:Int)-48)) (a:Int)
 | [],_,_=>rfl
 | c::cs,a,h=>by
  have hc:=h c mem_cons_self
  rw [List.foldl_cons,List.foldl_cons,yty cs _ fun d hd=>h d (mem_cons_of_mem _ hd)]
  congr 1
  omega
theorem yvZ:ylQ X (.type "int") yMw:=by
 intro pins s σ H xs us Q I r h
 obtain ⟨z,rfl,hne,hd,hl,q⟩:=h
 obtain ⟨u,rfl,t,rfl⟩:=vals1 r
 have e:=PySem.intText_digits (x:=z) hd hne (by omega)
 have e2:((PySem.NumText.digitsVal z.cps.toList:Nat):Int)=yJx z.cps.toList:=yty z.cps.toList 0 hd
 rw [e2] at e
 exact PySem.W.KIN.call_text e hl ⟨.int _,H,I.tok _,⟨_,rfl⟩,q⟩
end
end L2
namespace L2
open PySem PySem.Spec PyProof.Rows
theorem ydB:bootBuiltins "len" = some (.builtin "len"):=by rfl'
theorem yIm:bootBuiltins "all" = some (.builtin "all"):=by rfl'
theorem yMz:bootBuiltins "sum" = some (.builtin "sum"):=by rfl'
theorem yO:bootBuiltins "isinstance" = some (.builtin "isinstance"):=by rfl'
theorem yIn:bootBuiltins "int" = some (.type "int"):=by rfl'
theorem yIo:bootBuiltins "str" = some (.type "str"):=by rfl'
theorem yJz:bootBuiltins "bool" = some (.type "bool"):=by rfl'
theorem ybO:bootBuiltins "list" = some (.type "list"):=by rfl'
section
variable {X:Cx}
theorem yJA {x:Str}{n:Int}{t:Tok}{pos:Pos}(hg:Gl X x) (hm:X.mg x=some (.int n t)) (hd:(x == ("__debug__":Str))=false:=by decide):PE X (.Name x pos) (tC (.int n)):=yxY hg hm ⟨t,rfl⟩ hd
theorem yJB {x:Str}{n:Str}{t:Tok}{pos:Pos}(hg:Gl X x) (hm:X.mg x=some (.str n t)) (hd:(x == ("__debug__":Str))=false:=by decide):PE X (.Name x pos) (tC (.str n)):=yxY hg hm ⟨t,rfl⟩ hd
theorem yyl {x:Str}{a:Addr}{pos:Pos}(hg:Gl X x) (hm:X.mg x=some (.ref a)) (hd:(x == ("__debug__":Str))=false:=by decide):PE X (.Name x pos) (tC (.ref a)):=yxY hg hm rfl hd
theorem yMA {x:Str}{n:String}{pos:Pos}(hg:Gl X x) (hm:X.mg x=none) (hv:bootBuiltins x=some (.type n)) (hn:x≠"__name__":=by decide) (hd:(x == ("__debug__":Str))=false:=by decide):PE X (.Name x pos) (tC (.ty n)):=yJg hg hm hv rfl hn hd
end
end L2
namespace L2
open PySem PySem.Spec PyProof.Rows
theorem yym {K:PySem.W.Frag}{H:Hp}{i:Int}:IsI K H (.int i) (.ty "str") false:=⟨_,_,.int i,rfl,by with_unfolding_all rfl⟩
theorem ywa {K:PySem.W.Frag}{H:Hp}{i:Int}:IsI K H (.int i) (.ty "list") false:=⟨_,_,.int i,rfl,by with_unfolding_all rfl⟩
theorem yur {K:PySem.W.Frag}{H:Hp}{i:Int}:IsI K H (.int i) (.ty "tuple") false:=⟨_,_,.int i,rfl,by with_unfolding_all rfl⟩
theorem ywb {K:PySem.W.Frag}{H:Hp}{i:Int}:IsI K H (.int i) (.ty "dict") false:=⟨_,_,.int i,rfl,by with_unfolding_all rfl⟩
theorem yBa {K:PySem.W.Frag}{H:Hp}{i:Bool}:IsI K H (.bl i) (.ty "int") true:=⟨_,_,.bl i,rfl,by with_unfolding_all rfl⟩
theorem yBb {K:PySem.W.Frag}{H:Hp}{i:Bool}:IsI K H (.bl i) (.ty "str") false:=⟨_,_,.bl i,rfl,by with_unfolding_all rfl⟩
theorem yyn {K:PySem.W.Frag}{H:Hp}{i:Bool}:IsI K H (.bl i) (.ty "list") false:=⟨_,_,.bl i,rfl,by with_unfolding_all rfl⟩
theorem ywc {K:PySem.W.Frag}{H:Hp}{i:Bool}:IsI K H (.bl i) (.ty "tuple") false:=⟨_,_,.bl i,rfl,by with_unfolding_all rfl⟩
theorem yyo {K:PySem.W.Frag}{H:Hp}{i:Bool}:IsI K H (.bl i) (.ty "dict") false:=⟨_,_,.bl i,rfl,by with_unfolding_all rfl⟩
theorem yyp {K:PySem.W.Frag}{H:Hp}{i:Str}:IsI K H (.str i) (.ty "int") false:=⟨_,_,.str i,rfl,by with_unfolding_all rfl⟩
theorem ywd {K:PySem.W.Frag}{H:Hp}{i:Str}:IsI K H (.str i) (.ty "bool") false:=⟨_,_,.str i,rfl,by with_unfolding_all rfl⟩
theorem ywe {K:PySem.W.Frag}{H:Hp}{i:Str}:IsI K H (.str i) (.ty "list") false:=⟨_,_,.str i,rfl,by with_unfolding_all rfl⟩
theorem yus {K:PySem.W.Frag}{H:Hp}{i:Str}:IsI K H (.str i) (.ty "tuple") false:=⟨_,_,.str i,rfl,by with_unfolding_all rfl⟩
theorem ywf {K:PySem.W.Frag}{H:Hp}{i:Str}:IsI K H (.str i) (.ty "dict") false:=⟨_,_,.str i,rfl,by with_unfolding_all rfl⟩
theorem ywg {K:PySem.W.Frag}{H:Hp}:IsI K H (.non) (.ty "bool") false:=⟨_,_,.non,rfl,by with_unfolding_all rfl⟩
theorem yyq {K:PySem.W.Frag}{H:Hp}:IsI K H (.non) (.ty "str") false:=⟨_,_,.non,rfl,by with_unfolding_all rfl⟩
theorem ywh {K:PySem.W.Frag}{H:Hp}:IsI K H (.non) (.ty "list") false:=⟨_,_,.non,rfl,by with_unfolding_all rfl⟩
theorem yut {K:PySem.W.Frag}{H:Hp}:IsI K H (.non) (.ty "tuple") false:=⟨_,_,.non,rfl,by with_unfolding_all rfl⟩
theorem ywi {K:PySem.W.Frag}{H:Hp}:IsI K H (.non) (.ty "dict") false:=⟨_,_,.non,rfl,by with_unfolding_all rfl⟩
theorem yyr {K:PySem.W.Frag}{H:Hp}{a:Addr}{xs:List V}(e:H a=some (.lst xs)):IsI K H (.ref a) (.ty "int") false:=⟨_,_,.lst e,rfl,by with_unfolding_all rfl⟩
theorem ywj {K:PySem.W.Frag}{H:Hp}{a:Addr}{xs:List V}(e:H a=some (.lst xs)):IsI K H (.ref a) (.ty "bool") false:=⟨_,_,.lst e,rfl,by with_unfolding_all rfl⟩
theorem yys {K:PySem.W.Frag}{H:Hp}{a:Addr}{xs:List V}(e:H a=some (.lst xs)):IsI K H (.ref a) (.ty "str") false:=⟨_,_,.lst e,rfl,by with_unfolding_all rfl⟩
theorem yuu {K:PySem.W.Frag}{H:Hp}{a:Addr}{xs:List V}(e:H a=some (.lst xs)):IsI K H (.ref a) (.ty "tuple") false:=⟨_,_,.lst e,rfl,by with_unfolding_all rfl⟩
theorem ywk {K:PySem.W.Frag}{H:Hp}{a:Addr}{xs:List V}(e:H a=some (.lst xs)):IsI K H (.ref a) (.ty "dict") false:=⟨_,_,.lst e,rfl,by with_unfolding_all rfl⟩
theorem yuv {K:PySem.W.Frag}{H:Hp}{a:Addr}(e:(∃ xs,H a=some (.tup xs))\/∃ o,K.lookup a=some o/\o.cls=.type "tuple"):IsI K H (.ref a) (.ty "tuple") true:=e.elim (fun ⟨_,e⟩=>⟨_,_,.tup e,rfl,by with_unfolding_all rfl⟩) fun ⟨_,e,c⟩=>⟨_,_,.kt e c,rfl,by with_unfolding_all rfl⟩
theorem yyt {K:PySem.W.Frag}{H:Hp}{a:Addr}(e:(∃ xs,H a=some (.tup xs))\/∃ o,K.lookup a=some o/\o.cls=.type "tuple"):IsI K H (.ref a) (.ty "int") false:=e.elim (fun ⟨_,e⟩=>⟨_,_,.tup e,rfl,by with_unfolding_all rfl⟩) fun ⟨_,e,c⟩=>⟨_,_,.kt e c,rfl,by with_unfolding_all rfl⟩
theorem ywl {K:PySem.W.Frag}{H:Hp}{a:Addr}(e:(∃ xs,H a=some (.tup xs))\/∃ o,K.lookup a=some o/\o.cls=.type "tuple"):IsI K H (.ref a) (.ty "bool") false:=e.elim (fun ⟨_,e⟩=>⟨_,_,.tup e,rfl,by with_unfolding_all rfl⟩) fun ⟨_,e,c⟩=>⟨_,_,.kt e c,rfl,by with_unfolding_all rfl⟩
theorem yyu {K:PySem.W.Frag}{H:Hp}{a:Addr}(e:(∃ xs,H a=some (.tup xs))\/∃ o,K.lookup a=some o/\o.cls=.type "tuple"):IsI K H (.ref a) (.ty "str") false:=e.elim (fun ⟨_,e⟩=>⟨_,_,.tup e,rfl,by with_unfolding_all rfl⟩) fun ⟨_,e,c⟩=>⟨_,_,.kt e c,rfl,by with_unfolding_all rfl⟩
theorem ywm {K:PySem.W.Frag}{H:Hp}{a:Addr}(e:(∃ xs,H a=some (.tup xs))\/∃ o,K.lookup a=some o/\o.cls=.type "tuple"):IsI K H (.ref a) (.ty "list") false:=e.elim (fun ⟨_,e⟩=>⟨_,_,.tup e,rfl,by with_unfolding_all rfl⟩) fun ⟨_,e,c⟩=>⟨_,_,.kt e c,rfl,by with_unfolding_all rfl⟩
theorem ywn {K:PySem.W.Frag}{H:Hp}{a:Addr}(e:(∃ xs,H a=some (.tup xs))\/∃ o,K.lookup a=some o/\o.cls=.type "tuple"):IsI K H (.ref a) (.ty "dict") false:=e.elim (fun ⟨_,e⟩=>⟨_,_,.tup e,rfl,by with_unfolding_all rfl⟩) fun ⟨_,e,c⟩=>⟨_,_,.kt e c,rfl,by with_unfolding_all rfl⟩
end L2
namespace L2
open PySem PySem.Spec PyProof.Rows
theorem yFL {K:PySem.W.Frag}{C:Addr}:PySem.W.kitOne K (.ref C) (.ref C)=some true:=by
 unfold PySem.W.kitOne
 have:((Value.ref C) == (Value.ref C))=true:=by simp
 rw [if_pos this]
theorem yFM {K:PySem.W.Frag}{C C':Addr}{b:Bool}(hm:mroIn K C' (.type "object")=some true) (ht:typeIn K (.ref C')=some (.type "type")) (hs:subIn K (.ref C) (.ref C')=some b):PySem.W.kitCls K (.ref C) (.ref C')=some b:=by
 unfold PySem.W.kitCls
 have h1:(PySem.W.clsIn K C').isSome=true:=by
  unfold mroIn at hm
  cases e:PySem.W.clsIn K C' with
  | none=>rw [e] at hm;cases hm
  | some c=>rfl
 have h2:(typeIn K (.ref C') == some (.type "type"))=true:=by rw [ht];simp
 show (if _ then _ else _)=_
 rw [if_pos (by rw [h1,h2];rfl)]
 exact hs
theorem yFN {K:PySem.W.Frag}{C C':Addr}(hn:(C == C')=false) (hm:mroIn K C' (.type "object")=some true) (ht:typeIn K (.ref C')=some (.type "type")) (hs:subIn K (.ref C) (.ref C')=some false):PySem.W.kitOne K (.ref C) (.ref C')=some false:=by
 unfold PySem.W.kitOne
 have:¬ ((Value.ref C) == (Value.ref C'))=true:=by
  intro z
  have z:=eq_of_beq z
  cases z
  simp at hn
 rw [if_neg this]
 exact yFM hm ht hs
theorem all_cons {α:Type}{p:α->Prop}{a:α}{l:List α}(h:p a) (t:∀ x∈l,p x):∀ x∈a::l,p x:=fun x hx=>by
 rcases mem_cons.mp hx with e|e
 .rw [e];exact h
 .exact t x e
end L2
namespace PX
open PySem L2
structure Ck where
 K:PySem.W.Frag
 A:Nat->Addr
inductive PV where
 | non|bl (b:Bool)|int (i:Int)|str (s:Str)|ty (n:String)|cls (k:Nat)
 | scr (ns:List Int)
 | lst (xs:List PV)|tup (xs:List PV)
 | ins (k:Nat) (ns:List Str) (xs:List PV)
 | loc (n:Nat)
inductive Nd where
 | lst (xs:List PV)|dct (ks:List Key) (xs:List PV)|fz (ks:List Key) (xs:List PV)|ins (k:Nat) (ns:List Str) (xs:List PV)|dead
abbrev AH:=List Nd
inductive PVar where|no|val (x:PV)|own (d:Nd)
abbrev PSt:=List PVar
inductive Out where|nx (ρ:PSt)|rt (x:PV)|bk (ρ:PSt)|ct (ρ:PSt)
abbrev XE:=PSt->AH->Option (PV×AH)
abbrev XT:=PSt->AH->Option (Bool×AH)
abbrev XA:=PSt->AH->Option (List PV×AH)
abbrev XO:=PSt->AH->Option (Nd×AH)
abbrev XS:=PSt->AH->Option (Out×AH)
abbrev Fn:=List PV->AH->Option (PV×AH)
def KTp (K:PySem.W.Frag) (a:Addr) (xs:List V):Prop:=∃ (o:Obj) (its:Array Value) (n:Nat),K.lookup a=some o/\o.cls=.type "tuple"/\o.data=.seq its n/\its.size<=sizeLine/\Vals xs its.toList
def TpAt (K:PySem.W.Frag) (F:Hp) (a:Addr) (xs:List V):Prop:=F a=some (.tup xs)\/KTp K a xs
theorem TpAt.mono {K:PySem.W.Frag}{F F':Hp}{a:Addr}{xs:List V}(s:Same F F') (h:TpAt K F a xs):TpAt K F' a xs:=h.elim (fun h=>.inl (s _ _ h)) .inr
mutual
noncomputable def Rep (K:Ck) (F:Hp) (m:List Addr):PV->V->Prop
 | .non,v=>v=.non
 | .bl b,v=>v=.bl b
 | .int i,v=>v=.int i
 | .str s,v=>v=.str s
 | .ty n,v=>v=.ty n
 | .cls k,v=>v=.ref (K.A k)
 | .scr ns,v=>∃ a,v=.ref a/\SqL K.K F a (ns.map V.int)
 | .lst xs,v=>∃ a vs,v=.ref a/\F a=some (.lst vs)/\RepL K F m xs vs
 | .tup xs,v=>∃ a vs,v=.ref a/\TpAt K.K F a vs/\RepL K F m xs vs
 | .ins k ns xs,v=>∃ a dx vs,v=.ref a/\F a=some (.ins (K.A k) dx (ns.zip vs))/\vs.length=ns.length/\RepL K F m xs vs
 | .loc n,v=>∃ a,v=.ref a/\m[n]?=some a
noncomputable def RepL (K:Ck) (F:Hp) (m:List Addr):List PV->List V->Prop
 | [],vs=>vs=[]
 | x::xs,vs=>∃ v r,vs=v::r/\Rep K F m x v/\RepL K F m xs r
end
section
variable {K:Ck}{F F' H H':Hp}{m m':List Addr}
theorem ylS {n:Nat}{a:Addr}(p:m <+: m') (h:m[n]?=some a):m'[n]?=some a:=by
 obtain ⟨r,rfl⟩:=p
 rw [getElem?_append_left (List.getElem?_eq_some_iff.mp h).1];exact h
mutual
theorem Rep.mono (s:Same F F') (p:m <+: m'):∀ (x:PV) (v:V),Rep K F m x v->Rep K F' m' x v
 | .non,_,h=>h
 | .bl _,_,h=>h
 | .int _,_,h=>h
 | .str _,_,h=>h
 | .ty _,_,h=>h
 | .cls _,_,h=>h
 | .scr _,_,⟨a,e,h⟩=>⟨a,e,s.seq h⟩
 | .lst xs,_,⟨a,vs,e,h,r⟩=>⟨a,vs,e,s _ _ h,RepL.mono s p xs vs r⟩
 | .tup xs,_,⟨a,vs,e,h,r⟩=>⟨a,vs,e,h.mono s,RepL.mono s p xs vs r⟩
 | .ins _ _ xs,_,⟨a,dx,vs,e,h,l,r⟩=>⟨a,dx,vs,e,s _ _ h,l,RepL.mono s p xs vs r⟩
 | .loc _,_,⟨a,e,h⟩=>⟨a,e,ylS p h⟩
theorem RepL.mono (s:Same F F') (p:m <+: m'):∀ (xs:List PV) (vs:List V),RepL K F m xs vs->RepL K F' m' xs vs
 | [],_,h=>h
 | x::xs,_,⟨v,r,e,h,l⟩=>⟨v,r,e,Rep.mono s p x v h,RepL.mono s p xs r l⟩
end
theorem RepL.len:∀ {xs:List PV}{vs:List V},RepL K F m xs vs->vs.length=xs.length
 | [],_,h=>by rw [show _=[] from h];rfl
 | x::xs,_,⟨v,r,e,h,l⟩=>by rw [e,length_cons,length_cons,RepL.len l]
theorem RepL.get:∀ {xs:List PV}{vs:List V}{i:Nat}{x:PV},RepL K F m xs vs->xs[i]?=some x->∃ v,vs[i]?=some v/\Rep K F m x v
 | x::xs,_,0,y,⟨v,r,e,h,l⟩,q=>by
  simp at q;subst q;subst e;exact ⟨v,rfl,h⟩
 | x::xs,_,i+1,y,⟨v,r,e,h,l⟩,q=>by
  subst e
  obtain ⟨w,h1,h2⟩:=RepL.get (i:=i) l (by simpa using q)
  exact ⟨w,by simpa using h1,h2⟩
theorem RepL.get' {xs:List PV}{vs:List V}{i:Nat}{v:V}(h:RepL K F m xs vs) (e:vs[i]?=some v):∃ x,xs[i]?=some x/\Rep K F m x v:=by
 have hl:=h.len
 have hi:i<vs.length:=(List.getElem?_eq_some_iff.mp e).1
 have hx:xs[i]?=some xs[i]:=List.getElem?_eq_getElem (by omega)
 obtain ⟨w,h1,h2⟩:=h.get hx
 rw [e] at h1;cases h1
 exact ⟨_,hx,h2⟩
theorem RepL.app:∀ {xs ys:List PV}{vs us:List V},RepL K F m xs vs->RepL K F m ys us->RepL K F m (xs++ys) (vs++us)
 | [],_,_,_,h,k=>by rw [show _=[] from h];exact k
 | x::xs,ys,_,us,⟨v,r,e,h,l⟩,k=>by subst e;exact ⟨v,r++us,rfl,h,RepL.app l k⟩
theorem RepL.snoc {xs:List PV}{vs:List V}{x:PV}{v:V}(h:RepL K F m xs vs) (k:Rep K F m x v):RepL K F m (xs++[x]) (vs++[v]):=h.app ⟨v,[],rfl,k,rfl⟩
theorem RepL.drop:∀ {xs:List PV}{vs:List V}(n:Nat),RepL K F m xs vs->RepL K F m (xs.drop n) (vs.drop n)
 | _,_,0,h=>by simpa using h
 | [],_,n+1,h=>by rw [show _=[] from h];rfl
 | x::xs,_,n+1,⟨v,r,e,h,l⟩=>by subst e;simpa using RepL.drop n l
theorem RepL.take:∀ {xs:List PV}{vs:List V}(n:Nat),RepL K F m xs vs->RepL K F m (xs.take n) (vs.take n)
 | _,_,0,h=>by simp;rfl
 | [],_,n+1,h=>by rw [show _=[] from h];rfl
 | x::xs,_,n+1,⟨v,r,e,h,l⟩=>by subst e;exact ⟨v,r.take n,rfl,h,RepL.take n l⟩
theorem RepL.set:∀ {xs:List PV}{vs:List V}{x:PV}{v:V}(i:Nat),RepL K F m xs vs->Rep K F m x v->RepL K F m (xs.set i x) (vs.set i v)
 | [],_,_,_,_,h,_=>by rw [show _=[] from h];rfl
 | y::xs,_,x,v,0,⟨w,r,e,h,l⟩,k=>by subst e;exact ⟨v,r,rfl,k,l⟩
 | y::xs,_,x,v,i+1,⟨w,r,e,h,l⟩,k=>by subst e;exact ⟨w,r.set i v,rfl,h,RepL.set i l k⟩
theorem RepL.of_ints:∀ (ns:List Int),RepL K F m (ns.map PV.int) (ns.map V.int)
 | []=>rfl
 | n::ns=>⟨_,_,rfl,rfl,RepL.of_ints ns⟩
end
noncomputable def NdAt (K:Ck) (F H:Hp) (m:List Addr):Nd->Addr->Prop
 | .dead,a=>∃ o,H a=some o
 | .lst xs,a=>F a=none/\∃ vs,H a=some (.lst vs)/\RepL K F m xs vs
 | .dct ks xs,a=>F a=none/\∃ vs,H a=some (.dK (ks.zip vs))/\vs.length=ks.length/\RepL K F m xs vs
 | .fz ks xs,a=>F a=none/\∃ o vs,H a=some (.frz o (.dK (ks.zip vs)))/\vs.length=ks.length/\RepL K F m xs vs
 | .ins k ns xs,a=>F a=none/\∃ dx vs,H a=some (.ins (K.A k) dx (ns.zip vs))/\vs.length=ns.length/\RepL K F m xs vs
structure Wd where
 F:Hp
 H:Hp
 m:List Addr
 h:AH
structure WOk (K:Ck) (W:Wd):Prop where
 le:Same W.F W.H
 len:W.m.length=W.h.length
 nd:W.m.Nodup
 at_:∀ (n:Nat) (d:Nd) (a:Addr),W.h[n]?=some d->W.m[n]?=some a->NdAt K W.F W.H W.m d a
structure Le (K:Ck) (W W':Wd):Prop where
 ok:WOk K W'
 fs:Same W.F W'.F
 pre:W.m <+: W'.m
 keep:∀ b o,W.H b=some o->b∉W.m->W'.H b=some o
 new:∀ b o,W.H b=some o->b∉W.m->W.F b=none->W'.F b=none
 mn:∀ b∈W'.m,b∉W.m->W.H b=none
 fz:∀ (n:Nat) (ks:List Key) (xs:List PV),W.h[n]?=some (.fz ks xs)->W'.h[n]?=some (.fz ks xs)/\∀ a,W.m[n]?=some a->W'.H a=W.H a
theorem Le.refl {K:Ck}{W:Wd}(h:WOk K W):Le K W W:=⟨h,Same.refl _,prefix_refl _,fun _ _ e _=>e,fun _ _ _ _ e=>e,fun _ h h'=>absurd h h',fun _ _ _ e=>⟨e,fun _ _=>rfl⟩⟩
theorem Le.trans {K:Ck}{W W1 W2:Wd}(a:Le K W W1) (b:Le K W1 W2):Le K W W2 where
 ok:=b.ok
 fs:=a.fs.trans b.fs
 pre:=a.pre.trans b.pre
 keep:=fun c o e n=>b.keep c o (a.keep c o e n) fun z=>by rw [a.mn c z n] at e;cases e
 new:=fun c o e n f=>b.new c o (a.keep c o e n) (fun z=>by rw [a.mn c z n] at e;cases e) (a.new c o e n f)
 mn:=fun c z n=>by
  by_cases hc:c∈W1.m
  .exact a.mn c hc n
  .have:=b.mn c z hc
   cases e:W.H c with
   | none=>rfl
   | some o=>rw [a.keep c o e n] at this;cases this
 fz:=fun n ks xs e=>by
  obtain ⟨e1,q1⟩:=a.fz n ks xs e
  obtain ⟨e2,q2⟩:=b.fz n ks xs e1
  exact ⟨e2,fun c em=>(q2 c (ylS a.pre em)).trans (q1 c em)⟩
abbrev yeh (K:Ck) (W:Wd) (x:PV) (v:V):Prop:=Rep K W.F W.m x v
abbrev yei (K:Ck) (W:Wd) (x:List PV) (v:List V):Prop:=RepL K W.F W.m x v
theorem Le.rep {K:Ck}{W W':Wd}(l:Le K W W') {x:PV}{v:V}(h:yeh K W x v):yeh K W' x v:=Rep.mono l.fs l.pre x v h
theorem Le.repL {K:Ck}{W W':Wd}(l:Le K W W') {x:List PV}{v:List V}(h:yei K W x v):yei K W' x v:=RepL.mono l.fs l.pre x v h
theorem NdAt.mono {K:Ck}{F F' H H':Hp}{m m':List Addr}(s:Same F F') (p:m <+: m') {d:Nd}{a:Addr}(hH:∀ o,H a=some o->H' a=some o) (hF:F a=none->F' a=none) (h:NdAt K F H m d a):NdAt K F' H' m' d a:=by
 cases d with
 | dead=>obtain ⟨o,e⟩:=h;exact ⟨o,hH _ e⟩
 | lst xs=>obtain ⟨f,vs,e,r⟩:=h;exact ⟨hF f,vs,hH _ e,RepL.mono s p _ _ r⟩
 | dct ks xs=>obtain ⟨f,vs,e,l,r⟩:=h;exact ⟨hF f,vs,hH _ e,l,RepL.mono s p _ _ r⟩
 | fz ks xs=>obtain ⟨f,o,vs,e,l,r⟩:=h;exact ⟨hF f,o,vs,hH _ e,l,RepL.mono s p _ _ r⟩
 | ins C ns xs=>obtain ⟨f,dx,vs,e,l,r⟩:=h;exact ⟨hF f,dx,vs,hH _ e,l,RepL.mono s p _ _ r⟩
theorem NdAt.some {K:Ck}{F H:Hp}{m:List Addr}{d:Nd}{a:Addr}(h:NdAt K F H m d a):∃ o,H a=some o:=by
 cases d with
 | dead=>exact h
 | lst xs=>obtain ⟨f,vs,e,r⟩:=h;exact ⟨_,e⟩
 | dct ks xs=>obtain ⟨f,vs,e,r⟩:=h;exact ⟨_,e⟩
 | fz ks xs=>obtain ⟨f,o,vs,e,r⟩:=h;exact ⟨_,e⟩
 | ins C ns xs=>obtain ⟨f,dx,vs,e,r⟩:=h;exact ⟨_,e⟩
structure Good (K:Ck) (W0 W:Wd) (ρ:PSt) (σ:St):Prop where
 le:Le K W0 W
 len:σ.length=ρ.length
 val:∀ (i:Nat) (x:PV),ρ[i]?=some (.val x)->∃ v,σ[i]?=some (some v)/\yeh K W x v
 own:∀ (i:Nat) (d:Nd),ρ[i]?=some (.own d)->∃ p,σ[i]?=some (some (.ref p))/\p∉W.m/\W0.H p=none/\d≠.dead/\NdAt K W.F W.H W.m d p
 ne:∀ (i j:Nat) (d d':Nd),i≠j->ρ[i]?=some (.own d)->ρ[j]?=some (.own d')->σ[i]?≠σ[j]?
theorem Good.ok {K:Ck}{W0 W:Wd}{ρ:PSt}{σ:St}(g:Good K W0 W ρ σ):WOk K W:=g.le.ok
theorem Good.step {K:Ck}{W0 W W':Wd}{ρ:PSt}{σ:St}(g:Good K W0 W ρ σ) (l:Le K W W'):Good K W0 W' ρ σ where
 le:=g.le.trans l
 len:=g.len
 val:=fun i x e=>let ⟨v,h1,h2⟩:=g.val i x e;⟨v,h1,l.rep h2⟩
 own:=fun i d e=>by
  obtain ⟨p,h1,h2,h3,h4,h5⟩:=g.own i d e
  obtain ⟨o,ho⟩:=h5.some
  have n':p∉W'.m:=fun z=>by rw [l.mn p z h2] at ho;cases ho
  refine ⟨p,h1,n',h3,h4,h5.mono l.fs l.pre (fun o e=>l.keep p o e h2) fun f=>l.new p o ho h2 f⟩
 ne:=g.ne
theorem WOk.some {K:Ck}{W:Wd}(w:WOk K W) {a:Addr}(h:a∈W.m):∃ o,W.H a=some o:=by
 obtain ⟨n,hn,e⟩:=getElem_of_mem h
 have hl:n<W.h.length:=by rw [<- w.len];exact hn
 exact (w.at_ n W.h[n] a (List.getElem?_eq_getElem hl) (by rw [List.getElem?_eq_getElem hn,e])).some
theorem Le.fresh {K:Ck}{W W':Wd}(l:Le K W W') {p:Addr}(h:W'.H p=none):W.H p=none:=by
 cases e:W.H p with
 | none=>rfl
 | some o =>
  by_cases hm:p∈W.m
  .obtain ⟨o,q⟩:=l.ok.some (l.pre.subset hm)
   rw [h] at q;cases q
  .rw [l.keep p o e hm] at h;cases h
theorem WOk.out {K:Ck}{W:Wd}(w:WOk K W) {p:Addr}(h:W.H p=none):p∉W.m:=fun z=>by
 obtain ⟨o,q⟩:=w.some z
 rw [h] at q;cases q
theorem WOk.ff {K:Ck}{W:Wd}(w:WOk K W) {p:Addr}(h:W.H p=none):W.F p=none:=Same.free w.le h
structure Lf (K:Ck) (W W':Wd):Prop where
 fs:Same W.F W'.F
 pre:W.m <+: W'.m
 fz:∀ (n:Nat) (ks:List Key) (xs:List PV),W.h[n]?=some (.fz ks xs)->W'.h[n]?=some (.fz ks xs)/\∀ a,W.m[n]?=some a->W'.H a=W.H a
theorem Le.lf {K:Ck}{W W':Wd}(l:Le K W W'):Lf K W W':=⟨l.fs,l.pre,l.fz⟩
theorem Lf.refl {K:Ck}{W:Wd}:Lf K W W:=⟨Same.refl _,prefix_refl _,fun _ _ _ e=>⟨e,fun _ _=>rfl⟩⟩
theorem Lf.trans {K:Ck}{W W1 W2:Wd}(a:Lf K W W1) (b:Lf K W1 W2):Lf K W W2:=⟨a.fs.trans b.fs,a.pre.trans b.pre,fun n ks xs e=>by
  obtain ⟨e1,q1⟩:=a.fz n ks xs e
  obtain ⟨e2,q2⟩:=b.fz n ks xs e1
  exact ⟨e2,fun c em=>(q2 c (ylS a.pre em)).trans (q1 c em)⟩⟩
theorem Lf.rep {K:Ck}{W W':Wd}(l:Lf K W W') {x:PV}{v:V}(h:yeh K W x v):yeh K W' x v:=Rep.mono l.fs l.pre x v h
noncomputable def ycD (K:Ck) (t:TE) (e:XE):Prop:=∀ (W0 W:Wd) (ρ:PSt) (σ:St) (Q:VK) (x:PV) (h':AH),Good K W0 W ρ σ->e ρ W.h=some (x,h') ->
 (∀ v W',W'.h=h'->Le K W W'->yeh K W' x v->Q v W'.H)->t σ W.H Q
noncomputable def yxQ (K:Ck) (t:TT) (e:XT):Prop:=∀ (W0 W:Wd) (ρ:PSt) (σ:St) (Q:Bool->Hp->Prop) (x:Bool) (h':AH),Good K W0 W ρ σ->e ρ W.h=some (x,h') ->
 (∀ W',W'.h=h'->Le K W W'->Q x W'.H)->t σ W.H Q
noncomputable def yxR (K:Ck) (t:TA) (e:XA):Prop:=∀ (W0 W:Wd) (ρ:PSt) (σ:St) (Q:List V->Hp->Prop) (x:List PV) (h':AH),Good K W0 W ρ σ->e ρ W.h=some (x,h') ->
 (∀ v W',W'.h=h'->Le K W W'->yei K W' x v->Q v W'.H)->t σ W.H Q
def yyv (K:Ck) (t:TE) (e:XO):Prop:=∀ (W0 W:Wd) (ρ:PSt) (σ:St) (Q:VK) (d:Nd) (h':AH),Good K W0 W ρ σ->e ρ W.h=some (d,h') ->
 (∀ p W',W'.h=h'->Le K W W'->p∉W'.m->W.H p=none->d≠.dead->NdAt K W'.F W'.H W'.m d p->Q (.ref p) W'.H)->t σ W.H Q
noncomputable def Ends.Ok (K:Ck) (W0 W:Wd) (D:Ends) (h':AH):Out->Prop
 | .nx ρ'=>∀ W' σ',W'.h=h'->Lf K W W'->Good K W0 W' ρ' σ'->D.nx σ' W'.H
 | .bk ρ'=>∀ W' σ',W'.h=h'->Lf K W W'->Good K W0 W' ρ' σ'->D.bk σ' W'.H
 | .ct ρ'=>∀ W' σ',W'.h=h'->Lf K W W'->Good K W0 W' ρ' σ'->D.ct σ' W'.H
 | .rt x=>∀ W' v,W'.h=h'->Le K W0 W'->yeh K W' x v->D.rt v W'.H
def ynj (K:Ck) (t:TS) (s:XS):Prop:=∀ (W0 W:Wd) (ρ:PSt) (σ:St) (D:Ends) (o:Out) (h':AH),Good K W0 W ρ σ->s ρ W.h=some (o,h')->Ends.Ok K W0 W D h' o->t D σ W.H
noncomputable def ob {α β:Type}(o:Option (α×AH)) (f:α->AH->Option β):Option β:=o.bind fun q=>f q.1 q.2
theorem yl {α β:Type}{o:Option (α×AH)}{f:α->AH->Option β}{b:β}(h:ob o f=some b):∃ x h',o=some (x,h')/\f x h'=some b:=by
 obtain ⟨⟨x,h'⟩,e,k⟩:=Option.bind_eq_some_iff.mp h
 exact ⟨x,h',e,k⟩
end PX
namespace PX
open PySem L2
variable {K:Ck}
def yf (i:Nat):XE:=fun ρ h=>match ρ[i]? with|some (.val x)=>some (x,h)|_=>none
def xC (x:PV):XE:=fun _ h=>some (x,h)
abbrev P2:=PV->PV->AH->Option (PV×AH)
abbrev P2O:=PV->PV->AH->Option (Nd×AH)
def xOp (p:P2) (a b:XE):XE:=fun ρ h=>ob (a ρ h) fun x h1=>ob (b ρ h1) fun y h2=>p x y h2
def ytz (p:P2O) (a b:XE):XO:=fun ρ h=>ob (a ρ h) fun x h1=>ob (b ρ h1) fun y h2=>p x y h2
def xUn (p:PV->AH->Option (PV×AH)) (a:XE):XE:=fun ρ h=>ob (a ρ h) fun x h1=>p x h1
def oB (x:PV) (h:AH):Option (Bool×AH):=match x with|.bl b=>some (b,h)|_=>none
def yln (p p':P2) (a b c:XE):XE:=fun ρ h=>ob (a ρ h) fun x h1=>ob (b ρ h1) fun y h2=>ob (p x y h2) fun z h3=>ob (oB z h3) fun k h3=>if k=true then ob (c ρ h3) fun w h4=>p' y w h4 else some (.bl false,h3)
def yo (a:XE):XT:=fun ρ h=>ob (a ρ h) oB
def ypY (a b:XE):XE:=fun ρ h=>ob (a ρ h) fun x h1=>ob (oB x h1) fun k h1=>if k=true then b ρ h1 else some (.bl false,h1)
def yJC (a:XE):XE:=fun ρ h=>ob (a ρ h) fun x h1=>ob (oB x h1) fun k h1=>some (.bl (!k),h1)
def yJD (a b:XT):XT:=fun ρ h=>ob (a ρ h) fun k h1=>if k=true then b ρ h1 else some (false,h1)
def xOr (a b:XT):XT:=fun ρ h=>ob (a ρ h) fun k h1=>if k=true then some (true,h1) else b ρ h1
def yuw (a:XT):XT:=fun ρ h=>ob (a ρ h) fun k h1=>some (!k,h1)
def xIf (c:XT) (a b:XE):XE:=fun ρ h=>ob (c ρ h) fun k h1=>if k=true then a ρ h1 else b ρ h1
def yj:XA:=fun _ h=>some ([],h)
def yb (a:XE) (r:XA):XA:=fun ρ h=>ob (a ρ h) fun x h1=>ob (r ρ h1) fun xs h2=>some (x::xs,h2)
def yfj (a:XA):XE:=fun ρ h=>ob (a ρ h) fun xs h1=>if xs.length<=1000 then some (.tup xs,h1) else none
def yeG (a:XA):XO:=fun ρ h=>ob (a ρ h) fun xs h1=>if xs.length<=1000 then some (.lst xs,h1) else none
def xFz (e:XO):XE:=fun ρ h=>ob (e ρ h) fun d h1=>match d with|.lst xs=>some (.lst xs,h1)|.ins k ns xs=>some (.ins k ns xs,h1)|_=>none
def yor (e:XO):XE:=fun ρ h=>ob (e ρ h) fun d h1=>some (.loc h1.length,h1++[d])
def yU (f:Fn) (a:XA):XE:=fun ρ h=>ob (a ρ h) f
def xCB (p:List PV->AH->Option (PV×AH)) (a:XA):XE:=fun ρ h=>ob (a ρ h) p
def ynk (p:List PV->AH->Option (Nd×AH)) (a:XA):XO:=fun ρ h=>ob (a ρ h) p
abbrev PM:=PV->List PV->AH->Option (PV×AH)
def xBM (c:PV->AH->Bool) (p:PM) (o:XE) (a:XA):XE:=fun ρ h=>ob (o ρ h) fun x h1=>if c x h1=true then ob (a ρ h1) fun xs h2=>p x xs h2 else none
def yyw (e:XE):PSt->AH->Option (Option Int×AH):=fun ρ h=>ob (e ρ h) fun x h1=>match x with|.int i=>some (some i,h1)|_=>none
def yqF:PSt->AH->Option (Option Int×AH):=fun _ h=>some (none,h)
def yLD (p:PV->Option Int->Option Int->AH->Option (Nd×AH)) (e:XE) (lo hi:PSt->AH->Option (Option Int×AH)):XO:=fun ρ h=>ob (e ρ h) fun x h1=>ob (lo ρ h1) fun l h2=>ob (hi ρ h2) fun u h3=>p x l u h3
noncomputable def ycS (K:Ck) (r:R2) (p:P2):Prop:=∀ (W:Wd) (x y:PV) (v u:V) (Q:VK) (z:PV) (h':AH),WOk K W->yeh K W x v->yeh K W y u->p x y W.h=some (z,h')->(∀ w W',W'.h=h'->Le K W W'->yeh K W' z w->Q w W'.H)->r v u W.H Q
def yBc (K:Ck) (W:Wd) (d:Nd) (h':AH) (Q:VK):Prop:=∀ p W',W'.h=h'->Le K W W'->p∉W'.m->W.H p=none->d≠.dead->NdAt K W'.F W'.H W'.m d p->Q (.ref p) W'.H
def yzO (K:Ck) (r:R2) (p:P2O):Prop:=∀ (W:Wd) (x y:PV) (v u:V) (Q:VK) (d:Nd) (h':AH),WOk K W->yeh K W x v->yeh K W y u->p x y W.h=some (d,h')->yBc K W d h' Q->r v u W.H Q
noncomputable def yJE (K:Ck) (r:V->Hp->VK->Prop) (p:PV->AH->Option (PV×AH)):Prop:=∀ (W:Wd) (x:PV) (v:V) (Q:VK) (z:PV) (h':AH),WOk K W->yeh K W x v->p x W.h=some (z,h')->(∀ w W',W'.h=h'->Le K W W'->yeh K W' z w->Q w W'.H)->r v W.H Q
noncomputable def yqG (K:Ck) (r:List V->Hp->VK->Prop) (p:List PV->AH->Option (PV×AH)):Prop:=∀ (W:Wd) (xs:List PV) (vs:List V) (Q:VK) (z:PV) (h':AH),WOk K W->yei K W xs vs->p xs W.h=some (z,h')->(∀ w W',W'.h=h'->Le K W W'->yeh K W' z w->Q w W'.H)->r vs W.H Q
def yCK (K:Ck) (r:List V->Hp->VK->Prop) (p:List PV->AH->Option (Nd×AH)):Prop:=∀ (W:Wd) (xs:List PV) (vs:List V) (Q:VK) (d:Nd) (h':AH),WOk K W->yei K W xs vs->p xs W.h=some (d,h')->yBc K W d h' Q->r vs W.H Q
def yux (K:Ck) (T:String) (c:PV->AH->Bool) (r:V->List V->Hp->VK->Prop) (p:PM):Prop :=
 (∀ (W:Wd) (x:PV) (v:V),WOk K W->yeh K W x v->c x W.h=true->tyV K.K T v W.H) /\
 ∀ (W:Wd) (x:PV) (v:V) (xs:List PV) (vs:List V) (Q:VK) (z:PV) (h':AH),WOk K W->yeh K W x v->yei K W xs vs->p x xs W.h=some (z,h')->(∀ w W',W'.h=h'->Le K W W'->yeh K W' z w->Q w W'.H)->r v vs W.H Q
theorem yJF (i:Nat):ycD K (yBW i) (yf i):=by
 intro W0 W ρ σ Q x h' g e q
 unfold yf at e
 split at e
 .rename_i y hy
  cases e
  obtain ⟨v,h1,h2⟩:=g.val i _ hy
  exact ⟨v,h1,q v W rfl (.refl g.ok) h2⟩
 .cases e
theorem yBd {v:V}{x:PV}(h:∀ W:Wd,yeh K W x v):ycD K (tC v) (xC x):=by
 intro W0 W ρ σ Q y h' g e q
 cases e
 exact q v W rfl (.refl g.ok) (h W)
theorem yCL {i:Int}:ycD K (tC (.int i)) (xC (.int i)):=yBd fun _=>rfl
theorem yCM {i:Str}:ycD K (tC (.str i)) (xC (.str i)):=yBd fun _=>rfl
theorem yMB {i:Bool}:ycD K (tC (.bl i)) (xC (.bl i)):=yBd fun _=>rfl
theorem yJG:ycD K (tC .non) (xC .non):=yBd fun _=>rfl
theorem yMC {n:String}:ycD K (tC (.ty n)) (xC (.ty n)):=yBd fun _=>rfl
theorem yJH {k:Nat}:ycD K (tC (.ref (K.A k))) (xC (.cls k)):=yBd fun _=>rfl
section
variable {ta tb tc:TE}{ea eb ec:XE}{t:TA}{e:XA}
theorem yzP {r:R2}{p:P2}(o:ycS K r p) (a:ycD K ta ea) (b:ycD K tb eb):ycD K (tOp r ta tb) (xOp p ea eb):=by
 intro W0 W ρ σ Q z h' g e q
 obtain ⟨x,h1,e1,f1⟩:=yl e
 obtain ⟨y,h2,e2,f2⟩:=yl f1
 refine a W0 W ρ σ _ x h1 g e1 fun v W1 w1 l1 r1=>?_
 subst w1
 refine b W0 W1 ρ σ _ y h2 (g.step l1) e2 fun u W2 w2 l2 r2=>?_
 subst w2
 exact o W2 x y v u Q z h' l2.ok (l2.rep r1) r2 f2 fun w W3 w3 l3 r3=>q w W3 w3 (l1.trans (l2.trans l3)) r3
theorem you {W W1:Wd}{d:Nd}{h':AH}{Q:VK}(l:Le K W W1) (q:yBc K W d h' Q):yBc K W1 d h' Q:=fun p W' e l' n f=>q p W' e (l.trans l') n (l.fresh f)
theorem yJI {r:R2}{p:P2O}(o:yzO K r p) (a:ycD K ta ea) (b:ycD K tb eb):yyv K (tOp r ta tb) (ytz p ea eb):=by
 intro W0 W ρ σ Q z h' g e q
 obtain ⟨x,h1,e1,f1⟩:=yl e
 obtain ⟨y,h2,e2,f2⟩:=yl f1
 refine a W0 W ρ σ _ x h1 g e1 fun v W1 w1 l1 r1=>?_
 subst w1
 refine b W0 W1 ρ σ _ y h2 (g.step l1) e2 fun u W2 w2 l2 r2=>?_
 subst w2
 exact o W2 x y v u Q z h' l2.ok (l2.rep r1) r2 f2 (you (l1.trans l2) q)
theorem yMD {r} {p} (o:yJE K r p) (a:ycD K ta ea):ycD K (tUn r ta) (xUn p ea):=by
 intro W0 W ρ σ Q z h' g e q
 obtain ⟨x,h1,e1,f1⟩:=yl e
 refine a W0 W ρ σ _ x h1 g e1 fun v W1 w1 l1 r1=>?_
 subst w1
 exact o W1 x v Q z h' l1.ok r1 f1 fun w W3 w3 l3 r3=>q w W3 w3 (l1.trans l3) r3
theorem yuy {x:PV}{h:AH}{k:Bool}{h':AH}(e:oB x h=some (k,h')):x=.bl k/\h'=h:=by
 unfold oB at e
 split at e
 .cases e;exact ⟨rfl,rfl⟩
 .cases e
theorem ywo {r r':R2}{p p':P2}(o:ycS K r p) (o':ycS K r' p') (a:ycD K ta ea) (b:ycD K tb eb) (c:ycD K tc ec):ycD K (yCr r r' ta tb tc) (yln p p' ea eb ec):=by
 intro W0 W ρ σ Q z h' g e q
 obtain ⟨x,h1,e1,f1⟩:=yl e
 obtain ⟨y,h2,e2,f2⟩:=yl f1
 obtain ⟨z',h3,e3,f3⟩:=yl f2
 obtain ⟨k,h3',e3',f4⟩:=yl f3
 obtain ⟨rfl,rfl⟩:=yuy e3'
 refine a W0 W ρ σ _ x h1 g e1 fun v W1 w1 l1 r1=>?_
 subst w1
 refine b W0 W1 ρ σ _ y h2 (g.step l1) e2 fun u W2 w2 l2 r2=>?_
 subst w2
 refine o W2 x y v u _ _ _ l2.ok (l2.rep r1) r2 e3 fun w W3 w3 l3 r3=>⟨k,r3,?_⟩
 subst w3
 have l:=l1.trans (l2.trans l3)
 cases k with
 | false =>
  rw [if_neg (by decide)] at f4 ⊢
  cases f4
  exact q _ W3 rfl l rfl
 | true =>
  rw [if_pos rfl] at f4 ⊢
  obtain ⟨w',h4,e4,f5⟩:=yl f4
  refine c W0 W3 ρ σ _ w' h4 (g.step l) e4 fun u' W4 w4 l4 r4=>?_
  subst w4
  exact o' W4 y w' u u' Q z h' l4.ok ((l3.trans l4).rep r2) r4 f5 fun w W5 w5 l5 r5=>q w W5 w5 (l.trans (l4.trans l5)) r5
theorem yuz (a:ycD K ta ea):yxQ K (yJm ta) (yo ea):=by
 intro W0 W ρ σ Q k h' g e q
 obtain ⟨x,h1,e1,f1⟩:=yl e
 obtain ⟨rfl,rfl⟩:=yuy f1
 exact a W0 W ρ σ _ _ _ g e1 fun v W1 w1 l1 r1=>⟨k,r1,q W1 w1 l1⟩
theorem yME (a:ycD K ta ea):yxQ K (tB ta) (yo ea):=yuz a
theorem yFO (a:ycD K ta ea) (b:ycD K tb eb):ycD K (yMa ta tb) (ypY ea eb):=by
 intro W0 W ρ σ Q z h' g e q
 obtain ⟨x,h1,e1,f1⟩:=yl e
 obtain ⟨k,h1',e1',f2⟩:=yl f1
 obtain ⟨rfl,rfl⟩:=yuy e1'
 refine a W0 W ρ σ _ _ _ g e1 fun v W1 w1 l1 r1=>⟨k,r1,?_⟩
 subst w1
 cases k with
 | false =>
  rw [if_neg (by decide)] at f2 ⊢
  cases f2
  exact q _ W1 rfl l1 rfl
 | true =>
  rw [if_pos rfl] at f2 ⊢
  exact b W0 W1 ρ σ _ z h' (g.step l1) f2 fun v W2 w2 l2 r2=>q v W2 w2 (l1.trans l2) r2
theorem yFP (a:ycD K ta ea):ycD K (yMb ta) (yJC ea):=by
 intro W0 W ρ σ Q z h' g e q
 obtain ⟨x,h1,e1,f1⟩:=yl e
 obtain ⟨k,h1',e1',f2⟩:=yl f1
 obtain ⟨rfl,rfl⟩:=yuy e1'
 cases f2
 exact a W0 W ρ σ _ _ _ g e1 fun v W1 w1 l1 r1=>⟨k,r1,q _ W1 w1 l1 rfl⟩
section
variable {tA tB':TT}{eA eB:XT}
theorem yJJ (a:yxQ K tA eA) (b:yxQ K tB' eB):yxQ K (yRd tA tB') (yJD eA eB):=by
 intro W0 W ρ σ Q z h' g e q
 obtain ⟨k,h1,e1,f1⟩:=yl e
 refine a W0 W ρ σ _ _ _ g e1 fun W1 w1 l1=>?_
 subst w1
 cases k with
 | false =>
  rw [if_neg (by decide)] at f1 ⊢
  cases f1
  exact q W1 rfl l1
 | true =>
  rw [if_pos rfl] at f1 ⊢
  exact b W0 W1 ρ σ _ z h' (g.step l1) f1 fun W2 w2 l2=>q W2 w2 (l1.trans l2)
theorem yMF (a:yxQ K tA eA) (b:yxQ K tB' eB):yxQ K (tOr tA tB') (xOr eA eB):=by
 intro W0 W ρ σ Q z h' g e q
 obtain ⟨k,h1,e1,f1⟩:=yl e
 refine a W0 W ρ σ _ _ _ g e1 fun W1 w1 l1=>?_
 subst w1
 cases k with
 | true =>
  rw [if_pos rfl] at f1 ⊢
  cases f1
  exact q W1 rfl l1
 | false =>
  rw [if_neg (by decide)] at f1 ⊢
  exact b W0 W1 ρ σ _ z h' (g.step l1) f1 fun W2 w2 l2=>q W2 w2 (l1.trans l2)
theorem yJK (a:yxQ K tA eA):yxQ K (yOF tA) (yuw eA):=by
 intro W0 W ρ σ Q z h' g e q
 obtain ⟨k,h1,e1,f1⟩:=yl e
 cases f1
 exact a W0 W ρ σ _ _ _ g e1 fun W1 w1 l1=>q W1 w1 l1
theorem yMG (c:yxQ K tA eA) (a:ycD K ta ea) (b:ycD K tb eb):ycD K (tIf tA ta tb) (xIf eA ea eb):=by
 intro W0 W ρ σ Q z h' g e q
 obtain ⟨k,h1,e1,f1⟩:=yl e
 refine c W0 W ρ σ _ _ _ g e1 fun W1 w1 l1=>?_
 subst w1
 cases k with
 | true =>
  rw [if_pos rfl] at f1 ⊢
  exact a W0 W1 ρ σ _ z h' (g.step l1) f1 fun v W2 w2 l2 r2=>q v W2 w2 (l1.trans l2) r2
 | false =>
  rw [if_neg (by decide)] at f1 ⊢
  exact b W0 W1 ρ σ _ z h' (g.step l1) f1 fun v W2 w2 l2 r2=>q v W2 w2 (l1.trans l2) r2
end
theorem yuA:yxR K yFz yj:=by
 intro W0 W ρ σ Q z h' g e q
 cases e
 exact q [] W rfl (.refl g.ok) rfl
theorem yFQ (a:ycD K ta ea) (r:yxR K t e):yxR K (yya ta t) (yb ea e):=by
 intro W0 W ρ σ Q z h' g e q
 obtain ⟨x,h1,e1,f1⟩:=yl e
 obtain ⟨xs,h2,e2,f2⟩:=yl f1
 cases f2
 refine a W0 W ρ σ _ x h1 g e1 fun v W1 w1 l1 r1=>?_
 subst w1
 exact r W0 W1 ρ σ _ xs _ (g.step l1) e2 fun vs W2 w2 l2 r2=>q (v::vs) W2 w2 (l1.trans l2) ⟨v,vs,rfl,l2.rep r1,r2⟩
def yJL (W:Wd) (p:Addr) (o:HO):Wd:=⟨upd W.F p o,upd W.H p o,W.m,W.h⟩
theorem yCN {W:Wd}{p:Addr}{o:HO}(w:WOk K W) (h:W.H p=none):Le K W (yJL W p o):=by
 have hm:=w.out h
 have hf:=w.ff h
 have sF:Same W.F (upd W.F p o):=ygW hf o
 refine ⟨⟨?_,w.len,w.nd,fun n d a e1 e2=>?_⟩,sF,prefix_refl _,fun b u e _=>ygW h o b u e,fun b u e _ f=>?_,fun b z n=>absurd z n,fun n ks xs e1=>⟨e1,fun a e2=>yL fun z=>hm (z ▸ mem_of_getElem? e2)⟩⟩
 .intro b u e
  show upd W.H p o b=some u
  by_cases hb:b=p
  .subst hb;rw [show (yJL W b o).F b=upd W.F b o b from rfl,yF] at e;rw [yF];exact e
  .rw [show (yJL W p o).F b=upd W.F p o b from rfl,yL hb] at e;rw [yL hb];exact w.le _ _ e
 .have ha:a≠p:=fun z=>hm (z ▸ mem_of_getElem? e2)
  exact (w.at_ n d a e1 e2).mono sF (prefix_refl _) (fun u e=>by rw [show (yJL W p o).H a=upd W.H p o a from rfl,yL ha];exact e) fun f=>(yL ha).trans f
 .have:b≠p:=ycd e h
  rw [show (yJL W p o).F b=upd W.F p o b from rfl,yL this];exact f
def yph (W:Wd) (p:Addr) (o:HO):Wd:=⟨W.F,upd W.H p o,W.m,W.h⟩
theorem yeJ {W:Wd}{p:Addr}{o:HO}(w:WOk K W) (h:W.H p=none):Le K W (yph W p o):=by
 have hm:=w.out h
 refine ⟨⟨?_,w.len,w.nd,fun n d a e1 e2=>?_⟩,Same.refl _,prefix_refl _,fun b u e _=>ygW h o b u e,fun b u e _ f=>f,fun b z n=>absurd z n,fun n ks xs e1=>⟨e1,fun a e2=>yL fun z=>hm (z ▸ mem_of_getElem? e2)⟩⟩
 .exact fun b u e=>ygW h o b u (w.le _ _ e)
 .exact (w.at_ n d a e1 e2).mono (Same.refl _) (prefix_refl _) (fun u e=>ygW h o _ _ e) id
theorem small {n:Nat}(h:n<=1000):n<=sizeLine:=le_of_lt (yvV h)
theorem yJM (a:yxR K t e):ycD K (yRn t) (yfj e):=by
 intro W0 W ρ σ Q z h' g e q
 obtain ⟨xs,h1,e1,f1⟩:=yl e
 split at f1
 .rename_i hl
  cases f1
  refine a W0 W ρ σ _ xs _ g e1 fun vs W1 w1 l1 r1=>⟨small (by rw [r1.len];exact hl),fun p hp=>?_⟩
  have l2:=yCN (o:=.tup vs) l1.ok hp
  exact q (.ref p) (yJL W1 p (.tup vs)) w1 (l1.trans l2) ⟨p,vs,rfl,.inl yF,l2.repL r1⟩
 .cases f1
theorem yJN (a:yxR K t e):yyv K (yRo t) (yeG e):=by
 intro W0 W ρ σ Q z h' g e q
 obtain ⟨xs,h1,e1,f1⟩:=yl e
 split at f1
 .rename_i hl
  cases f1
  refine a W0 W ρ σ _ xs _ g e1 fun vs W1 w1 l1 r1=>⟨small (by rw [r1.len];exact hl),fun p hp=>?_⟩
  have l2:=yeJ (o:=.lst vs) l1.ok hp
  exact q p (yph W1 p (.lst vs)) w1 (l1.trans l2) (l1.ok.out hp) (l1.fresh hp) (fun z=>by cases z) ⟨l1.ok.ff hp,vs,yF,r1⟩
 .cases f1
def yFR (W:Wd) (p:Addr) (o:HO):Wd:=⟨upd W.F p o,W.H,W.m,W.h⟩
theorem yCO {W:Wd}{p:Addr}{o:HO}(w:WOk K W) (h:W.H p=some o) (hm:p∉W.m) (hf:W.F p=none):WOk K (yFR W p o)/\Same W.F (upd W.F p o):=by
 have sF:Same W.F (upd W.F p o):=ygW hf o
 refine ⟨⟨?_,w.len,w.nd,fun n d a e1 e2=>?_⟩,sF⟩
 .intro b u e
  by_cases hb:b=p
  .subst hb;rw [show (yFR W b o).F b=upd W.F b o b from rfl,yF] at e;cases e;exact h
  .rw [show (yFR W p o).F b=upd W.F p o b from rfl,yL hb] at e;exact w.le _ _ e
 .have ha:a≠p:=fun z=>hm (z ▸ mem_of_getElem? e2)
  exact (w.at_ n d a e1 e2).mono sF (prefix_refl _) (fun u e=>e) fun f=>(yL ha).trans f
theorem yyx {W W1:Wd}{p:Addr}{o:HO}(l:Le K W W1) (h:W1.H p=some o) (hm:p∉W1.m) (hf:W1.F p=none) (hn:W.H p=none):Le K W (yFR W1 p o):=by
 obtain ⟨k,sF⟩:=yCO l.ok h hm hf
 refine ⟨k,l.fs.trans sF,l.pre,l.keep,fun b u e n f=>?_,l.mn,l.fz⟩
 have:b≠p:=ycd e hn
 rw [show (yFR W1 p o).F b=upd W1.F p o b from rfl,yL this];exact l.new b u e n f
theorem yIp {o:XO}(a:yyv K ta o):ycD K ta (xFz o):=by
 intro W0 W ρ σ Q z h' g e q
 obtain ⟨d,h1,e1,f1⟩:=yl e
 refine a W0 W ρ σ _ d h1 g e1 fun p W1 w1 l1 hm hn hd at_=>?_
 split at f1
 .rename_i xs
  cases f1
  obtain ⟨hf,vs,hp,r⟩:=at_
  have l2:=yyx l1 hp hm hf hn
  exact q (.ref p) (yFR W1 p (.lst vs)) w1 l2 ⟨p,vs,rfl,yF,RepL.mono (ygW hf _) (prefix_refl _) _ _ r⟩
 .rename_i k ns xs
  cases f1
  obtain ⟨hf,dx,vs,hp,hl,r⟩:=at_
  have l2:=yyx l1 hp hm hf hn
  exact q (.ref p) (yFR W1 p _) w1 l2 ⟨p,dx,vs,rfl,yF,hl,RepL.mono (ygW hf _) (prefix_refl _) _ _ r⟩
 .cases f1
theorem yJO {o:XO}(a:yyv K ta o):ycD K ta (yor o):=by
 intro W0 W ρ σ Q z h' g e q
 obtain ⟨d,h1,e1,f1⟩:=yl e
 cases f1
 refine a W0 W ρ σ _ d h1 g e1 fun p W1 w1 l1 hm hn hd at_=>?_
 subst w1
 have pre:W1.m <+: W1.m++[p]:=List.prefix_append _ _
 refine q (.ref p) ⟨W1.F,W1.H,W1.m++[p],W1.h++[d]⟩ rfl ⟨⟨l1.ok.le,?_,?_,fun n d' a e1 e2=>?_⟩,l1.fs,l1.pre.trans pre,l1.keep,l1.new,fun b z n=>?_,fun n ks xs e1=>⟨by
  have:=(l1.fz n ks xs e1).1
  show (W1.h++[d])[n]?=_
  rw [getElem?_append_left (List.getElem?_eq_some_iff.mp this).1];exact this,(l1.fz n ks xs e1).2⟩⟩ ⟨p,rfl,?_⟩
 .show (W1.m++[p]).length=(W1.h++[d]).length
  rw [length_append,length_append,l1.ok.len];rfl
 .show (W1.m++[p]).Nodup
  rw [List.nodup_append]
  refine ⟨l1.ok.nd,by simp,?_⟩
  intro a ha b hb
  simp at hb
  subst hb
  exact fun z=>hm (z ▸ ha)
 .have e1:(W1.h++[d])[n]?=some d':=e1
  have e2:(W1.m++[p])[n]?=some a:=e2
  by_cases hlt:n<W1.h.length
  .rw [getElem?_append_left hlt] at e1
   rw [getElem?_append_left (by rw [l1.ok.len];exact hlt)] at e2
   exact (l1.ok.at_ n d' a e1 e2).mono (Same.refl _) pre (fun _ f1=>f1) id
  .rw [getElem?_append_right (by omega)] at e1
   rw [getElem?_append_right (by rw [l1.ok.len];omega)] at e2
   rw [l1.ok.len] at e2
   cases hk:n-W1.h.length with
   | zero =>
    rw [hk] at e1 e2
    simp at e1 e2
    subst e1 e2
    exact at_.mono (Same.refl _) pre (fun _ f1=>f1) id
   | succ k=>rw [hk] at e1;simp at e1
 .have z:b∈W1.m++[p]:=z
  rcases List.mem_append.mp z with z|z
  .exact l1.mn b z n
  .simp at z;subst z;exact hn
 .show (W1.m++[p])[W1.h.length]?=some p
  rw [<- l1.ok.len];simp
noncomputable def spE (K:Ck) (n:Nat) (f:Fn):Sp:=fun vs H Q _=>∃ (W:Wd) (xs:List PV) (x:PV) (h':AH),W.H=H/\WOk K W/\yei K W xs vs/\xs.length=n/\f xs W.h=some (x,h')/\∀ v W',W'.h=h'->Le K W W'->yeh K W' x v->Q v W'.H
theorem yFS {n:Nat}{f:Fn}{ex:XK}(a:yxR K t e) (hn:∀ ρ h xs h',e ρ h=some (xs,h')->xs.length=n):ycD K (yFA (spE K n f) [] ex t) (yU f e):=by
 intro W0 W ρ σ Q z h' g e' q
 obtain ⟨xs,h1,e1,e2⟩:=yl e'
 refine a W0 W ρ σ _ xs h1 g e1 fun vs W1 w1 l1 r1=>?_
 subst w1
 rw [append_nil]
 exact ⟨W1,xs,z,h',rfl,l1.ok,r1,hn _ _ _ _ e1,e2,fun v W2 w2 l2 r2=>q v W2 w2 (l1.trans l2) r2⟩
theorem yyy:∀ ρ h xs h',yj ρ h=some (xs,h')->xs.length=0:=fun ρ h xs h' e=>by cases e;rfl
theorem yFT {n:Nat}(l:∀ ρ h xs h',e ρ h=some (xs,h')->xs.length=n):∀ ρ h xs h',yb ea e ρ h=some (xs,h')->xs.length=n+1:=fun ρ h xs h' q=>by
 obtain ⟨x,h1,e1,q⟩:=yl q
 obtain ⟨ys,h2,e2,q⟩:=yl q
 cases q
 rw [length_cons,l _ _ _ _ e2]
theorem yIq {r} {p} (o:yqG K r p) (a:yxR K t e):ycD K (tCB r t) (xCB p e):=by
 intro W0 W ρ σ Q z h' g e' q
 obtain ⟨xs,h1,e1,e2⟩:=yl e'
 refine a W0 W ρ σ _ xs h1 g e1 fun vs W1 w1 l1 r1=>?_
 subst w1
 exact o W1 xs vs Q z h' l1.ok r1 e2 fun v W2 w2 l2 r2=>q v W2 w2 (l1.trans l2) r2
theorem yJP {r} {p} (o:yCK K r p) (a:yxR K t e):yyv K (tCB r t) (ynk p e):=by
 intro W0 W ρ σ Q z h' g e' q
 obtain ⟨xs,h1,e1,e2⟩:=yl e'
 refine a W0 W ρ σ _ xs h1 g e1 fun vs W1 w1 l1 r1=>?_
 subst w1
 exact o W1 xs vs Q z h' l1.ok r1 e2 (you l1 q)
theorem yIr {T:String}{c} {r} {p} (o:yux K T c r p) (b:ycD K ta ea) (a:yxR K t e):ycD K (tBM K.K T r ta t) (xBM c p ea e):=by
 intro W0 W ρ σ Q z h' g e' q
 obtain ⟨x,h1,e1,f1⟩:=yl e'
 split at f1
 .rename_i hc
  obtain ⟨xs,h2,e2,f2⟩:=yl f1
  refine b W0 W ρ σ _ x h1 g e1 fun v W1 w1 l1 r1=>⟨o.1 W1 x v l1.ok r1 (by rw [w1];exact hc),?_⟩
  subst w1
  refine a W0 W1 ρ σ _ xs h2 (g.step l1) e2 fun vs W2 w2 l2 r2=>?_
  subst w2
  exact o.2 W2 x v xs vs Q z h' l2.ok (l2.rep r1) r2 f2 fun w W3 w3 l3 r3=>q w W3 w3 (l1.trans (l2.trans l3)) r3
 .cases f1
theorem yJQ {T:String}{c} {r} {p} (o:yux K T c r p) (b:ycD K ta ea):ycD K (yOS K.K T r ta) (xBM c p ea yj):=yIr (t:=yFz) o b yuA
end
noncomputable def yLE (K:Ck) (t:TO) (e:PSt->AH->Option (Option Int×AH)):Prop:=∀ (W0 W:Wd) (ρ:PSt) (σ:St) (Q:Option Int->Hp->Prop) (x:Option Int) (h':AH),Good K W0 W ρ σ->e ρ W.h=some (x,h') ->
 (∀ W',W'.h=h'->Le K W W'->Q x W'.H)->t σ W.H Q
theorem yBe:yLE K yCx yqF:=by
 intro W0 W ρ σ Q z h' g e q
 cases e
 exact q W rfl (.refl g.ok)
theorem yFU {ta:TE}{ea:XE}(a:ycD K ta ea):yLE K (yMq ta) (yyw ea):=by
 intro W0 W ρ σ Q z h' g e q
 obtain ⟨x,h1,e1,f1⟩:=yl e
 split at f1
 .rename_i i
  cases f1
  exact a W0 W ρ σ _ _ _ g e1 fun v W1 w1 l1 r1=>⟨i,r1,q W1 w1 l1⟩
 .cases f1
def yCP (K:Ck) (r:V->Option Int->Option Int->Hp->VK->Prop) (p:PV->Option Int->Option Int->AH->Option (Nd×AH)):Prop:=∀ (W:Wd) (x:PV) (v:V) (lo hi:Option Int) (Q:VK) (d:Nd) (h':AH),WOk K W->yeh K W x v->p x lo hi W.h=some (d,h')->yBc K W d h' Q->r v lo hi W.H Q
theorem yJR {r} {p} {ta:TE}{ea:XE}{tl th:TO}{el eh} (o:yCP K r p) (a:ycD K ta ea) (b:yLE K tl el) (c:yLE K th eh):yyv K (tSl r ta tl th) (yLD p ea el eh):=by
 intro W0 W ρ σ Q z h' g e q
 obtain ⟨x,h1,e1,f1⟩:=yl e
 obtain ⟨l,h2,e2,f2⟩:=yl f1
 obtain ⟨u,h3,e3,f3⟩:=yl f2
 refine a W0 W ρ σ _ x h1 g e1 fun v W1 w1 l1 r1=>?_
 subst w1
 refine b W0 W1 ρ σ _ l h2 (g.step l1) e2 fun W2 w2 l2=>?_
 subst w2
 refine c W0 W2 ρ σ _ u h3 (g.step (l1.trans l2)) e3 fun W3 w3 l3=>?_
 subst w3
 exact o W3 x v l u Q z h' l3.ok ((l2.trans l3).rep r1) f3 (you (l1.trans (l2.trans l3)) q)
end PX
namespace PX
open PySem L2
variable {K:Ck}
def yP:XS:=fun ρ h=>some (.nx ρ,h)
def yn (s u:XS):XS:=fun ρ h=>ob (s ρ h) fun o h1=>match o with|.nx ρ'=>u ρ' h1|.rt x=>some (.rt x,h1)|.bk ρ'=>some (.bk ρ',h1)|.ct ρ'=>some (.ct ρ',h1)
def ybv (e:XE):XS:=fun ρ h=>ob (e ρ h) fun _ h1=>some (.nx ρ,h1)
def yS (e:XE):XS:=fun ρ h=>ob (e ρ h) fun x h1=>some (.rt x,h1)
def yca (c:XT) (s u:XS):XS:=fun ρ h=>ob (c ρ h) fun k h1=>if k=true then s ρ h1 else u ρ h1
abbrev XG:=PV->PSt->Option PSt
abbrev XGs:=List PV->PSt->Option PSt
def yr (i:Nat):XG:=fun x ρ=>some (ρ.set i (.val x))
def yOA:XGs:=fun xs ρ=>match xs with|[]=>some ρ|_=>none
def yBf (g:XG) (r:XGs):XGs:=fun xs ρ=>match xs with|[]=>none|x::xs=>(g x ρ).bind fun ρ'=>r xs ρ'
def yMH (n:Nat) (g:XGs):XG:=fun x ρ=>match x with|.tup xs=>if xs.length=n then g xs ρ else none|_=>none
def ybI (e:XE) (g:XG):XS:=fun ρ h=>ob (e ρ h) fun x h1=>(g x ρ).bind fun ρ'=>some (.nx ρ',h1)
def yBg (e:XO) (i:Nat):XS:=fun ρ h=>ob (e ρ h) fun d h1=>some (.nx (ρ.set i (.own d)),h1)
def yFd:PVar->PVar
 | .own (.lst xs)=>.val (.lst xs)
 | .own (.ins k ns xs)=>.val (.ins k ns xs)
 | v=>v
def yyz (i:Nat) (ρ:PSt):PSt:=ρ.modify i yFd
def yCQ (i:Nat) (s:XS):XS:=fun ρ h=>s (yyz i ρ) h
def ysX (i:Nat) (e:XE):XS:=fun ρ h=>match ρ[i]? with
 | some (.own (.lst xs))=>ob (e ρ h) fun x h1=>if xs.length<100000 then some (.nx (ρ.set i (.own (.lst (xs++[x])))),h1) else none
 | _=>none
def ypi (g:XG) (s:XS):List PV->PSt->AH->Option (Out×AH)
 | [],ρ,h=>some (.nx ρ,h)
 | x::xs,ρ,h=>(g x ρ).bind fun ρ1=>ob (s ρ1 h) fun o h1=>match o with|.nx ρ'=>ypi g s xs ρ' h1|.ct ρ'=>ypi g s xs ρ' h1|.bk ρ'=>some (.nx ρ',h1)|.rt y=>some (.rt y,h1)
def yzQ (it:XA) (g:XG) (s:XS):XS:=fun ρ h=>ob (it ρ h) fun xs h1=>ypi g s xs ρ h1
def whl (c:XT) (s:XS):Nat->PSt->AH->Option (Out×AH)
 | 0,_,_=>none
 | n+1,ρ,h=>ob (c ρ h) fun k h1=>if k=true then ob (s ρ h1) fun o h2=>(match o with|.nx ρ'=>whl c s n ρ' h2|.ct ρ'=>whl c s n ρ' h2|.bk ρ'=>some (.nx ρ',h2)|.rt y=>some (.rt y,h2)) else some (.nx ρ,h1)
def ylo (fuel:Nat) (c:XT) (s:XS):XS:=fun ρ h=>whl c s fuel ρ h
def ybX (N:Nat) (s:XS):Fn:=fun xs h=>ob (s (xs.map .val++replicate (N-xs.length) .no) h) fun o h1=>match o with|.rt x=>some (x,h1)|.nx _=>some (.non,h1)|_=>none
def yCR (ρ:PSt) (i:Nat):PVar:=match ρ[i]? with|some (.val y)=>.val y|_=>.no
def ypj (ix:List Nat) (ρ:PSt) (x:PV):PSt:=.val x::ix.map (yCR ρ)
def yuB (e:XE) (inn:PV->PSt):List PV->AH->Option (List PV×AH)
 | [],h=>some ([],h)
 | x::xs,h=>ob (e (inn x) h) fun y h1=>ob (yuB e inn xs h1) fun ys h2=>some (y::ys,h2)
def ylk (it:XA) (ix:List Nat) (e:XE):XO:=fun ρ h=>ob (it ρ h) fun xs h1=>if xs.length<=100000 then ob (yuB e (ypj ix ρ) xs h1) fun ys h2=>some (.lst ys,h2) else none
theorem Ends.Ok.from_ {W0 W W1:Wd}{D:Ends}{h':AH}{o:Out}(l:Lf K W W1) (k:Ends.Ok K W0 W D h' o):Ends.Ok K W0 W1 D h' o:=by
 cases o with
 | nx ρ=>exact fun W' σ' e l' g=>k W' σ' e (l.trans l') g
 | bk ρ=>exact fun W' σ' e l' g=>k W' σ' e (l.trans l') g
 | ct ρ=>exact fun W' σ' e l' g=>k W' σ' e (l.trans l') g
 | rt x=>exact k
section
variable {ta tb:TE}{ea eb:XE}{t u:TS}{s s':XS}{tA:TT}{eA:XT}
theorem yFV:ynj K yMf yP:=by
 intro W0 W ρ σ D o h' g e q
 cases e
 exact q W σ rfl .refl g
theorem yJS (a:ynj K t s) (b:ynj K u s'):ynj K (yOH t u) (yn s s'):=by
 intro W0 W ρ σ D o h' g e q
 obtain ⟨o1,h1,e1,f1⟩:=yl e
 refine a W0 W ρ σ _ o1 h1 g e1 ?_
 cases o1 with
 | nx ρ'=>exact fun W' σ' w l g'=>b W0 W' ρ' σ' D o h' g' (by rw [w];exact f1) (q.from_ l)
 | rt x=>cases f1;exact q
 | bk ρ'=>cases f1;exact q
 | ct ρ'=>cases f1;exact q
theorem yFW (a:ycD K ta ea):ynj K (yCf ta) (ybv ea):=by
 intro W0 W ρ σ D o h' g e q
 obtain ⟨x,h1,e1,f1⟩:=yl e
 cases f1
 exact a W0 W ρ σ _ x _ g e1 fun v W1 w1 l1 r1=>q W1 σ w1 l1.lf (g.step l1)
theorem yJT (a:ycD K ta ea):ynj K (yRe ta) (yS ea):=by
 intro W0 W ρ σ D o h' g e q
 obtain ⟨x,h1,e1,f1⟩:=yl e
 cases f1
 exact a W0 W ρ σ _ x _ g e1 fun v W1 w1 l1 r1=>q W1 v w1 (g.le.trans l1) r1
theorem yJU (c:yxQ K tA eA) (a:ynj K t s) (b:ynj K u s'):ynj K (yRf tA t u) (yca eA s s'):=by
 intro W0 W ρ σ D o h' g e q
 obtain ⟨k,h1,e1,f1⟩:=yl e
 refine c W0 W ρ σ _ k h1 g e1 fun W1 w1 l1=>?_
 subst w1
 cases k with
 | true =>
  rw [if_pos rfl] at f1 ⊢
  exact a W0 W1 ρ σ D o h' (g.step l1) f1 (q.from_ l1.lf)
 | false =>
  rw [if_neg (by decide)] at f1 ⊢
  exact b W0 W1 ρ σ D o h' (g.step l1) f1 (q.from_ l1.lf)
theorem Good.set {W0 W:Wd}{ρ:PSt}{σ:St}(g:Good K W0 W ρ σ) (i:Nat) {x:PV}{v:V}(r:yeh K W x v):Good K W0 W (ρ.set i (.val x)) (σ.set i (some v)) where
 le:=g.le
 len:=by simp [g.len]
 val:=fun j y e=>by
  by_cases hj:i=j
  .subst hj
   by_cases hl:i<ρ.length
   .rw [getElem?_set_self hl] at e
    cases e
    exact ⟨v,getElem?_set_self (by rw [g.len];exact hl),r⟩
   .rw [getElem?_eq_none (by simp;omega)] at e;cases e
  .rw [getElem?_set_ne hj] at e
   obtain ⟨w,h1,h2⟩:=g.val j y e
   exact ⟨w,by rw [getElem?_set_ne hj];exact h1,h2⟩
 own:=fun j d e=>by
  by_cases hj:i=j
  .subst hj
   by_cases hl:i<ρ.length
   .rw [getElem?_set_self hl] at e;cases e
   .rw [getElem?_eq_none (by simp;omega)] at e;cases e
  .rw [getElem?_set_ne hj] at e
   obtain ⟨p,h1,h2⟩:=g.own j d e
   exact ⟨p,by rw [getElem?_set_ne hj];exact h1,h2⟩
 ne:=fun j k d d' hjk e1 e2=>by
  have f:∀ {j:Nat}{d:Nd},(ρ.set i (.val x))[j]?=some (.own d)->i≠j/\ρ[j]?=some (.own d):=fun {j d} e=>by
   by_cases hj:i=j
   .subst hj
    by_cases hl:i<ρ.length
    .rw [getElem?_set_self hl] at e;cases e
    .rw [getElem?_eq_none (by simp;omega)] at e;cases e
   .rw [getElem?_set_ne hj] at e;exact ⟨hj,e⟩
  obtain ⟨a1,a2⟩:=f e1
  obtain ⟨b1,b2⟩:=f e2
  rw [getElem?_set_ne a1,getElem?_set_ne b1]
  exact g.ne j k d d' hjk a2 b2
theorem Good.setO {W0 W:Wd}{ρ:PSt}{σ:St}(g:Good K W0 W ρ σ) (i:Nat) {d:Nd}{p:Addr}(hm:p∉W.m) (h0:W0.H p=none) (hd:d≠.dead) (at_:NdAt K W.F W.H W.m d p)
  (ne:∀ j d',i≠j->ρ[j]?=some (.own d')->σ[j]?≠some (some (.ref p))):Good K W0 W (ρ.set i (.own d)) (σ.set i (some (.ref p))) where
 le:=g.le
 len:=by simp [g.len]
 val:=fun j y e=>by
  by_cases hj:i=j
  .subst hj
   by_cases hl:i<ρ.length
   .rw [getElem?_set_self hl] at e;cases e
   .rw [getElem?_eq_none (by simp;omega)] at e;cases e
  .rw [getElem?_set_ne hj] at e
   obtain ⟨w,h1,h2⟩:=g.val j y e
   exact ⟨w,by rw [getElem?_set_ne hj];exact h1,h2⟩
 own:=fun j d' e=>by
  by_cases hj:i=j
  .subst hj
   by_cases hl:i<ρ.length
   .rw [getElem?_set_self hl] at e
    cases e
    exact ⟨p,getElem?_set_self (by rw [g.len];exact hl),hm,h0,hd,at_⟩
   .rw [getElem?_eq_none (by simp;omega)] at e;cases e
  .rw [getElem?_set_ne hj] at e
   obtain ⟨p,h1,h2⟩:=g.own j d' e
   exact ⟨p,by rw [getElem?_set_ne hj];exact h1,h2⟩
 ne:=fun j k d1 d2 hjk e1 e2=>by
  have self:∀ {j:Nat}{d':Nd},i=j->(ρ.set i (.own d))[j]?=some (.own d')->(σ.set i (some (.ref p)))[j]?=some (some (.ref p)):=fun {j d'} hj e=>by
   subst hj
   by_cases hl:i<ρ.length
   .exact getElem?_set_self (by rw [g.len];exact hl)
   .rw [getElem?_eq_none (by simp;omega)] at e;cases e
  by_cases hj:i=j
  .have hk:i≠k:=fun z=>hjk (hj.symm.trans z)
   rw [self hj e1,getElem?_set_ne hk]
   rw [getElem?_set_ne hk] at e2
   exact (ne k d2 hk e2).symm
  .rw [getElem?_set_ne hj]
   rw [getElem?_set_ne hj] at e1
   by_cases hk:i=k
   .rw [self hk e2]
    exact ne j d1 hj e1
   .rw [getElem?_set_ne hk] at e2 ⊢
    exact g.ne j k d1 d2 hjk e1 e2
noncomputable def yFX (K:Ck) (g:TG) (y:XG):Prop:=∀ (W0 W:Wd) (ρ ρ':PSt) (σ:St) (x:PV) (v:V) (Q:St->Hp->Prop),Good K W0 W ρ σ->yeh K W x v->y x ρ=some ρ'->(∀ σ',Good K W0 W ρ' σ'->Q σ' W.H)->g v σ W.H Q
noncomputable def yBh (K:Ck) (g:TGs) (y:XGs):Prop:=∀ (W0 W:Wd) (ρ ρ':PSt) (σ:St) (x:List PV) (v:List V) (Q:St->Hp->Prop),Good K W0 W ρ σ->yei K W x v->y x ρ=some ρ'->(∀ σ',Good K W0 W ρ' σ'->Q σ' W.H)->g v σ W.H Q
theorem yqH (i:Nat):yFX K (yAS i) (yr i):=by
 intro W0 W ρ ρ' σ x v Q g r e q
 cases e
 exact q _ (g.set i r)
theorem yFY:yBh K yRh yOA:=by
 intro W0 W ρ ρ' σ x v Q g r e q
 cases x with
 | nil=>cases e;exact ⟨r,q _ g⟩
 | cons _ _=>cases e
theorem yCS {g:TG}{gs:TGs}{y:XG}{ys:XGs}(a:yFX K g y) (b:yBh K gs ys):yBh K (yMh g gs) (yBf y ys):=by
 intro W0 W ρ ρ' σ x v Q gd r e q
 cases x with
 | nil=>cases e
 | cons x xs =>
  obtain ⟨v1,vs,rfl,r1,r2⟩:=r
  obtain ⟨ρ1,e1,e2⟩:=Option.bind_eq_some_iff.mp e
  exact ⟨v1,vs,rfl,a W0 W ρ ρ1 σ x v1 _ gd r1 e1 fun σ' g'=>b W0 W ρ1 ρ' σ' xs vs Q g' r2 e2 q⟩
theorem yFZ {n:Nat}{gs:TGs}{ys:XGs}(b:yBh K gs ys):yFX K (yRi K.K n gs) (yMH n ys):=by
 intro W0 W ρ ρ' σ x v Q g r e q
 unfold yMH at e
 split at e
 .rename_i xs
  split at e
  .rename_i hl
   obtain ⟨a,vs,rfl,hs,rs⟩:=r
   exact ⟨a,vs,rfl,(hs.elim (fun h=>SqT.of (g.ok.le _ _ h)) .inr),by rw [rs.len];exact hl,b W0 W ρ ρ' σ xs vs Q g rs e q⟩
  .cases e
 .cases e
theorem yCT {g:TG}{y:XG}(a:ycD K ta ea) (b:yFX K g y):ynj K (yLC ta g) (ybI ea y):=by
 intro W0 W ρ σ D o h' gd e q
 obtain ⟨x,h1,e1,f1⟩:=yl e
 obtain ⟨ρ',e2,f2⟩:=Option.bind_eq_some_iff.mp f1
 cases f2
 exact a W0 W ρ σ _ x _ gd e1 fun v W1 w1 l1 r1=>b W0 W1 ρ ρ' σ x v _ (gd.step l1) r1 e2 fun σ' g'=>q W1 σ' w1 l1.lf g'
theorem yGa {o:XO}(i:Nat) (a:yyv K ta o):ynj K (yLC ta (yAS i)) (yBg o i):=by
 intro W0 W ρ σ D o h' gd e q
 obtain ⟨d,h1,e1,f1⟩:=yl e
 cases f1
 refine a W0 W ρ σ _ d _ gd e1 fun p W1 w1 l1 hm hn hd at_=>q W1 _ w1 l1.lf ((gd.step l1).setO i hm (gd.le.fresh hn) hd at_ fun j d' hj e hs=>?_)
 obtain ⟨p',h1,h2,_,_,h5⟩:=gd.own j d' e
 rw [h1] at hs
 cases hs
 obtain ⟨o,ho⟩:=h5.some
 rw [hn] at ho;cases ho
theorem Good.frz {W0 W:Wd}{ρ:PSt}{σ:St}(g:Good K W0 W ρ σ) (i:Nat):∃ W',W'.h=W.h/\W'.H=W.H/\Lf K W W'/\Good K W0 W' (yyz i ρ) σ:=by
 unfold yyz
 cases e:ρ[i]? with
 | none=>exact ⟨W,rfl,rfl,.refl,by rw [List.modify_eq_self (by simpa using e)];exact g⟩
 | some v =>
  have hl:i<ρ.length:=(List.getElem?_eq_some_iff.mp e).1
  have em:ρ.modify i yFd=ρ.set i (yFd v):=by
   apply List.ext_getElem?
   intro j
   rw [List.getElem?_modify,List.getElem?_set]
   by_cases hj:i=j
   .subst hj
    obtain ⟨_,ev⟩:=List.getElem?_eq_some_iff.mp e
    simp [hl,ev]
   .simp [hj]
  have same:yFd v=v->∃ W',W'.h=W.h/\W'.H=W.H/\Lf K W W'/\Good K W0 W' (ρ.modify i yFd) σ:=fun z=>⟨W,rfl,rfl,.refl,by
   rw [em,z]
   have:ρ.set i v=ρ:=by
    apply List.ext_getElem?
    intro j
    by_cases hj:i=j
    .subst hj;rw [getElem?_set_self hl,e]
    .rw [getElem?_set_ne hj]
   rw [this];exact g⟩
  have go:∀ (d:Nd) (x:PV) (p:Addr) (o:HO),v=.own d->yFd v=.val x->σ[i]?=some (some (.ref p))->p∉W.m->W0.H p=none->W.H p=some o->W.F p=none->(∀ (F':Hp),Same W.F F'->F' p=some o->Rep K F' W.m x (.ref p)) ->
    ∃ W',W'.h=W.h/\W'.H=W.H/\Lf K W W'/\Good K W0 W' (ρ.modify i yFd) σ:=fun d x p o hv hx hs hm h0 hp hf hr=>by
   obtain ⟨k,sF⟩:=yCO (K:=K) g.ok hp hm hf
   have lf:Lf K W (yFR W p o):=⟨sF,prefix_refl _,fun _ _ _ e=>⟨e,fun _ _=>rfl⟩⟩
   refine ⟨yFR W p o,rfl,rfl,lf,⟨yyx g.le hp hm hf h0,by rw [List.length_modify];exact g.len,fun j y e'=>?_,fun j d' e'=>?_,fun j1 j2 d1 d2 hj e1 e2=>?_⟩⟩
   .rw [em,hx] at e'
    by_cases hj:i=j
    .subst hj
     rw [getElem?_set_self hl] at e'
     cases e'
     exact ⟨_,hs,hr _ sF yF⟩
    .rw [getElem?_set_ne hj] at e'
     obtain ⟨w,a1,a2⟩:=g.val j y e'
     exact ⟨w,a1,lf.rep a2⟩
   .rw [em,hx] at e'
    by_cases hj:i=j
    .subst hj
     rw [getElem?_set_self hl] at e'
     cases e'
    .rw [getElem?_set_ne hj] at e'
     obtain ⟨q,a1,a2,a3,a4,a5⟩:=g.own j d' e'
     have hq:q≠p:=fun z=>g.ne j i d' d (fun z=>hj z.symm) e' (hv ▸ e) (by rw [a1,hs,z])
     exact ⟨q,a1,a2,a3,a4,a5.mono sF (prefix_refl _) (fun _ e=>e) fun f=>(yL hq).trans f⟩
   .rw [em,hx] at e1 e2
    have f:∀ {j:Nat}{d:Nd},(ρ.set i (.val x))[j]?=some (.own d)->ρ[j]?=some (.own d):=fun {j d} e=>by
     by_cases hj:i=j
     .subst hj;rw [getElem?_set_self hl] at e;cases e
     .rw [getElem?_set_ne hj] at e;exact e
    exact g.ne j1 j2 d1 d2 hj (f e1) (f e2)
  cases v with
  | no=>exact same rfl
  | val x=>exact same rfl
  | own d =>
   obtain ⟨p,a1,a2,a3,a4,a5⟩:=g.own i d e
   cases d with
   | lst xs =>
    obtain ⟨hf,vs,hp,r⟩:=a5
    exact go _ (.lst xs) p _ rfl rfl a1 a2 a3 hp hf fun F' s hF=>⟨p,vs,rfl,hF,RepL.mono s (prefix_refl _) _ _ r⟩
   | dct ks xs=>exact same rfl
   | fz ks xs=>exact same rfl
   | ins k ns xs =>
    obtain ⟨hf,dx,vs,hp,hl,r⟩:=a5
    exact go _ (.ins k ns xs) p _ rfl rfl a1 a2 a3 hp hf fun F' s hF=>⟨p,dx,vs,rfl,hF,hl,RepL.mono s (prefix_refl _) _ _ r⟩
   | dead=>exact same rfl
theorem yJV (i:Nat) (a:ynj K t s):ynj K t (yCQ i s):=by
 intro W0 W ρ σ D o h' g e q
 obtain ⟨W',e1,e2,l,g'⟩:=g.frz i
 rw [<- e2]
 exact a W0 W' _ σ D o h' g' (by rw [e1];exact e) (q.from_ l)
end
end PX
namespace PX
open PySem L2
variable {K:Ck}
section
variable {ta tb:TE}{ea eb:XE}{t u:TS}{s s':XS}{tA:TT}{eA:XT}
def yGb (W:Wd) (p:Addr) (o:HO):Wd:=⟨W.F,upd W.H p o,W.m,W.h⟩
theorem yJW {W:Wd}{p:Addr}{o:HO}(w:WOk K W) (hm:p∉W.m) (hf:W.F p=none):WOk K (yGb W p o):=by
 refine ⟨fun b u e=>?_,w.len,w.nd,fun n d a e1 e2=>?_⟩
 .have:b≠p:=ycd e hf
  exact (yL this).trans (w.le _ _ e)
 .have ha:a≠p:=fun z=>hm (z ▸ mem_of_getElem? e2)
  exact (w.at_ n d a e1 e2).mono (Same.refl _) (prefix_refl _) (fun u e=>(yL ha).trans e) id
theorem yyA {W W1:Wd}{p:Addr}{o:HO}(l:Le K W W1) (hm:p∉W1.m) (hf:W1.F p=none) (hn:W.H p=none):Le K W (yGb W1 p o) :=
 ⟨yJW l.ok hm hf,l.fs,l.pre,fun b u e n=>(yL (ycd e hn)).trans (l.keep b u e n),l.new,l.mn,fun n ks xs e1=>⟨(l.fz n ks xs e1).1,fun a e2=>(yL (fun (z:a=p)=>hm (z ▸ mem_of_getElem? (ylS l.pre e2)))).trans ((l.fz n ks xs e1).2 a e2)⟩⟩
theorem yCU {W W1:Wd}{p:Addr}{o:HO}(l:Le K W W1) (hm:p∉W1.m):Lf K W (yGb W1 p o) :=
 ⟨l.fs,l.pre,fun n ks xs e1=>⟨(l.fz n ks xs e1).1,fun a e2=>(yL (fun (z:a=p)=>hm (z ▸ mem_of_getElem? (ylS l.pre e2)))).trans ((l.fz n ks xs e1).2 a e2)⟩⟩
theorem Good.mut {W0 W:Wd}{ρ:PSt}{σ:St}(g:Good K W0 W ρ σ) {i:Nat}{d d':Nd}{p:Addr}{o:HO}(e:ρ[i]?=some (.own d)) (hs:σ[i]?=some (some (.ref p))) (hm:p∉W.m) (h0:W0.H p=none) (hf:W.F p=none) (hd:d'≠.dead)
  (at_:NdAt K W.F (upd W.H p o) W.m d' p):Good K W0 (yGb W p o) (ρ.set i (.own d')) σ:=by
 have hl:i<ρ.length:=(List.getElem?_eq_some_iff.mp e).1
 refine ⟨yyA g.le hm hf h0,by rw [length_set];exact g.len,fun j y e'=>?_,fun j d1 e'=>?_,fun j1 j2 d1 d2 hj e1 e2=>?_⟩
 .by_cases hj:i=j
  .subst hj;rw [getElem?_set_self hl] at e';cases e'
  .rw [getElem?_set_ne hj] at e';exact g.val j y e'
 .by_cases hj:i=j
  .subst hj;rw [getElem?_set_self hl] at e';cases e';exact ⟨p,hs,hm,h0,hd,at_⟩
  .rw [getElem?_set_ne hj] at e'
   obtain ⟨q,a1,a2,a3,a4,a5⟩:=g.own j d1 e'
   have hq:q≠p:=fun z=>g.ne j i d1 d (fun z=>hj z.symm) e' e (by rw [a1,hs,z])
   exact ⟨q,a1,a2,a3,a4,a5.mono (Same.refl _) (prefix_refl _) (fun u e=>(yL hq).trans e) id⟩
 .have f:∀ {j:Nat}{d1:Nd},(ρ.set i (.own d'))[j]?=some (.own d1)->∃ d2,ρ[j]?=some (.own d2):=fun {j d1} e'=>by
   by_cases hj:i=j
   .subst hj;exact ⟨d,e⟩
   .rw [getElem?_set_ne hj] at e';exact ⟨_,e'⟩
  obtain ⟨_,f1⟩:=f e1
  obtain ⟨_,f2⟩:=f e2
  exact g.ne j1 j2 _ _ hj f1 f2
theorem big {n:Nat}(h:n<100000):n<sizeLine:=lt_of_lt_of_le h (by decide)
theorem yJX {n:Nat}(h:n<=100000):n<=sizeLine:=Nat.le_trans h (by decide)
theorem yGc (i:Nat) (a:ycD K ta ea):ynj K (yCf (tBM K.K "list" yye (yBW i) (yya ta yFz))) (ysX i ea):=by
 intro W0 W ρ σ D o h' g e q
 unfold ysX at e
 split at e
 .rename_i xs0 hx
  obtain ⟨x,h1,e1,f1⟩:=yl e
  split at f1
  .rename_i hlen
   cases f1
   obtain ⟨p,a1,a2,a3,a4,hf,vs,hp,r⟩:=g.own i _ hx
   refine ⟨.ref p,a1,.inl ⟨rfl,_,SqL.of hp⟩,?_⟩
   refine a W0 W ρ σ _ x _ g e1 fun v W1 w1 l1 r1=>⟨p,vs,v,rfl,rfl,l1.keep _ _ hp a2,by rw [r.len];exact big hlen,?_⟩
   have g1:=g.step l1
   obtain ⟨p',b1,b2,b3,b4,b5,vs',b6,b7⟩:=g1.own i _ hx
   rw [a1] at b1
   cases b1
   rw [l1.keep _ _ hp a2] at b6
   cases b6
   exact q (yGb W1 p (.lst (vs++[v]))) σ w1 (yCU l1 b2) (g1.mut hx a1 b2 b3 b5 (fun z=>by cases z) ⟨b5,_,yF,b7.snoc r1⟩)
  .cases f1
 .cases e
structure yPh (K:Ck) (W:Wd) (J:It) (xs:List PV):Prop where
 go:∀ (i:Nat) (W':Wd),Lf K W W'->WOk K W'->i<xs.length->J.go i W'.H
 yld:∀ (i:Nat) (W':Wd) (v:V) (H2:Hp),Lf K W W'->WOk K W'->i<xs.length->J.yld i W'.H v H2->H2=W'.H/\∃ x,xs[i]?=some x/\yeh K W' x v
 stop:∀ (W':Wd),Lf K W W'->WOk K W'->J.stop xs.length W'.H
noncomputable def yIs (K:Ck) (wi:TI) (e:XA):Prop:=∀ (W0 W:Wd) (ρ:PSt) (σ:St) (R:It->Hp->Prop) (xs:List PV) (h':AH),Good K W0 W ρ σ->e ρ W.h=some (xs,h')->(∀ J W',W'.h=h'->Le K W W'->yPh K W' J xs->R J W'.H)->wi σ W.H R
def xIL (e:XE):XA:=fun ρ h=>ob (e ρ h) fun x h1=>match x with|.lst xs=>some (xs,h1)|.scr ns=>some (ns.map .int,h1)|_=>none
def sgn (c:Nat):PV:=.str ⟨#[c]⟩
def xIS (e:XE):XA:=fun ρ h=>ob (e ρ h) fun x h1=>match x with|.str z=>if z.length<=100000 then some (z.cps.toList.map sgn,h1) else none|_=>none
def yuC (lo:Int) (n:Nat):List PV:=(List.range n).map fun (k:Nat)=>.int (lo+(k:Int))
def yFe (a:XA):XA:=fun ρ h=>ob (a ρ h) fun xs h1=>match xs with|[.int j]=>if -1000000000<=j/\j<=1000000000 then some (yuC 0 j.toNat,h1) else none|_=>none
theorem ylT {W:Wd}(w:WOk K W) {a:Addr}{vs:List V}(h:SqL K.K W.F a vs):SqL K.K W.H a vs:=Same.seq w.le h
theorem yfx {W:Wd}(w:WOk K W) {a:Addr}{vs:List V}(h:TpAt K.K W.F a vs):SqT K.K W.H a vs:=h.elim (fun h=>SqT.of (w.le _ _ h)) .inr
theorem yCV (a:ycD K ta ea):yIs K (yFs K.K ta) (xIL ea):=by
 intro W0 W ρ σ R xs h' g e q
 obtain ⟨x,h1,e1,f1⟩:=yl e
 refine a W0 W ρ σ _ x h1 g e1 fun v W1 w1 l1 r1=>?_
 have key:∀ (a:Addr) (vs:List V),v=.ref a->SqL K.K W1.F a vs->RepL K W1.F W1.m xs vs->h1=h'->∃ a,v=.ref a/\(∃ xs,SqL K.K W1.H a xs)/\R (Itl K.K a) W1.H:=fun a vs ev hs rs eh=>by
  subst eh
  refine ⟨a,ev,⟨vs,ylT l1.ok hs⟩,q _ W1 w1 l1 ⟨fun i W' l w hi=>?_,fun i W' v' H2 l w hi hy=>?_,fun W' l w=>?_⟩⟩
  .obtain ⟨v',h1,_⟩:=rs.get (List.getElem?_eq_getElem hi)
   exact ⟨vs,v',ylT w (Same.seq l.fs hs),h1⟩
  .obtain ⟨h1,h2⟩:=hy
   have:=h2 vs (ylT w (Same.seq l.fs hs))
   obtain ⟨x,h3,h4⟩:=rs.get' this
   exact ⟨h1,x,h3,l.rep h4⟩
  .exact ⟨vs,ylT w (Same.seq l.fs hs),by rw [rs.len];exact Nat.le_refl _⟩
 split at f1
 .cases f1
  obtain ⟨a,vs,ev,hs,rs⟩:=r1
  exact key a vs ev (SqL.of hs) rs rfl
 .rename_i ns
  cases f1
  obtain ⟨a,ev,hs⟩:=r1
  exact key a _ ev hs (RepL.of_ints ns) rfl
 .cases f1
theorem yGd (a:ycD K ta ea):yIs K (yRA ta) (xIS ea):=by
 intro W0 W ρ σ R xs h' g e q
 obtain ⟨x,h1,e1,f1⟩:=yl e
 refine a W0 W ρ σ _ x h1 g e1 fun v W1 w1 l1 r1=>?_
 split at f1
 .rename_i z
  split at f1
  .rename_i hz
   cases f1
   have hl:z.length=z.cps.toList.length:=by simp [Str.length]
   refine ⟨z,r1,yJX hz,q _ W1 w1 l1 ⟨fun i W' l w hi=>?_,fun i W' v' H2 l w hi hy=>?_,fun W' l w=>?_⟩⟩
   .show i<z.length
    rw [hl];simpa using hi
   .obtain ⟨h1,c,h2,h3⟩:=hy
    exact ⟨h1,sgn c,by rw [getElem?_map,h2];rfl,h3⟩
   .show _=z.length
    rw [hl];simp
  .cases f1
 .cases f1
theorem yMI (W:Wd) (lo:Int) (n:Nat):yPh K W (Itr lo n) (yuC lo n):=by
 refine ⟨fun i W' l w hi=>?_,fun i W' v' H2 l w hi hy=>?_,fun W' l w=>?_⟩
 .show i<n
  simpa [yuC] using hi
 .obtain ⟨h1,h2⟩:=hy
  have hi:i<n:=by simpa [yuC] using hi
  exact ⟨h1,.int (lo+(i:Int)),by simp [yuC,hi],h2⟩
 .show n<=_
  simp [yuC]
theorem yCW {t:TA}{e:XA}(a:yxR K t e):yIs K (yMl t) (yFe e):=by
 intro W0 W ρ σ R xs h' g e q
 obtain ⟨ys,h1,e1,f1⟩:=yl e
 split at f1
 .rename_i j
  split at f1
  .rename_i hj
   cases f1
   refine a W0 W ρ σ _ _ _ g e1 fun vs W1 w1 l1 r1=>?_
   obtain ⟨v,r,rfl,rv,rr⟩:=r1
   obtain rfl:r=[]:=rr
   exact ⟨j,by rw [show v=.int j from rv],by omega,by omega,q _ W1 w1 l1 (yMI W1 0 _)⟩
  .cases f1
 .cases f1
theorem yJY {wi:TI}{it:XA}{g:TG}{y:XG}(a:yIs K wi it) (b:yFX K g y) (c:ynj K t s):ynj K (yOK wi g t) (yzQ it y s):=by
 intro W0 W ρ σ D o h' gd e q
 obtain ⟨xs,h1,e1,f1⟩:=yl e
 refine a W0 W ρ σ _ xs h1 gd e1 fun J W1 w1 l1 J1=>?_
 subst w1
 have q1:=q.from_ l1.lf
 refine ⟨fun i m σ H=>m=xs.length-i/\i<=xs.length/\∃ W' ρ',W'.H=H/\Lf K W1 W'/\Good K W0 W' ρ' σ/\ypi y s (xs.drop i) ρ' W'.h=some (o,h'),⟨_,rfl,zero_le _,W1,ρ,rfl,.refl,gd.step l1,by simpa using f1⟩,?_⟩
 rintro i m σ _ ⟨rfl,hi,W',ρ',rfl,l,g',f⟩
 by_cases hlt:i<xs.length
 .rw [List.drop_eq_getElem_cons hlt] at f
  obtain ⟨ρ1,k1,f⟩:=Option.bind_eq_some_iff.mp f
  obtain ⟨o1,h2,k2,f3⟩:=yl f
  refine .inr ⟨J1.go i W' l g'.ok hlt,fun σ2 H2=>i+1<=xs.length/\∃ W2 ρ2,W2.H=H2/\Lf K W1 W2/\Good K W0 W2 ρ2 σ2/\ypi y s (xs.drop (i+1)) ρ2 W2.h=some (o,h'),fun σ2 H2 ⟨n1,n2⟩=>⟨xs.length-(i+1),by omega,rfl,n1,n2⟩,fun v H2 hy=>?_⟩
  obtain ⟨rfl,x,hx,rx⟩:=J1.yld i W' v H2 l g'.ok hlt hy
  rw [List.getElem?_eq_getElem hlt] at hx
  cases hx
  refine b W0 W' ρ' ρ1 σ _ v _ g' rx k1 fun σ2 g2=>?_
  refine c W0 W' ρ1 σ2 _ o1 h2 g2 k2 ?_
  cases o1 with
  | nx ρ2=>exact fun W2 σ3 w2 l2 g3=>⟨hlt,W2,ρ2,rfl,l.trans l2,g3,by rw [w2];exact f3⟩
  | ct ρ2=>exact fun W2 σ3 w2 l2 g3=>⟨hlt,W2,ρ2,rfl,l.trans l2,g3,by rw [w2];exact f3⟩
  | bk ρ2=>cases f3;exact fun W2 σ3 w2 l2 g3=>q1 W2 σ3 w2 (l.trans l2) g3
  | rt x=>cases f3;exact q1
 .have ei:i=xs.length:=by omega
  subst ei
  refine .inl ⟨J1.stop W' l g'.ok,?_⟩
  rw [List.drop_length] at f
  cases f
  exact q1 W' σ rfl l g'
theorem yCX (n:Nat) (c:yxQ K tA eA) (a:ynj K t s):ynj K (yHZ tA t) (ylo n eA s):=by
 intro W0 W ρ σ D o h' gd e q
 refine ⟨fun m σ H=>∃ W' ρ',W'.H=H/\Lf K W W'/\Good K W0 W' ρ' σ/\whl eA s m ρ' W'.h=some (o,h'),⟨n,W,ρ,rfl,.refl,gd,e⟩,?_⟩
 rintro m σ _ ⟨W',ρ',rfl,l,g',f⟩
 cases m with
 | zero=>cases f
 | succ m =>
  obtain ⟨k,h1,e1,f1⟩:=yl f
  refine c W0 W' ρ' σ _ k h1 g' e1 fun W1 w1 l1=>?_
  subst w1
  cases k with
  | false =>
   rw [if_neg (by decide)] at f1 ⊢
   cases f1
   exact q W1 σ rfl (l.trans l1.lf) (g'.step l1)
  | true =>
   rw [if_pos rfl] at f1 ⊢
   obtain ⟨o1,h2,k2,f3⟩:=yl f1
   refine ⟨fun σ2 H2=>∃ W2 ρ2,W2.H=H2/\Lf K W W2/\Good K W0 W2 ρ2 σ2/\whl eA s m ρ2 W2.h=some (o,h'),fun σ2 H2 z=>⟨m,Nat.lt_succ_self _,z⟩,?_⟩
   refine a W0 W1 ρ' σ _ o1 h2 (g'.step l1) k2 ?_
   have l':=l.trans l1.lf
   cases o1 with
   | nx ρ2=>exact fun W2 σ3 w2 l2 g3=>⟨W2,ρ2,rfl,l'.trans l2,g3,by rw [w2];exact f3⟩
   | ct ρ2=>exact fun W2 σ3 w2 l2 g3=>⟨W2,ρ2,rfl,l'.trans l2,g3,by rw [w2];exact f3⟩
   | bk ρ2=>cases f3;exact fun W2 σ3 w2 l2 g3=>q W2 σ3 w2 (l'.trans l2) g3
   | rt x=>cases f3;exact q
theorem yCY {e:XE}{inn:PV->PSt}:∀ {xs:List PV}{h:AH}{ys:List PV}{h':AH},yuB e inn xs h=some (ys,h')->ys.length=xs.length
 | [],_,_,_,e=>by cases e;rfl
 | x::xs,_,_,_,e=>by
  obtain ⟨y,h1,e1,f1⟩:=yl e
  obtain ⟨ys,h2,e2,f2⟩:=yl f1
  cases f2
  rw [length_cons,length_cons,yCY e2]
theorem yzR {W0 W W':Wd}{ρ:PSt}{σ:St}(g:Good K W0 W ρ σ) (l:Le K W W') (ix:List Nat) {x:PV}{v:V}(r:yeh K W' x v):Good K W' W' (ypj ix ρ x) (inner ix σ v) where
 le:=.refl l.ok
 len:=by simp [ypj,inner]
 val:=fun j y e=>by
  cases j with
  | zero=>simp [ypj] at e;subst e;exact ⟨v,rfl,r⟩
  | succ j =>
   have e:(ix.map (yCR ρ))[j]?=some (.val y):=e
   rw [getElem?_map] at e
   cases ei:ix[j]? with
   | none=>rw [ei] at e;cases e
   | some i =>
    rw [ei] at e
    have e:yCR ρ i=.val y:=Option.some.inj e
    unfold yCR at e
    split at e
    .rename_i z hz
     cases e
     obtain ⟨w,h1,h2⟩:=g.val i _ hz
     exact ⟨w,by show (ix.map fun i=>(σ[i]?).getD none)[j]?=_;rw [getElem?_map,ei];simp [h1],l.rep h2⟩
    .cases e
 own:=fun j d e=>by
  cases j with
  | zero=>simp [ypj] at e
  | succ j =>
   have e:(ix.map (yCR ρ))[j]?=some (.own d):=e
   rw [getElem?_map] at e
   cases ei:ix[j]? with
   | none=>rw [ei] at e;cases e
   | some i =>
    rw [ei] at e
    have e:yCR ρ i=.own d:=Option.some.inj e
    unfold yCR at e
    split at e<;>cases e
 ne:=fun j k d d' _ e _=>by
  cases j with
  | zero=>simp [ypj] at e
  | succ j =>
   have e:(ix.map (yCR ρ))[j]?=some (.own d):=e
   rw [getElem?_map] at e
   cases ei:ix[j]? with
   | none=>rw [ei] at e;cases e
   | some i =>
    rw [ei] at e
    have e:yCR ρ i=.own d:=Option.some.inj e
    unfold yCR at e
    split at e<;>cases e
theorem yzS {wi:TI}{it:XA}(ix:List Nat) (a:yIs K wi it) (b:ycD K ta ea):yyv K (yFH wi ix ta) (ylk it ix ea):=by
 intro W0 W ρ σ Q d h' gd e q
 obtain ⟨xs,h1,e1,f1⟩:=yl e
 split at f1
 .rename_i hlen
  obtain ⟨zs,h2,e2,f2⟩:=yl f1
  cases f2
  have hz:=yCY e2
  refine a W0 W ρ σ _ xs h1 gd e1 fun J W1 w1 l1 J1=>?_
  subst w1
  intro D hD
  have nm:=l1.ok.out hD
  have nf:=l1.ok.ff hD
  refine ⟨fun i m H=>m=xs.length-i/\i<=xs.length/\∃ W' acc done rest,W'.H=H/\Le K W1 W'/\D∉W'.m/\W'.F D=none/\H D=some (.lst acc)/\yei K W' done acc/\done.length=i/\zs=done++rest/\yuB ea (ypj ix ρ) (xs.drop i) W'.h=some (rest,h'),⟨_,rfl,zero_le _,yph W1 D (.lst []),[],[],zs,rfl,yeJ l1.ok hD,nm,nf,yF,rfl,rfl,rfl,by rw [List.drop_zero];exact e2⟩,?_⟩
  rintro i m _ ⟨rfl,hi,W',acc,done,rest,rfl,l,n1,n2,hd,rd,ld,ez,f⟩
  by_cases hlt:i<xs.length
  .rw [List.drop_eq_getElem_cons hlt] at f
   obtain ⟨y,h3,k1,f3⟩:=yl f
   obtain ⟨ys,h4,k2,f4⟩:=yl f3
   cases f4
   refine .inr ⟨J1.go i W' l.lf l.ok hlt,fun v H2 hy=>?_⟩
   obtain ⟨rfl,x,hx,rx⟩:=J1.yld i W' v H2 l.lf l.ok hlt hy
   rw [List.getElem?_eq_getElem hlt] at hx
   cases hx
   refine b W' W' _ _ _ y h3 (yzR gd (l1.trans l) ix rx) k1 fun w W2 w2 l2 r2=>?_
   obtain ⟨o2,n2'⟩:∃ o,W'.H D=some o:=⟨_,hd⟩
   have nm2:D∉W2.m:=fun z=>by rw [l2.mn D z n1] at hd;cases hd
   have nf2:W2.F D=none:=l2.new D _ hd n1 n2
   refine ⟨acc,l2.keep _ _ hd n1,?_,xs.length-(i+1),by omega,rfl,hlt,yGb W2 D (.lst (acc++[w])),acc++[w],done++[y],ys,rfl,yyA (l.trans l2) nm2 nf2 hD,nm2,nf2,yF,(l2.repL rd).snoc r2,by simp [ld],by simp [ez],?_⟩
   .rw [rd.len,ld];exact big (by omega)
   .show yuB ea (ypj ix ρ) (xs.drop (i+1)) W2.h=some (ys,h')
    rw [w2];exact k2
  .have ei:i=xs.length:=by omega
   subst ei
   rw [List.drop_length] at f
   cases f
   refine .inl ⟨J1.stop W' l.lf l.ok,?_⟩
   rw [append_nil] at ez
   subst ez
   exact q D W' rfl (l1.trans l) n1 (l1.fresh hD) (fun z=>by cases z) ⟨n2,acc,hd,rd⟩
 .cases f1
theorem yov {W:Wd}(w:WOk K W) {N:List Str}{xs:List PV}{vs:List V}(r:yei K W xs vs):Good K W W (xs.map .val++replicate (N.length-xs.length) .no) (L2.start N vs) where
 le:=.refl w
 len:=by simp [L2.start,r.len]
 val:=fun j y e=>by
  by_cases hj:j<xs.length
  .rw [getElem?_append_left (by simpa using hj),getElem?_map,List.getElem?_eq_getElem hj] at e
   cases e
   obtain ⟨v,h1,h2⟩:=r.get (List.getElem?_eq_getElem hj)
   refine ⟨v,?_,h2⟩
   unfold L2.start
   rw [getElem?_append_left (by simp [r.len,hj]),getElem?_map,h1];rfl
  .rw [getElem?_append_right (by simp;omega),getElem?_replicate] at e
   split at e<;>cases e
 own:=fun j d e=>by
  by_cases hj:j<xs.length
  .rw [getElem?_append_left (by simpa using hj),getElem?_map,List.getElem?_eq_getElem hj] at e
   cases e
  .rw [getElem?_append_right (by simp;omega),getElem?_replicate] at e
   split at e<;>cases e
 ne:=fun j k d d' _ e _=>by
  by_cases hj:j<xs.length
  .rw [getElem?_append_left (by simpa using hj),getElem?_map,List.getElem?_eq_getElem hj] at e
   cases e
  .rw [getElem?_append_right (by simp;omega),getElem?_replicate] at e
   split at e<;>cases e
theorem yGe {N:List Str}{n:Nat}{vs:List V}{H:Hp}{Q:VK}{E:XK}{bk ct:St->Hp->Prop}(a:ynj K t s) (h:spE K n (ybX N.length s) vs H Q E):t ⟨fun _ H'=>Q .non H',Q,bk,ct⟩ (L2.start N vs) H:=by
 obtain ⟨W,xs,x,h',rfl,w,r,_,e,q⟩:=h
 obtain ⟨o,h1,e1,f1⟩:=yl e
 refine a W W _ _ _ o h1 (yov w r) e1 ?_
 cases o with
 | rt y=>cases f1;exact fun W' v ew l rv=>q v W' ew l rv
 | nx ρ=>cases f1;exact fun W' σ' ew _ g=>q .non W' ew g.le rfl
 | bk ρ=>cases f1
 | ct ρ=>cases f1
theorem yJZ {n:Nat}{f:Fn}{vs:List V}{H:Hp}{Q:VK}{E:XK}(h:spE K n f vs H Q E):vs.length=n:=by
 obtain ⟨W,xs,x,h',rfl,w,r,hn,_⟩:=h
 rw [r.len,hn]
end
end PX
namespace PX
open PySem L2
variable {K:Ck}
def oI (g:Int->Int->PV):P2:=fun x y h=>match x,y with|.int i,.int j=>some (g i j,h)|_,_=>none
noncomputable def oIc (C:Int->Int->Prop) [∀ i j,Decidable (C i j)] (g:Int->Int->PV):P2:=fun x y h=>match x,y with|.int i,.int j=>if C i j then some (g i j,h) else none|_,_=>none
abbrev yno:P2:=oI fun i j=>.int (i+j)
abbrev yGf:P2:=oI fun i j=>.int (i-j)
noncomputable def MulOk (i j:Int):Prop:=(-18446744073709551616<i/\i<18446744073709551616)\/(-18446744073709551616<j/\j<18446744073709551616)
instance (i j:Int):Decidable (MulOk i j):=by unfold MulOk;infer_instance
def yCZ (i j:Int):Prop:=(0<=i/\i<18446744073709551616)/\0<=j/\j<=1000000
instance (i j:Int):Decidable (yCZ i j):=by unfold yCZ;infer_instance
abbrev yMJ:P2:=oIc MulOk fun i j=>.int (i*j)
abbrev oDiv:P2:=oIc (fun _ j=>0<j/\j<1073741824) fun i j=>.int (i/j)
abbrev oMod:P2:=oIc (fun _ j=>0<j) fun i j=>.int (i%j)
abbrev yPi:P2:=oIc yCZ fun i j=>.int (i ^ j.toNat)
abbrev oLt:P2:=oI fun i j=>.bl (decide (i<j))
abbrev oLe:P2:=oI fun i j=>.bl (decide (i<=j))
abbrev oGt:P2:=oI fun i j=>.bl (decide (j<i))
abbrev oGe:P2:=oI fun i j=>.bl (decide (j<=i))
abbrev yMK:PV->AH->Option (PV×AH):=fun x h=>match x with|.int i=>some (.int (-i),h)|_=>none
theorem yLF {g:Int->Int->PV}{gV:Int->Int->V}(h:∀ (W:Wd) i j,yeh K W (g i j) (gV i j)):ycS K (rI0 gV) (oI g):=by
 intro W x y v u Q z h' w rx ry e q
 unfold oI at e
 split at e
 .rename_i i j
  cases e
  exact ⟨i,j,rx,ry,q _ W rfl (.refl w) (h W i j)⟩
 .cases e
theorem yGg {C:Int->Int->Prop} [∀ i j,Decidable (C i j)] {C':Int->Int->Prop}{g:Int->Int->PV}{gV:Int->Int->V}(hc:∀ i j,C i j->C' i j) (h:∀ (W:Wd) i j,yeh K W (g i j) (gV i j)):ycS K (rI C' gV) (oIc C g):=by
 intro W x y v u Q z h' w rx ry e q
 unfold oIc at e
 split at e
 .rename_i i j
  split at e
  .rename_i c
   cases e
   exact ⟨i,j,rx,ry,hc i j c,q _ W rfl (.refl w) (h W i j)⟩
  .cases e
 .cases e
theorem ygd:ycS K yOU yno:=yLF fun _ _ _=>rfl
theorem yBi:ycS K yOV yGf:=yLF fun _ _ _=>rfl
theorem yML:ycS K yOW yMJ:=yGg (fun i j h=>by unfold CMul;rw [show (2:Int) ^ 64=18446744073709551616 by decide];exact h) fun _ _ _=>rfl
theorem yMM:ycS K yOX oDiv:=yGg (fun i j h=>h) fun _ _ _=>rfl
theorem yuD:ycS K yOY oMod:=yGg (fun i j h=>h) fun _ _ _=>rfl
theorem yMN:ycS K yOZ yPi:=yGg (fun i j h=>by unfold yON;rw [show 2 ^ 64=18446744073709551616 by decide];unfold yCZ at h;omega) fun _ _ _=>rfl
theorem yIt:ycS K yRQ oLt:=yLF fun _ _ _=>rfl
theorem yFf:ycS K yRR oLe:=yLF fun _ _ _=>rfl
theorem yOB:ycS K yRS oGt:=yLF fun _ _ _=>rfl
theorem yRV:ycS K yRT oGe:=yLF fun _ _ _=>rfl
theorem yKa:yJE K yPa yMK:=by
 intro W x v Q z h' w rx e q
 unfold yMK at e
 split at e
 .rename_i i
  cases e
  exact ⟨i,rx,q _ W rfl (.refl w) rfl⟩
 .cases e
def sv:PV->Option V
 | .non=>some .non
 | .bl b=>some (.bl b)
 | .int i=>some (.int i)
 | .str s=>some (.str s)
 | _=>none
theorem ylp {W:Wd}{x:PV}{v u:V}(e:sv x=some u) (r:yeh K W x v):v=u:=by
 cases x<;>cases e<;>exact r
def oEq:P2:=fun x y h=>match sv x,sv y with|some v,some u=>if yId v u=true then some (.bl (decide (v=u)),h) else none|_,_=>none
def oNe:P2:=fun x y h=>match sv x,sv y with|some v,some u=>if yId v u=true then some (.bl (!decide (v=u)),h) else none|_,_=>none
theorem yge:ycS K rEq oEq:=by
 intro W x y v u Q z h' w rx ry e q
 unfold oEq at e
 split at e
 .rename_i v' u' e1 e2
  obtain rfl:=ylp e1 rx
  obtain rfl:=ylp e2 ry
  split at e
  .rename_i c
   cases e
   exact ⟨c,q _ W rfl (.refl w) rfl⟩
  .cases e
 .cases e
theorem yFg:ycS K rNe oNe:=by
 intro W x y v u Q z h' w rx ry e q
 unfold oNe at e
 split at e
 .rename_i v' u' e1 e2
  obtain rfl:=ylp e1 rx
  obtain rfl:=ylp e2 ry
  split at e
  .rename_i c
   cases e
   exact ⟨c,q _ W rfl (.refl w) rfl⟩
  .cases e
 .cases e
def isN:PV->Bool
 | .non=>true
 | _=>false
def yLG:P2:=fun x y h=>match y with|.non=>some (.bl (isN x),h)|_=>none
def yGh:P2:=fun x y h=>match y with|.non=>some (.bl (!isN x),h)|_=>none
theorem yDa {W:Wd}{x:PV}{v:V}(r:yeh K W x v):decide (v=.non)=isN x:=by
 cases x with
 | non=>rw [show v=.non from r];rfl
 | bl b=>rw [show v=.bl b from r];rfl
 | int b=>rw [show v=.int b from r];rfl
 | str b=>rw [show v=.str b from r];rfl
 | ty b=>rw [show v=.ty b from r];rfl
 | cls b=>rw [show v=.ref _ from r];rfl
 | scr b=>obtain ⟨a,e,_⟩:=r;rw [e];rfl
 | lst b=>obtain ⟨a,_,e,_⟩:=r;rw [e];rfl
 | tup b=>obtain ⟨a,_,e,_⟩:=r;rw [e];rfl
 | ins k n b=>obtain ⟨a,_,_,e,_⟩:=r;rw [e];rfl
 | loc n=>obtain ⟨a,e,_⟩:=r;rw [e];rfl
theorem yKb:ycS K yRU yLG:=by
 intro W x y v u Q z h' w rx ry e q
 unfold yLG at e
 split at e
 .cases e
  exact ⟨ry,by rw [yDa rx];exact q _ W rfl (.refl w) rfl⟩
 .cases e
theorem yMO:ycS K yPc yGh:=by
 intro W x y v u Q z h' w rx ry e q
 unfold yGh at e
 split at e
 .cases e
  exact ⟨ry,by rw [yDa rx];exact q _ W rfl (.refl w) rfl⟩
 .cases e
noncomputable def yie:P2:=fun x y h=>match x,y with|.str i,.str j=>if i.length+j.length<=100000 then some (.str (i++j),h) else none|_,_=>none
theorem ywp:ycS K yPb yie:=by
 intro W x y v u Q z h' w rx ry e q
 unfold yie at e
 split at e
 .rename_i i j
  split at e
  .rename_i c
   cases e
   exact ⟨i,j,rx,ry,yJX c,q _ W rfl (.refl w) rfl⟩
  .cases e
 .cases e
noncomputable def yMP:P2:=fun x y h=>match x,y with|.str s,.str j=>(match s.cps.toList with|[c]=>some (.bl (decide (c∈j.cps.toList)),h)|_=>none)|_,_=>none
theorem one_sign {s:Str}{c:Nat}(h:s.cps.toList=[c]):s=⟨#[c]⟩:=by
 obtain ⟨⟨l⟩⟩:=s
 have:l=[c]:=h
 rw [this]
theorem yMQ:ycS K yRx yMP:=by
 intro W x y v u Q z h' w rx ry e q
 unfold yMP at e
 split at e
 .rename_i s j
  split at e
  .rename_i c hc
   cases e
   exact ⟨c,j,by rw [<- one_sign hc];exact rx,ry,q _ W rfl (.refl w) rfl⟩
  .cases e
 .cases e
def ybC:P2:=fun x y h=>match y with
 | .int i=>(match x with
  | .lst xs=>(match atI xs i with|some v=>some (v,h)|none=>none)
  | .scr ns=>(match atI ns i with|some v=>some (.int v,h)|none=>none)
  | .loc n=>(match h[n]? with|some (.lst xs)=>(match atI xs i with|some v=>some (v,h)|none=>none)|_=>none)
  | _=>none)
 | _=>none
def ybl:P2:=fun x y h=>match x,y with|.tup xs,.int i=>(match atI xs i with|some v=>some (v,h)|none=>none)|_,_=>none
def yMR:P2:=fun x y h=>match x,y with|.str s,.int i=>(match atI s.cps.toList i with|some c=>if s.length<=100000 then some (sgn c,h) else none|none=>none)|_,_=>none
theorem RepL.at {F:Hp}{m:List Addr}{xs:List PV}{vs:List V}(r:RepL K F m xs vs) {i:Int}{x:PV}(e:atI xs i=some x):∃ v,atI vs i=some v/\Rep K F m x v:=by
 unfold atI at e ⊢
 rw [r.len]
 obtain ⟨j,e1,e2⟩:=Option.bind_eq_some_iff.mp e
 rw [e1]
 exact r.get e2
theorem WOk.loc {W:Wd}(w:WOk K W) {n:Nat}{d:Nd}{v:V}(e:W.h[n]?=Option.some d) (r:yeh K W (.loc n) v):∃ a,v=.ref a/\W.m[n]?=Option.some a/\NdAt K W.F W.H W.m d a:=by
 obtain ⟨a,ea,h⟩:=r
 exact ⟨a,ea,h,w.at_ n d a e h⟩
theorem ydp:ycS K (yRp K.K) ybC:=by
 intro W x y v u Q z h' w rx ry e q
 unfold ybC at e
 split at e
 .rename_i i
  split at e
  .rename_i xs
   split at e
   .rename_i y hy
    cases e
    obtain ⟨a,vs,ev,hs,rs⟩:=rx
    obtain ⟨v',h1,h2⟩:=rs.at hy
    exact ⟨a,vs,i,v',ev,ry,SqL.of (w.le _ _ hs),h1,q _ W rfl (.refl w) h2⟩
   .cases e
  .rename_i ns
   split at e
   .rename_i y hy
    cases e
    obtain ⟨a,ev,hs⟩:=rx
    refine ⟨a,_,i,.int y,ev,ry,ylT w hs,?_,q _ W rfl (.refl w) rfl⟩
    unfold atI at hy ⊢
    rw [length_map]
    obtain ⟨j,e1,e2⟩:=Option.bind_eq_some_iff.mp hy
    rw [e1]
    show (ns.map V.int)[j]?=_
    rw [getElem?_map,e2];rfl
   .cases e
  .rename_i n
   split at e
   .rename_i xs hn
    split at e
    .rename_i y hy
     cases e
     obtain ⟨a,ev,hm,hf,vs,hp,rs⟩:=w.loc hn rx
     obtain ⟨v',h1,h2⟩:=rs.at hy
     exact ⟨a,vs,i,v',ev,ry,SqL.of hp,h1,q _ W rfl (.refl w) h2⟩
    .cases e
   .cases e
  .cases e
 .cases e
theorem yY:ycS K (yRq K.K) ybl:=by
 intro W x y v u Q z h' w rx ry e q
 unfold ybl at e
 split at e
 .rename_i xs i
  split at e
  .rename_i y hy
   cases e
   obtain ⟨a,vs,ev,hs,rs⟩:=rx
   obtain ⟨v',h1,h2⟩:=rs.at hy
   exact ⟨a,vs,i,v',ev,ry,yfx w hs,h1,q _ W rfl (.refl w) h2⟩
  .cases e
 .cases e
theorem yPj:ycS K yRr yMR:=by
 intro W x y v u Q z h' w rx ry e q
 unfold yMR at e
 split at e
 .rename_i s i
  split at e
  .rename_i c hc
   split at e
   .rename_i hl
    cases e
    exact ⟨s,i,c,rx,ry,yJX hl,hc,q _ W rfl (.refl w) rfl⟩
   .cases e
  .cases e
 .cases e
noncomputable def yGi {α:Type}(xs:List α) (lo hi:Option Int):List α:=(xs.drop (HT.sIx xs.length 0 lo)).take (HT.sIx xs.length xs.length hi-HT.sIx xs.length 0 lo)
noncomputable def listOf (x:PV) (h:AH):Option (List PV):=match x with|.lst xs=>some xs|.scr ns=>some (ns.map .int)|.loc n=>(match h[n]? with|some (.lst xs)=>some xs|_=>none)|_=>none
theorem yow {W:Wd}(w:WOk K W) {x:PV}{v:V}{xs:List PV}(e:listOf x W.h=some xs) (r:yeh K W x v):∃ a vs,v=.ref a/\SqL K.K W.H a vs/\yei K W xs vs:=by
 unfold listOf at e
 split at e
 .cases e
  obtain ⟨a,vs,ev,hs,rs⟩:=r
  exact ⟨a,vs,ev,SqL.of (w.le _ _ hs),rs⟩
 .rename_i ns
  cases e
  obtain ⟨a,ev,hs⟩:=r
  exact ⟨a,_,ev,ylT w hs,RepL.of_ints ns⟩
 .rename_i n
  split at e
  .rename_i ys hn
   cases e
   obtain ⟨a,ev,hm,hf,vs,hp,rs⟩:=w.loc hn r
   exact ⟨a,vs,ev,SqL.of hp,rs⟩
  .cases e
 .cases e
noncomputable def ycT (x:PV) (h:AH):Option (List PV):=match x with|.lst xs=>some xs|.loc n=>(match h[n]? with|some (.lst xs)=>some xs|_=>none)|_=>none
theorem ybn {W:Wd}(w:WOk K W) {x:PV}{v:V}{xs:List PV}(e:ycT x W.h=some xs) (r:yeh K W x v):∃ a vs,v=.ref a/\W.H a=some (.lst vs)/\yei K W xs vs:=by
 unfold ycT at e
 split at e
 .cases e
  obtain ⟨a,vs,ev,hs,rs⟩:=r
  exact ⟨a,vs,ev,w.le _ _ hs,rs⟩
 .rename_i n
  split at e
  .rename_i ys hn
   cases e
   obtain ⟨a,ev,hm,hf,vs,hp,rs⟩:=w.loc hn r
   exact ⟨a,vs,ev,hp,rs⟩
  .cases e
 .cases e
theorem yMS {W:Wd}(w:WOk K W) {p:Addr}(hp:W.H p=none) {xs:List PV}{vs:List V}(r:yei K W xs vs) {Q:VK}(q:yBc K W (.lst xs) W.h Q):Q (.ref p) (upd W.H p (.lst vs)) :=
 q p (yph W p (.lst vs)) rfl (yeJ w hp) (w.out hp) hp (fun z=>by cases z) ⟨w.ff hp,vs,yF,r⟩
def yIu:PV->Option Int->Option Int->AH->Option (Nd×AH):=fun x lo hi h=>match listOf x h with|some xs=>some (.lst (yGi xs lo hi),h)|none=>none
theorem yMT:yCP K (yRs K.K) yIu:=by
 intro W x v lo hi Q d h' w rx e q
 unfold yIu at e
 split at e
 .rename_i xs hx
  cases e
  obtain ⟨a,vs,ev,hs,rs⟩:=yow w hx rx
  refine ⟨a,vs,ev,hs,fun p hp=>yMS w hp ?_ q⟩
  have:=(rs.drop (HT.sIx xs.length 0 lo)).take (HT.sIx xs.length xs.length hi-HT.sIx xs.length 0 lo)
  unfold yGi yMr
  rw [rs.len]
  exact this
 .cases e
def yzT:P2O:=fun x y h=>match ycT x h,ycT y h with|some xs,some ys=>if xs.length+ys.length<=100000 then some (.lst (xs++ys),h) else none|_,_=>none
theorem ysY:yzO K yRu yzT:=by
 intro W x y v u Q d h' w rx ry e q
 unfold yzT at e
 split at e
 .rename_i xs ys hx hy
  split at e
  .rename_i hl
   cases e
   obtain ⟨a,vs,ev,hs,rs⟩:=ybn w hx rx
   obtain ⟨b,us,eu,ht,ru⟩:=ybn w hy ry
   refine ⟨a,b,vs,us,ev,eu,hs,ht,by rw [rs.len,ru.len];exact yJX hl,fun p hp=>yMS w hp (rs.app ru) q⟩
  .cases e
 .cases e
def repL {α:Type}(k:Nat) (xs:List α):List α:=(replicate k xs).flatten
theorem RepL.rep {F:Hp}{m:List Addr}{xs:List PV}{vs:List V}(r:RepL K F m xs vs):∀ k:Nat,RepL K F m (repL k xs) (repL k vs)
 | 0=>rfl
 | k+1=>by
  show RepL K F m ((replicate (k+1) xs).flatten) ((replicate (k+1) vs).flatten)
  rw [List.replicate_succ,List.replicate_succ,List.flatten_cons,List.flatten_cons]
  exact r.app (RepL.rep r k)
def yGj:P2O:=fun x y h=>match ycT x h,y with|some xs,.int k=>if -1000000<=k/\k<=100000/\xs.length*k.toNat<=100000 then some (.lst (repL k.toNat xs),h) else none|_,_=>none
theorem yGk:yzO K yRv yGj:=by
 intro W x y v u Q d h' w rx ry e q
 unfold yGj at e
 split at e
 .rename_i xs k hx
  split at e
  .rename_i hl
   cases e
   obtain ⟨a,vs,ev,hs,rs⟩:=ybn w hx rx
   refine ⟨a,k,vs,ev,ry,hs,by omega,by omega,by rw [rs.len];exact yJX hl.2.2,fun p hp=>yMS w hp (rs.rep _) q⟩
  .cases e
 .cases e
noncomputable def yDb (x:PV) (h:AH):Option Nat:=match x with|.tup xs=>some xs.length|.lst xs=>some xs.length|.scr ns=>some ns.length|.loc n=>(match h[n]? with|some (.lst xs)=>some xs.length|_=>none)|_=>none
def yej:List PV->AH->Option (PV×AH):=fun xs h=>match xs with|[x]=>(match yDb x h with|some n=>some (.int n,h)|none=>none)|_=>none
noncomputable def yyB:List PV->AH->Option (PV×AH):=fun xs h=>match xs with|[.str z]=>if z.length<=100000 then some (.int z.length,h) else none|_=>none
theorem yzU {W:Wd}{x:PV}{vs:List V}(r:yei K W [x] vs):∃ v,vs=[v]/\yeh K W x v:=by
 obtain ⟨v,r',e,h,l⟩:=r
 exact ⟨v,by rw [e,show r'=[] from l],h⟩
theorem yRW {W:Wd}{x y:PV}{vs:List V}(r:yei K W [x,y] vs):∃ v u,vs=[v,u]/\yeh K W x v/\yeh K W y u:=by
 obtain ⟨v,r',e,h,l⟩:=r
 obtain ⟨u,e2,h2⟩:=yzU l
 exact ⟨v,u,by rw [e,e2],h,h2⟩
theorem yfF:yqG K (yMv K.K) yej:=by
 intro W xs vs Q z h' w r e q
 unfold yej at e
 split at e
 .rename_i x
  split at e
  .rename_i n hn
   cases e
   obtain ⟨v,rfl,rx⟩:=yzU r
   have fin:∀ (ys:List V),ys.length=n->Q (.int ys.length) W.H:=fun ys hl=>by rw [hl];exact q _ W rfl (.refl w) rfl
   unfold yDb at hn
   split at hn
   .cases hn
    obtain ⟨a,us,rfl,hs,rs⟩:=rx
    exact ⟨a,us,rfl,.inr (yfx w hs),fin _ rs.len⟩
   .rename_i ys
    cases hn
    obtain ⟨a,us,rfl,hs,rs⟩:=rx
    exact ⟨a,us,rfl,.inl (SqL.of (w.le _ _ hs)),fin _ rs.len⟩
   .rename_i ns
    cases hn
    obtain ⟨a,rfl,hs⟩:=rx
    exact ⟨a,_,rfl,.inl (ylT w hs),fin _ (by simp)⟩
   .split at hn
    .rename_i ys hy
     cases hn
     obtain ⟨a,rfl,hm,hf,us,hp,rs⟩:=w.loc hy rx
     exact ⟨a,us,rfl,.inl (SqL.of hp),fin _ rs.len⟩
    .cases hn
   .cases hn
  .cases e
 .cases e
theorem yzV:yqG K yPd yyB:=by
 intro W xs vs Q z h' w r e q
 unfold yyB at e
 split at e
 .rename_i s
  split at e
  .rename_i hl
   cases e
   obtain ⟨v,rfl,rx⟩:=yzU r
   exact ⟨s,by rw [show v=_ from rx],yJX hl,q _ W rfl (.refl w) rfl⟩
  .cases e
 .cases e
noncomputable def ywq:List PV->AH->Option (PV×AH):=fun xs h=>match xs with|[.int i]=>if i.natAbs.log2<1920 then some (.str (toString i:String),h) else none|_=>none
theorem yIv:yqG K yPe ywq:=by
 intro W xs vs Q z h' w r e q
 unfold ywq at e
 split at e
 .rename_i i
  split at e
  .rename_i hl
   cases e
   obtain ⟨v,rfl,rx⟩:=yzU r
   exact ⟨i,by rw [show v=_ from rx],hl,q _ W rfl (.refl w) rfl⟩
  .cases e
 .cases e
noncomputable def yDc:List PV->AH->Option (PV×AH):=fun xs h=>match xs with|[.str z]=>if z.cps.toList≠[]/\(∀ c∈z.cps.toList,48<=c/\c<=57)/\z.length<=640 then some (.int (yJx z.cps.toList),h) else none|_=>none
theorem yMU:yqG K yMw yDc:=by
 intro W xs vs Q z h' w r e q
 unfold yDc at e
 split at e
 .rename_i i
  split at e
  .rename_i hl
   cases e
   obtain ⟨v,rfl,rx⟩:=yzU r
   exact ⟨i,by rw [show v=_ from rx],hl.1,hl.2.1,hl.2.2,q _ W rfl (.refl w) rfl⟩
  .cases e
 .cases e
def yT:List PV->AH->Option (Nd×AH):=fun xs h=>match xs with|[.tup ys]=>some (.lst ys,h)|[x]=>(match listOf x h with|some ys=>some (.lst ys,h)|none=>none)|_=>none
theorem ybo:yCK K (yJy K.K) yT:=by
 intro W xs vs Q d h' w r e q
 unfold yT at e
 split at e
 .rename_i ys
  cases e
  obtain ⟨v,rfl,a,us,rfl,hs,rs⟩:=yzU r
  exact ⟨a,us,rfl,.inr (yfx w hs),fun p hp=>yMS w hp rs q⟩
 .rename_i x _
  split at e
  .rename_i ys hy
   cases e
   obtain ⟨v,rfl,rx⟩:=yzU r
   obtain ⟨a,us,rfl,hs,rs⟩:=yow w hy rx
   exact ⟨a,us,rfl,.inl hs,fun p hp=>yMS w hp rs q⟩
  .cases e
 .cases e
def intsOf:List PV->Option (List Int)
 | []=>some []
 | .int s::r=>(intsOf r).map (s::·)
 | _=>none
def ywr:List PV->Option (List Bool)
 | []=>some []
 | .bl s::r=>(ywr r).map (s::·)
 | _=>none
theorem ytA:∀ ss:List Int,intsOf (ss.map .int)=some ss
 | []=>rfl
 | s::ss=>by show (intsOf (ss.map .int)).map _=_;rw [ytA ss];rfl
theorem yws:∀ ss:List Bool,ywr (ss.map .bl)=some ss
 | []=>rfl
 | s::ss=>by show (ywr (ss.map .bl)).map _=_;rw [yws ss];rfl
theorem ytB {F:Hp}{m:List Addr}:∀ {xs:List PV}{ss:List Int}{vs:List V},intsOf xs=some ss->RepL K F m xs vs->vs=ss.map V.int
 | [],_,_,e,r=>by cases e;exact r
 | x::xs,ss,_,e,⟨v,r',ev,h,l⟩=>by
  cases x<;>try cases e
  rename_i s
  obtain ⟨ts,e1,e2⟩:=Option.map_eq_some_iff.mp e
  subst e2
  rw [ev,show v=_ from h,ytB e1 l];rfl
theorem yqI {F:Hp}{m:List Addr}:∀ {xs:List PV}{ss:List Bool}{vs:List V},ywr xs=some ss->RepL K F m xs vs->vs=ss.map V.bl
 | [],_,_,e,r=>by cases e;exact r
 | x::xs,ss,_,e,⟨v,r',ev,h,l⟩=>by
  cases x<;>try cases e
  rename_i s
  obtain ⟨ts,e1,e2⟩:=Option.map_eq_some_iff.mp e
  subst e2
  rw [ev,show v=_ from h,yqI e1 l];rfl
def yMV:List PV->AH->Option (PV×AH):=fun xs h=>match xs with|[x]=>(match ycT x h with|some ys=>(match intsOf ys with|some ns=>some (.int ns.sum,h)|none=>none)|none=>none)|_=>none
theorem yPk:yqG K yRz yMV:=by
 intro W xs vs Q z h' w r e q
 unfold yMV at e
 split at e
 .split at e
  .rename_i ys hy
   split at e
   .rename_i ns hn
    cases e
    obtain ⟨v,rfl,rx⟩:=yzU r
    obtain ⟨a,us,rfl,hs,rs⟩:=ybn w hy rx
    have:=ytB hn rs
    subst this
    exact ⟨a,ns,rfl,hs,q _ W rfl (.refl w) rfl⟩
   .cases e
  .cases e
 .cases e
def yIw:List PV->AH->Option (PV×AH):=fun xs h=>match xs with|[x]=>(match ycT x h with|some ys=>(match ywr ys with|some ns=>some (.bl (ns.all id),h)|none=>none)|none=>none)|_=>none
theorem yMW:yqG K yRy yIw:=by
 intro W xs vs Q z h' w r e q
 unfold yIw at e
 split at e
 .split at e
  .rename_i ys hy
   split at e
   .rename_i ns hn
    cases e
    obtain ⟨v,rfl,rx⟩:=yzU r
    obtain ⟨a,us,rfl,hs,rs⟩:=ybn w hy rx
    have:=yqI hn rs
    subst this
    exact ⟨a,ns,rfl,hs,q _ W rfl (.refl w) rfl⟩
   .cases e
  .cases e
 .cases e
def isStr:PV->AH->Bool:=fun x _=>match x with|.str _=>true|_=>false
noncomputable def yyC:PM:=fun x xs h=>match x,xs with|.str z,[.str s]=>(match s.cps.toList with|[c]=>if z.length<=1000/\c∈z.cps.toList then some (.int (z.cps.toList.idxOf c),h) else none|_=>none)|_,_=>none
theorem yGl:yux K "str" isStr yCG yyC:=by
 refine ⟨fun W x v w r c=>?_,fun W x v xs vs Q z h' w rx r e q=>?_⟩
 .unfold isStr at c
  split at c
  .rw [show v=_ from r];rfl
  .cases c
 .unfold yyC at e
  split at e
  .rename_i z s
   split at e
   .rename_i c hc
    split at e
    .rename_i hl
     cases e
     obtain ⟨u,rfl,ru⟩:=yzU r
     exact ⟨z,c,rx,by rw [show u=_ from ru,one_sign hc],hl.1,hl.2,q _ W rfl (.refl w) rfl⟩
    .cases e
   .cases e
  .cases e
end PX
namespace PX
open PySem L2
variable {K:Ck}
noncomputable def putN (f:Str) (x:PV) (ns:List Str) (xs:List PV):List Str×List PV:=if f∈ns then (ns,xs.set (ns.idxOf f) x) else (ns++[f],xs++[x])
theorem yzW (f:Str) (y:V):∀ (ns:List Str) (vs:List V),vs.length=ns.length->ytx f y (ns.zip vs)=if f∈ns then ns.zip (vs.set (ns.idxOf f) y) else (ns++[f]).zip (vs++[y])
 | [],[],_=>by simp [ytx]
 | n::ns,v::vs,hl=>by
  have ih:=yzW f y ns vs (by simpa using hl)
  show (if n=f then (n,y)::ns.zip vs else (n,v)::ytx f y (ns.zip vs))=_
  by_cases h:n=f
  .subst h
   simp [List.idxOf_cons_self]
  .have h':¬ f=n:=fun z=>h z.symm
   have hb:(n == f)=false:=by simpa using h
   rw [if_neg h,ih]
   by_cases hm:f∈ns
   .simp [hm,h',List.idxOf_cons,hb]
   .simp [hm,h']
theorem ytC {f:Str}:∀ {ns:List Str}{vs:List V},vs.length=ns.length->f∈ns->(ns.zip vs).lookup f=vs[ns.idxOf f]?
 | [],_,_,h=>by simp at h
 | n::ns,v::vs,hl,h=>by
  show List.lookup f ((n,v)::ns.zip vs)=_
  by_cases hn:f=n
  .subst hn
   rw [yPg,List.idxOf_cons_self];rfl
  .rw [yMx hn,ytC (by simpa using hl) (by simpa [hn] using h)]
   have hb:(n == f)=false:=by simpa using fun z:n=f=>hn z.symm
   simp [List.idxOf_cons,hb]
theorem ygf {f:Str}:∀ {ns:List Str}{vs:List V},f∉ns->(ns.zip vs).lookup f=none
 | [],_,_=>by simp
 | n::ns,[],_=>by simp
 | n::ns,v::vs,h=>by
  show List.lookup f ((n,v)::ns.zip vs)=_
  rw [yMx (fun z:f=n=>h (by rw [z];exact mem_cons_self)),ygf fun z=>h (mem_cons_of_mem _ z)]
noncomputable def yjv (x:PV) (h:AH):Option (Nat×List Str×List PV):=match x with|.ins k ns xs=>some (k,ns,xs)|.loc n=>(match h[n]? with|some (.ins k ns xs)=>some (k,ns,xs)|_=>none)|_=>none
theorem ynp {W:Wd}(w:WOk K W) {x:PV}{v:V}{k:Nat}{ns:List Str}{xs:List PV}(e:yjv x W.h=some (k,ns,xs)) (r:yeh K W x v):∃ a dx vs,v=.ref a/\W.H a=some (.ins (K.A k) dx (ns.zip vs))/\vs.length=ns.length/\yei K W xs vs:=by
 unfold yjv at e
 split at e
 .cases e
  obtain ⟨a,dx,vs,ev,hs,hl,rs⟩:=r
  exact ⟨a,dx,vs,ev,w.le _ _ hs,hl,rs⟩
 .rename_i n
  split at e
  .rename_i hn
   cases e
   obtain ⟨a,ev,hm,hf,dx,vs,hp,hl,rs⟩:=w.loc hn r
   exact ⟨a,dx,vs,ev,hp,hl,rs⟩
  .cases e
 .cases e
def ybk (cs:List Nat) (f:Str) (e:XE):XE:=fun ρ h=>ob (e ρ h) fun x h1=>match yjv x h1 with|some (k,ns,xs)=>if k∈cs/\f∈ns then (match xs[ns.idxOf f]? with|some y=>some (y,h1)|none=>none) else none|none=>none
theorem yKc {cs:List Nat}{f:Str}{ta:TE}{ea:XE}(hc:∀ k∈cs,Cls K.K (K.A k)/\NoAttr K.K (K.A k) f) (a:ycD K ta ea):ycD K (yRm K.K ta f) (ybk cs f ea):=by
 intro W0 W ρ σ Q z h' g e q
 obtain ⟨x,h1,e1,f1⟩:=yl e
 refine a W0 W ρ σ _ x h1 g e1 fun v W1 w1 l1 r1=>?_
 subst w1
 split at f1
 .rename_i k ns xs hi
  split at f1
  .rename_i c
   split at f1
   .rename_i y hy
    cases f1
    obtain ⟨a,dx,vs,ev,hp,hl,rs⟩:=ynp l1.ok hi r1
    obtain ⟨u,h2,h3⟩:=rs.get hy
    exact ⟨a,_,dx,_,u,ev,hp,(hc k c.1).1,(hc k c.1).2,by rw [ytC hl c.2];exact h2,q _ W1 rfl l1 h3⟩
   .cases f1
  .cases f1
 .cases f1
def ydq (cs:List Nat) (i:Nat) (f:Str) (e:XE):XS:=fun ρ h=>ob (e ρ h) fun x h1=>match ρ[i]? with
 | some (.own (.ins k ns xs))=>if k∈cs/\ns.length<1000 then some (.nx (ρ.set i (.own (.ins k (putN f x ns xs).1 (putN f x ns xs).2))),h1) else none
 | _=>none
theorem RepL.putN {F:Hp}{m:List Addr}{f:Str}{x:PV}{v:V}{ns:List Str}{xs:List PV}{vs:List V}(r:RepL K F m xs vs) (hl:vs.length=ns.length) (rx:Rep K F m x v) :
  ∃ us,ytx f v (ns.zip vs)=(PX.putN f x ns xs).1.zip us/\us.length=(PX.putN f x ns xs).1.length/\RepL K F m (PX.putN f x ns xs).2 us:=by
 rw [yzW f v ns vs hl]
 unfold PX.putN
 by_cases h:f∈ns
 .rw [if_pos h,if_pos h]
  exact ⟨_,rfl,by rw [length_set];exact hl,r.set _ rx⟩
 .rw [if_neg h,if_neg h]
  exact ⟨_,rfl,by rw [length_append,length_append,hl];rfl,r.snoc rx⟩
noncomputable def yFh (K:Ck) (t:TS) (s:XS):Prop:=∀ (W0 W:Wd) (ρ ρ':PSt) (σ:St) (D:Ends) (h':AH),Good K W0 W ρ σ->s ρ W.h=some (.nx ρ',h')->(∀ W',W'.h=h'->Lf K W W'->Good K W0 W' ρ' σ->D.nx σ W'.H)->t D σ W.H
theorem yGm {cs:List Nat}{i:Nat}{f:Str}{ta:TE}{ea:XE}(hc:∀ k∈cs,Cls K.K (K.A k)/\NoAttr K.K (K.A k) f) (a:ycD K ta ea):yFh K (yOP K.K (yBW i) ta f) (ydq cs i f ea):=by
 intro W0 W ρ ρ' σ D h' g e q
 obtain ⟨x,h1,e1,f1⟩:=yl e
 split at f1
 .rename_i k ns xs hi
  split at f1
  .rename_i c
   cases f1
   refine a W0 W ρ σ _ x _ g e1 fun v W1 w1 l1 r1=>?_
   have g1:=g.step l1
   obtain ⟨p,b1,b2,b3,b4,b5,dx,vs,b6,b7,b8⟩:=g1.own i _ hi
   obtain ⟨us,p1,p2,p3⟩:=b8.putN (f:=f) b7 r1
   refine ⟨_,b1,p,_,dx,_,rfl,b6,(hc k c.1).1,(hc k c.1).2,by rw [length_zip,b7];simpa using c.2,?_⟩
   rw [p1]
   exact q (yGb W1 p _) w1 (yCU l1 b2) (g1.mut hi b1 b2 b3 b5 (fun z=>by cases z) ⟨b5,dx,us,yF,p2,p3⟩)
  .cases f1
 .cases f1
theorem yGn {t u:TS}{s s':XS}(a:yFh K t s) (b:yFh K u s'):yFh K (yOH t u) (yn s s'):=by
 intro W0 W ρ ρ' σ D h' g e q
 obtain ⟨o1,h1,e1,f1⟩:=yl e
 cases o1 with
 | nx ρ1=>exact a W0 W ρ ρ1 σ _ h1 g e1 fun W1 w1 l1 g1=>b W0 W1 ρ1 ρ' σ D h' g1 (by rw [w1];exact f1) fun W2 w2 l2 g2=>q W2 w2 (l1.trans l2) g2
 | rt y=>cases f1
 | bk y=>cases f1
 | ct y=>cases f1
def yxS (N:Nat) (k:Nat) (s:XS):List PV->AH->Option (Nd×AH):=fun xs h=>ob (s (.own (.ins k [] [])::(xs.map .val++replicate (N-(xs.length+1)) .no)) h) fun o h1=>match o with|.nx ρ=>(match ρ[0]? with|some (PVar.own d)=>some (d,h1)|_=>none)|_=>none
def spI (K:Ck) (n k:Nat) (f:List PV->AH->Option (Nd×AH)):Sp:=fun vs H Q _=>∃ (W:Wd) (x dx:Addr) (args:List V) (xs:List PV) (d:Nd) (h':AH),vs=.ref x::args/\W.H x=none/\W.H dx=none/\dx≠x/\H=upd (upd W.H dx (.own x)) x (.ins (K.A k) dx []) /\
 WOk K W/\yei K W xs args/\xs.length=n/\f xs W.h=some (d,h')/\∀ W',W'.h=h'->Le K W W'->x∉W'.m->d≠.dead->NdAt K W'.F W'.H W'.m d x->Q .non W'.H
theorem yKd {n k:Nat}{f} {vs:List V}{H:Hp}{Q:VK}{E:XK}(h:spI K n k f vs H Q E):vs.length=n+1:=by
 obtain ⟨W,x,dx,args,xs,d,h',rfl,_,_,_,_,w,r,hn,_⟩:=h
 rw [length_cons,r.len,hn]
theorem yGo {N:List Str}{n k:Nat}{t:TS}{s:XS}{vs:List V}{H:Hp}{Q:VK}{E:XK}{bk ct:St->Hp->Prop}(hN:n+1<=N.length) (a:yFh K t s) (h:spI K n k (yxS N.length k s) vs H Q E):t ⟨fun _ H'=>Q .non H',Q,bk,ct⟩ (L2.start N vs) H:=by
 obtain ⟨W,x,dx,args,xs,d,h',rfl,hx,hd,hne,rfl,w,r,hn,e,q⟩:=h
 obtain ⟨o,h1,e1,f1⟩:=yl e
 have l1:Le K W (yph W dx (.own x)):=yeJ w hd
 have hx1:(yph W dx (.own x)).H x=none:=(yL hne.symm).trans hx
 have l2:Le K (yph W dx (.own x)) (yph (yph W dx (.own x)) x (.ins (K.A k) dx [])):=yeJ l1.ok hx1
 have l:=l1.trans l2
 have gs:=yov (K:=K) (N:=N.drop 1) w r
 have g:Good K W (yph (yph W dx (.own x)) x (.ins (K.A k) dx [])) (.own (.ins k [] [])::(xs.map .val++replicate (N.length-(xs.length+1)) .no)) (L2.start N (.ref x::args)):=by
  have es:L2.start N (.ref x::args)=some (.ref x)::L2.start (N.drop 1) args:=by
   have e3:N.length-(args.length+1)=(N.drop 1).length-args.length:=by rw [length_drop];omega
   unfold L2.start
   rw [map_cons,List.cons_append,length_cons,e3]
  have eN:N.length-(xs.length+1)=(N.drop 1).length-xs.length:=by rw [length_drop];omega
  rw [es,eN]
  have gs':=gs.step l
  have noown:∀ (j:Nat) (d:Nd),(xs.map PVar.val++replicate ((N.drop 1).length-xs.length) .no)[j]?≠some (.own d):=fun j d z=>by
   by_cases hj:j<xs.length
   .rw [getElem?_append_left (by simpa using hj),getElem?_map,List.getElem?_eq_getElem hj] at z
    cases z
   .rw [getElem?_append_right (by simp;omega),getElem?_replicate] at z
    split at z<;>cases z
  refine ⟨l,by rw [length_cons,length_cons,gs.len],fun j y z=>?_,fun j d z=>?_,fun i j d d' hij z z'=>?_⟩
  .cases j with
   | zero=>cases z
   | succ j=>exact gs'.val j y z
  .cases j with
   | zero=>cases z;exact ⟨x,rfl,w.out hx,hx,(fun z=>by cases z),w.ff hx,dx,[],yF,rfl,rfl⟩
   | succ j=>exact absurd z (noown j d)
  .cases i with
   | zero =>
    cases j with
    | zero=>exact absurd rfl hij
    | succ j=>exact absurd z' (noown j d')
   | succ i=>exact absurd z (noown i d)
 cases o with
 | rt y=>cases f1
 | bk ρ=>cases f1
 | ct ρ=>cases f1
 | nx ρ =>
  refine a W _ _ ρ _ _ h1 g e1 fun W' ew lf g'=>?_
  dsimp only at f1
  split at f1
  .rename_i d' hd'
   cases f1
   obtain ⟨p,b1,b2,b3,b4,b5⟩:=g'.own 0 _ hd'
   have b1:some (some (V.ref x))=some (some (V.ref p)):=b1
   cases b1
   exact q W' ew g'.le b2 b4 b5
  .cases f1
def ylU (f:List PV->AH->Option (Nd×AH)) (a:XA):XO:=fun ρ h=>ob (a ρ h) f
theorem yzX {n k:Nat}{f} {ex:XK}{t:TA}{e:XA}(a:yxR K t e) (hn:∀ ρ h xs h',e ρ h=some (xs,h')->xs.length=n):yyv K (yFB (K.A k) (spI K n k f) [] ex t) (ylU f e):=by
 intro W0 W ρ σ Q d h' g e' q
 obtain ⟨xs,h1,e1,e2⟩:=yl e'
 refine a W0 W ρ σ _ xs h1 g e1 fun vs W1 w1 l1 r1=>?_
 subst w1
 intro x dx hx hd hne
 rw [append_nil]
 exact ⟨W1,x,dx,vs,xs,d,h',rfl,hx,hd,hne,rfl,l1.ok,r1,hn _ _ _ _ e1,e2,fun W2 w2 l2 hm hdd at_=>⟨rfl,q x W2 w2 (l1.trans l2) hm (l1.fresh hx) hdd at_⟩⟩
def yzY (k:Nat):XO:=fun _ h=>some (.ins k [] [],h)
theorem yDd {k:Nat}:yyv K (yIk (K.A k)) (yzY k):=by
 intro W0 W ρ σ Q d h' g e q
 cases e
 intro x dx hx hd hne
 have w:=g.ok
 have l1:Le K W (yph W dx (.own x)):=yeJ w hd
 have hx1:(yph W dx (.own x)).H x=none:=(yL hne.symm).trans hx
 have l2:Le K (yph W dx (.own x)) (yph (yph W dx (.own x)) x (.ins (K.A k) dx [])):=yeJ l1.ok hx1
 exact q x (yph (yph W dx (.own x)) x (.ins (K.A k) dx [])) rfl (l1.trans l2) (w.out hx) hx (fun z=>by cases z) ⟨w.ff hx,dx,[],yF,rfl,rfl⟩
def ysZ (m:Str) (f:Nat->Fn) (e:XE):XE:=fun ρ h=>ob (e ρ h) fun x h1=>match yjv x h1 with|some (k,ns,_)=>if m∈ns then none else f k [x] h1|none=>none
theorem yGp {m:Str}{f:Nat->Fn}{ta:TE}{ea:XE}(a:ycD K ta ea):ycD K (yIl K.A m (fun k=>spE K 1 (f k)) ta) (ysZ m f ea):=by
 intro W0 W ρ σ Q z h' g e q
 obtain ⟨x,h1,e1,f1⟩:=yl e
 refine a W0 W ρ σ _ x h1 g e1 fun v W1 w1 l1 r1=>?_
 subst w1
 split at f1
 .rename_i k ns xs hi
  split at f1
  .cases f1
  .rename_i hm
   obtain ⟨b,dx,vs,ev,hp,hl,rs⟩:=ynp l1.ok hi r1
   exact ⟨b,k,dx,_,ev,hp,ygf hm,W1,[x],z,h',rfl,l1.ok,⟨v,[],rfl,r1,rfl⟩,rfl,f1,fun u W2 w2 l2 r2=>q u W2 w2 (l1.trans l2) r2⟩
 .cases f1
def yMX (tb:List (Nat×Nat×Bool)) (x c:PV) (h:AH):Option Bool:=match c with
 | .ty n=>(match x with
  | .int _=>if n = "int" then some true else if n = "bool"\/n = "str"\/n = "list"\/n = "tuple"\/n = "dict" then some false else none
  | .bl _=>if n = "int"\/n = "bool" then some true else if n = "str"\/n = "list"\/n = "tuple"\/n = "dict" then some false else none
  | .str _=>if n = "str" then some true else if n = "int"\/n = "bool"\/n = "list"\/n = "tuple"\/n = "dict" then some false else none
  | .non=>if n = "int"\/n = "bool"\/n = "str"\/n = "list"\/n = "tuple"\/n = "dict" then some false else none
  | .tup _=>if n = "tuple" then some true else if n = "int"\/n = "bool"\/n = "str"\/n = "list"\/n = "dict" then some false else none
  | _=>(match ycT x h with|some _=>if n = "list" then some true else if n = "int"\/n = "bool"\/n = "str"\/n = "tuple"\/n = "dict" then some false else none|none=>none))
 | .cls c'=>(match yjv x h with|some (k,_)=>(tb.find? fun r=>r.1 == k && r.2.1 == c').map (·.2.2)|none=>none)
 | _=>none
def yxT (tb:List (Nat×Nat×Bool)):List PV->AH->Option (PV×AH):=fun xs h=>match xs with|[x,c]=>(match yMX tb x c h with|some b=>some (.bl b,h)|none=>none)|_=>none
theorem ynq {tb:List (Nat×Nat×Bool)}(ht:∀ r∈tb,∀ (H:Hp) (a dx:Addr) (fs:List (Str×V)),H a=some (.ins (K.A r.1) dx fs)->IsI K.K H (.ref a) (.ref (K.A r.2.1)) r.2.2):yqG K (yRw K.K) (yxT tb):=by
 intro W xs vs Q z h' w r e q
 unfold yxT at e
 split at e
 .rename_i x c
  split at e
  .rename_i b hb
   cases e
   obtain ⟨v,u,rfl,rx,ru⟩:=yRW r
   refine ⟨v,u,b,rfl,?_,q _ W rfl (.refl w) rfl⟩
   unfold yMX at hb
   split at hb
   .rename_i n
    obtain rfl:u=.ty n:=ru
    split at hb
    .rw [show v=_ from rx]
     repeat' split at hb
     all_goals cases hb
     .rename_i hn;subst hn;exact yyg
     .rename_i hn;rcases hn with rfl|rfl|rfl|rfl|rfl
      .exact yvW
      .exact yym
      .exact ywa
      .exact yur
      .exact ywb
    .rw [show v=_ from rx]
     repeat' split at hb
     all_goals cases hb
     .rename_i hn;rcases hn with rfl|rfl
      .exact yBa
      .exact yyi
     .rename_i hn;rcases hn with rfl|rfl|rfl|rfl
      .exact yBb
      .exact yyn
      .exact ywc
      .exact yyo
    .rw [show v=_ from rx]
     repeat' split at hb
     all_goals cases hb
     .rename_i hn;subst hn;exact yyj
     .rename_i hn;rcases hn with rfl|rfl|rfl|rfl|rfl
      .exact yyp
      .exact ywd
      .exact ywe
      .exact yus
      .exact ywf
    .rw [show v=_ from rx]
     repeat' split at hb
     all_goals cases hb
     .rename_i hn;rcases hn with rfl|rfl|rfl|rfl|rfl|rfl
      .exact yyh
      .exact ywg
      .exact yyq
      .exact ywh
      .exact yut
      .exact ywi
    .obtain ⟨a,us,rfl,hs,_⟩:=rx
     have hp:(∃ xs,W.H a=some (.tup xs))\/∃ o,K.K.lookup a=some o/\o.cls=.type "tuple":=hs.elim (fun h=>.inl ⟨_,w.le _ _ h⟩) fun ⟨o,its,n,e1,e2,_⟩=>.inr ⟨o,e1,e2⟩
     repeat' split at hb
     all_goals cases hb
     .rename_i hn;subst hn;exact yuv hp
     .rename_i hn;rcases hn with rfl|rfl|rfl|rfl|rfl
      .exact yyt hp
      .exact ywl hp
      .exact yyu hp
      .exact ywm hp
      .exact ywn hp
    .split at hb
     .rename_i ys hy
      obtain ⟨a,us,rfl,hp,_⟩:=ybn w hy rx
      repeat' split at hb
      all_goals cases hb
      .rename_i hn;subst hn;exact yvX hp
      .rename_i hn;rcases hn with rfl|rfl|rfl|rfl|rfl
       .exact yyr hp
       .exact ywj hp
       .exact yys hp
       .exact yuu hp
       .exact ywk hp
     .cases hb
   .rename_i c'
    obtain rfl:u=.ref (K.A c'):=ru
    split at hb
    .rename_i k p hi
     obtain ⟨r',h1,h2⟩:=Option.map_eq_some_iff.mp hb
     have hm:=List.mem_of_find?_eq_some h1
     have hp:=List.find?_some h1
     simp only [and_eq_true,beq_iff_eq] at hp
     obtain ⟨a,dx,us,rfl,hs,_⟩:=ynp w hi rx
     obtain ⟨p1,p2⟩:=hp
     have:=ht r' hm W.H a dx (p.1.zip us) (by rw [p1];exact hs)
     rw [p2,h2] at this
     exact this
    .cases hb
   .cases hb
  .cases e
 .cases e
end PX
namespace PX
open PySem L2
section
variable {ρ:PSt}{h h1:AH}{x y z:PV}{a b c:XE}{ca cb:XT}{aa:XA}{eo:XO}{s u:XS}{i:Nat}{p:P2}
theorem ycU {α β:Type}{x:α}{h:AH}{f:α->AH->Option β}:ob (some (x,h)) f=f x h:=id rfl
theorem yPl {α β:Type}{f:α->AH->Option β}:ob (none:Option (α×AH)) f=none:=id rfl
theorem yPm {α β γ:Type}{o:Option (α×AH)}{f:α->AH->Option (β×AH)}{g:β->AH->Option γ}:ob (ob o f) g=ob o fun x h=>ob (f x h) g:=by cases o<;>rfl
theorem yPn {α β:Type}{q:Prop} [Decidable q] {o o':Option (α×AH)}{f:α->AH->Option β}:ob (if q then o else o') f=if q then ob o f else ob o' f:=by split<;>rfl
theorem yIx:yf 0 (.val x::ρ) h=some (x,h):=id rfl
theorem yMY {v:PVar}{n:Nat}:yf (n+1) (v::ρ) h=yf n ρ h:=by simp [yf]
theorem x_c:xC x ρ h=some (x,h):=id rfl
theorem yPo:xOp p a b ρ h=ob (a ρ h) fun x h1=>ob (b ρ h1) fun y h2=>p x y h2:=id rfl
theorem yPp {p:P2O}:ytz p a b ρ h=ob (a ρ h) fun x h1=>ob (b ρ h1) fun y h2=>p x y h2:=id rfl
theorem yRX {p}:xUn p a ρ h=ob (a ρ h) fun x h1=>p x h1:=id rfl
theorem yRY {k:Bool}:oB (.bl k) h=some (k,h):=id rfl
theorem yKe {p p':P2}:yln p p' a b c ρ h=ob (a ρ h) fun x h1=>ob (b ρ h1) fun y h2=>ob (p x y h2) fun z h3=>ob (oB z h3) fun k h3=>if k=true then ob (c ρ h3) fun w h4=>p' y w h4 else some (.bl false,h3):=id rfl
theorem yMZ:yo a ρ h=ob (a ρ h) oB:=id rfl
theorem yNa:ypY a b ρ h=ob (a ρ h) fun x h1=>ob (oB x h1) fun k h1=>if k=true then b ρ h1 else some (.bl false,h1):=id rfl
theorem yPq:yJD ca cb ρ h=ob (ca ρ h) fun k h1=>if k=true then cb ρ h1 else some (false,h1):=id rfl
theorem yRZ:xOr ca cb ρ h=ob (ca ρ h) fun k h1=>if k=true then some (true,h1) else cb ρ h1:=id rfl
theorem yPr:yuw ca ρ h=ob (ca ρ h) fun k h1=>some (!k,h1):=id rfl
theorem ySa:xIf ca a b ρ h=ob (ca ρ h) fun k h1=>if k=true then a ρ h1 else b ρ h1:=id rfl
theorem yKf:yj ρ h=some ([],h):=id rfl
theorem yNb:yb a aa ρ h=ob (a ρ h) fun x h1=>ob (aa ρ h1) fun xs h2=>some (x::xs,h2):=id rfl
theorem yPs:yfj aa ρ h=ob (aa ρ h) fun xs h1=>if xs.length<=1000 then some (.tup xs,h1) else none:=id rfl
theorem yPt:yeG aa ρ h=ob (aa ρ h) fun xs h1=>if xs.length<=1000 then some (.lst xs,h1) else none:=id rfl
def fzN:Nd->AH->Option (PV×AH)
 | .lst xs,h=>some (.lst xs,h)
 | .ins k ns xs,h=>some (.ins k ns xs,h)
 | _,_=>none
theorem yPu:xFz eo ρ h=ob (eo ρ h) fzN:=by
 unfold xFz;congr;funext d h1;cases d<;>rfl
theorem yPv {xs:List PV}:fzN (.lst xs) h=some (.lst xs,h):=id rfl
theorem yPw {k:Nat}{ns:List Str}{xs:List PV}:fzN (.ins k ns xs) h=some (.ins k ns xs,h):=id rfl
theorem yPx:yor eo ρ h=ob (eo ρ h) fun d h1=>some (.loc h1.length,h1++[d]):=id rfl
theorem x_call {f:Fn}:yU f aa ρ h=ob (aa ρ h) f:=id rfl
theorem ySb {f}:xCB f aa ρ h=ob (aa ρ h) f:=id rfl
theorem yPy {f}:ynk f aa ρ h=ob (aa ρ h) f:=id rfl
theorem yNc {q} {p:PM}:xBM q p a aa ρ h=ob (a ρ h) fun x h1=>if q x h1=true then ob (aa ρ h1) fun xs h2=>p x xs h2 else none:=id rfl
theorem yKg {s:Str}:isStr (.str s) h=true:=id rfl
theorem yNd {f}:ylU f aa ρ h=ob (aa ρ h) f:=id rfl
theorem yKh {k:Nat}:yzY k ρ h=some (.ins k [] [],h):=id rfl
theorem yNe:yP ρ h=some (.nx ρ,h):=id rfl
noncomputable def sqK (u:XS):Out->AH->Option (Out×AH)
 | .nx ρ,h=>u ρ h
 | .rt x,h=>some (.rt x,h)
 | .bk ρ,h=>some (.bk ρ,h)
 | .ct ρ,h=>some (.ct ρ,h)
theorem yDe:yn s u ρ h=ob (s ρ h) (sqK u):=by
 unfold yn;congr;funext o h1;cases o<;>rfl
theorem yPz:sqK u (.nx ρ) h=u ρ h:=id rfl
theorem yPA:sqK u (.rt x) h=some (.rt x,h):=id rfl
theorem yzZ:ybv a ρ h=ob (a ρ h) fun _ h1=>some (.nx ρ,h1):=id rfl
theorem yKi:yS a ρ h=ob (a ρ h) fun x h1=>some (.rt x,h1):=id rfl
theorem yPB:yca ca s u ρ h=ob (ca ρ h) fun k h1=>if k=true then s ρ h1 else u ρ h1:=id rfl
theorem yGq {g:XG}:ybI a g ρ h=ob (a ρ h) fun x h1=>(g x ρ).bind fun ρ'=>some (.nx ρ',h1):=id rfl
theorem yNf:yBg eo i ρ h=ob (eo ρ h) fun d h1=>some (.nx (ρ.set i (.own d)),h1):=id rfl
theorem yNg:yr i x ρ=some (ρ.set i (.val x)):=id rfl
theorem yPC:yCQ i s ρ h=s (yyz i ρ) h:=id rfl
theorem yPD {v:PVar}:yyz 0 (v::ρ)=yFd v::ρ:=id rfl
theorem yPE {v:PVar}{n:Nat}:yyz (n+1) (v::ρ)=v::yyz n ρ:=id rfl
theorem yPF {xs:List PV}:yFd (.own (.lst xs))=.val (.lst xs):=id rfl
theorem yPG:yFd (.val x)=.val x:=id rfl
theorem yPH {it:XA}{g:XG}:yzQ it g s ρ h=ob (it ρ h) fun xs h1=>ypi g s xs ρ h1:=id rfl
def frK (g:XG) (s:XS) (xs:List PV):Out->AH->Option (Out×AH)
 | .nx ρ,h=>ypi g s xs ρ h
 | .ct ρ,h=>ypi g s xs ρ h
 | .bk ρ,h=>some (.nx ρ,h)
 | .rt y,h=>some (.rt y,h)
theorem yNh {g:XG}{xs:List PV}:ypi g s (x::xs) ρ h=(g x ρ).bind fun ρ1=>ob (s ρ1 h) (frK g s xs):=by
 unfold ypi;congr;funext ρ1;congr;funext o h1;cases o<;>rfl
def fnK:Out->AH->Option (PV×AH)
 | .rt x,h=>some (x,h)
 | .nx _,h=>some (.non,h)
 | _,_=>none
theorem yw {N:Nat}{xs:List PV}:ybX N s xs h=ob (s (xs.map .val++replicate (N-xs.length) .no) h) fnK:=by
 unfold ybX;congr;funext o h1;cases o<;>rfl
theorem yPI:fnK (.rt x) h=some (x,h):=id rfl
theorem yPJ:fnK (.nx ρ) h=some (.non,h):=id rfl
def yib (cs:List Nat) (f:Str) (x:PV) (h:AH):Option (PV×AH):=match yjv x h with|some (k,ns,xs)=>if k∈cs/\f∈ns then (match xs[ns.idxOf f]? with|some y=>some (y,h)|none=>none) else none|none=>none
theorem yyD {cs:List Nat}{f:Str}:ybk cs f a ρ h=ob (a ρ h) (yib cs f):=id rfl
theorem yjC {cs:List Nat}{f:Str}{k:Nat}{ns:List Str}{xs:List PV}{y:PV}(hk:k∈cs) (hf:f∈ns) (hy:xs[ns.idxOf f]?=some y):yib cs f (.ins k ns xs) h=some (y,h):=by
 unfold yib yjv
 simp [hk,hf,hy]
def yox (m:Str) (f:Nat->Fn) (x:PV) (h:AH):Option (PV×AH):=match yjv x h with|some (k,ns,_)=>if m∈ns then none else f k [x] h|none=>none
theorem yIy {m:Str}{f:Nat->Fn}:ysZ m f a ρ h=ob (a ρ h) (yox m f):=id rfl
theorem yek {m:Str}{f:Nat->Fn}{k:Nat}{ns:List Str}{xs:List PV}(hm:m∉ns):yox m f (.ins k ns xs) h=f k [.ins k ns xs] h:=by
 unfold yox yjv
 simp [hm]
theorem x_i {g:Int->Int->PV}{i j:Int}:oI g (.int i) (.int j) h=some (g i j,h):=id rfl
theorem ySc {C:Int->Int->Prop} [∀ i j,Decidable (C i j)] {g:Int->Int->PV}{i j:Int}:oIc C g (.int i) (.int j) h=if C i j then some (g i j,h) else none:=id rfl
theorem yDf {i j:Int}(h1:-18446744073709551616<j) (h2:j<18446744073709551616):MulOk i j=True:=eq_true (.inr ⟨h1,h2⟩)
theorem yNi {i j:Int}(h1:-18446744073709551616<i) (h2:i<18446744073709551616):MulOk i j=True:=eq_true (.inl ⟨h1,h2⟩)
theorem yPK {i j:Int}(h1:0<=i) (h2:i<18446744073709551616) (h3:0<=j) (h4:j<=1000000):yCZ i j=True:=eq_true ⟨⟨h1,h2⟩,h3,h4⟩
theorem yPL {i j:Int}:oEq (.int i) (.int j) h=some (.bl (decide (i=j)),h):=by simp [oEq,sv,yId]
theorem yPM {i j:Str}:oEq (.str i) (.str j) h=some (.bl (decide (i=j)),h):=by simp [oEq,sv,yId]
theorem yPN {i j:Int}:oNe (.int i) (.int j) h=some (.bl (!decide (i=j)),h):=by simp [oNe,sv,yId]
theorem yPO {i j:Str}:oNe (.str i) (.str j) h=some (.bl (!decide (i=j)),h):=by simp [oNe,sv,yId]
theorem yPP:yLG x .non h=some (.bl (isN x),h):=id rfl
theorem yNj:yGh x .non h=some (.bl (!isN x),h):=id rfl
theorem yIz {i j:Str}:yie (.str i) (.str j) h=if i.length+j.length<=100000 then some (.str (i++j),h) else none:=id rfl
theorem yPQ {c:Nat}{j:Str}:yMP (.str ⟨#[c]⟩) (.str j) h=some (.bl (decide (c∈j.cps.toList)),h):=id rfl
theorem yPR {xs:List PV}{i:Int}:ybC (.lst xs) (.int i) h=(atI xs i).bind fun v=>some (v,h):=by
 simp only [ybC];cases atI xs i<;>rfl
theorem yPS {xs:List Int}{i:Int}:ybC (.scr xs) (.int i) h=(atI xs i).bind fun v=>some (.int v,h):=by
 simp only [ybC];cases atI xs i<;>rfl
theorem yPT {xs:List PV}{i:Int}:ybl (.tup xs) (.int i) h=(atI xs i).bind fun v=>some (v,h):=by
 simp only [ybl];cases atI xs i<;>rfl
theorem yPU {s:Str}{i:Int}:yMR (.str s) (.int i) h=(atI s.cps.toList i).bind fun c=>if s.length<=100000 then some (sgn c,h) else none:=by
 simp only [yMR];cases atI s.cps.toList i<;>rfl
theorem yPV {xs:List Int}{lo hi:Option Int}:yIu (.scr xs) lo hi h=some (.lst (yGi (xs.map .int) lo hi),h):=id rfl
theorem yPW {xs ys:List PV}:yzT (.lst xs) (.lst ys) h=if xs.length+ys.length<=100000 then some (.lst (xs++ys),h) else none:=id rfl
theorem yPX {xs:List PV}{k:Int}:yGj (.lst xs) (.int k) h=if -1000000<=k/\k<=100000/\xs.length*k.toNat<=100000 then some (.lst (repL k.toNat xs),h) else none:=id rfl
theorem yPY {p} {lo hi}:yLD p a lo hi ρ h=ob (a ρ h) fun x h1=>ob (lo ρ h1) fun l h2=>ob (hi ρ h2) fun u h3=>p x l u h3:=id rfl
theorem yNk:yyw a ρ h=ob (a ρ h) fun x h1=>match x with|.int i=>some (some i,h1)|_=>none:=id rfl
theorem yGr:yqF ρ h=some (none,h):=id rfl
theorem yNl {xs:List PV}:yej [.lst xs] h=some (.int xs.length,h):=id rfl
theorem yNm {xs:List Int}:yej [.scr xs] h=some (.int xs.length,h):=id rfl
theorem yNn {z:Str}:yyB [.str z] h=if z.length<=100000 then some (.int z.length,h) else none:=id rfl
theorem yIA {k:Int}:ywq [.int k] h=if k.natAbs.log2<1920 then some (.str (toString k:String),h) else none:=id rfl
theorem yKj {xs:List PV}:yT [.lst xs] h=some (.lst xs,h):=id rfl
theorem ySd {xs:List PV}(e:a ρ h=some (.lst xs,h1)):xIL a ρ h=some (xs,h1):=by unfold xIL;rw [e];rfl
theorem yNo {it:XA}{ix:List Nat}:ylk it ix a ρ h=ob (it ρ h) fun xs h1=>if xs.length<=100000 then ob (yuB a (ypj ix ρ) xs h1) fun ys h2=>some (.lst ys,h2) else none:=id rfl
end
end PX
namespace L2
open PySem PySem.Spec PyProof.Rows
end L2
namespace L2
open PySem PySem.Spec PyProof.Rows
section
variable (P:Program) (w:World)
end
section
variable {P:Program}{w:World}{H H':Hp}{h h':Heap}{a:Addr}{o:HO}
end
section
variable {P:Program}{w:World}{H:Hp}{h h':Heap}{x e:Addr}{o':HO}
end
section
variable {fs fs' ex ex':List Addr}{H H1 H2:Hp}{h h1 h2 h':Heap}{a x e:Addr}{o:HO}
end
end L2
namespace L2
open PySem PySem.Spec PyProof.Rows
section
variable {X:Cx}{pins:List (Addr×Obj)}{σ:List (Option V)}{H H':Hp}{s:Shared}{h':Heap}
end
end L2
namespace L2
open PySem PySem.Spec PyProof.Rows
section
variable {X:Cx}
variable {a b:Expr}{ta tb:TE}{pos:Pos}
variable {tA tB':TT}{rest:List Expr}
end
end L2
namespace L2
open PySem PySem.Spec PyProof.Rows
section
variable {X:Cx}{pins:List (Addr×Obj)}{σ:St}{H:Hp}{s:Shared}{a:Addr}{xs ys:List V}
end
section
variable {X:Cx}{pins:List (Addr×Obj)}{σ:St}{H:Hp}{s:Shared}{E:Value->Shared->Prop}
end
section
variable {X:Cx}{st:Stmt}{rest:List Stmt}{t u:TS}{e:Expr}{te:TE}{pos:Pos}
end
section
variable {X:Cx}{pos:Pos}
end
section
variable {X:Cx}{pos:Pos}
end
end L2
namespace L2
open PySem PySem.Spec PyProof.Rows
section
variable {X:Cx}{tg:Expr}
end
end L2
namespace L2
open PySem PySem.Spec PyProof.Rows
section
variable {X:Cx}{a b c:Expr}{ta tb tc:TE}{pos:Pos}
end
section
variable {X:Cx}{a b c:Expr}{ta tb tc:TE}{pos:Pos}
end
end L2
namespace L2
open PySem PySem.Spec PyProof.Rows
section
variable {prog:Program}{w:World}{A:Around}{E:Value->Shared->Prop}{s:Shared}{K:PySem.W.Frag}{x dx C f:Addr}{mA:Str->Option Value}{name:Str}{v:Value}
end
section
variable {P:Program}{w:World}{H H':Hp}{h h':Heap}{a C dx:Addr}{fs fs':List (Str×V)}
end
section
variable {X:Cx}{pins:List (Addr×Obj)}{σ:St}{H:Hp}{s:Shared}{a C dx:Addr}{fs:List (Str×V)}{f:Str}{v:V}{A:Around}{E:Value->Shared->Prop}
end
section
variable {X:Cx}{o e value:Expr}{f:Str}{pos pos' tpos:Pos}{ta tv:TE}
end
section
variable {X:Cx}{pins:List (Addr×Obj)}{σ:St}{H:Hp}{s:Shared}{A:Around}{E:Value->Shared->Prop}{Q:Value->Shared->Prop}{c:Value}{b:Bool}
end
end L2
namespace L2
open PySem PySem.Spec PyProof.Rows
section
variable {X:Cx}{e:Expr}{es:List Expr}{te:TE}{t:TA}{pos:Pos}
end
section
variable {X:Cx}{pins:List (Addr×Obj)}{σ:St}{H:Hp}{s s':Shared}
end
section
variable {X:Cx}{CX:CXT}{k:Nat}{f C:Addr}{fd:FuncData}{ps:List Str}{sp:Sp}{dvs:List V}{ds:List Value}{E:XK}{x m:Str}{p pos apos:Pos}{e o:Expr}{es:List Expr}{ta:TE}{t:TA}
end
section
variable {X:Cx}{CX:CXT}{k:Nat}{f C:Addr}{fd:FuncData}{ps ks:List Str}{sp:Sp}{E:XK}{x m:Str}{p pos apos kpos:Pos}{e o:Expr}{es:List Expr}{kws:List Keyword}{te ta:TE}{t tk:TA}{nm:Option Str}
variable {g:List Value->List Value->List Value}{gV:List V->List V->List V}
end
end L2
namespace L2
open PySem PySem.Spec PyProof.Rows
section
variable {X:Cx}{x:Str}{p pos:Pos}{e:Expr}{es:List Expr}{t:TA}{id T:String}{r:List V->Hp->VK->Prop}
end
end L2
namespace L2
open PySem PySem.Spec PyProof.Rows
section
variable {κ:Type} [DecidableEq κ]
def yxU (kvs:List (κ×V)) (k:κ):Option V:=(kvs.find? fun kv=>decide (kv.1=k)).map (·.2)
noncomputable def putK (kvs:List (κ×V)) (k:κ) (v:V):List (κ×V) :=
 if (kvs.any fun kv=>decide (kv.1=k))=true then kvs.map (fun kv=>if kv.1=k then (kv.1,v) else kv) else kvs++[(k,v)]
theorem yuE {p:κ×V}{r:List (κ×V)}{k:κ}(e:p.1=k):yxU (p::r) k=some p.2:=by simp [yxU,find?_cons,e]
theorem yuF {p:κ×V}{r:List (κ×V)}{k:κ}(e:¬ p.1=k):yxU (p::r) k=yxU r k:=by simp [yxU,find?_cons,e]
theorem yAa (k:κ):∀ kvs:List (κ×V),(kvs.any fun kv=>decide (kv.1=k))=(yxU kvs k).isSome
 | []=>rfl
 | p::r=>by
  rw [any_cons]
  by_cases e:p.1=k
  .simp only [yuE e,decide_eq_true e,Bool.true_or,Option.isSome_some]
  .rw [yuF e,decide_eq_false e,Bool.false_or];exact yAa k r
theorem ylV (kvs:List (κ×V)) (k:κ) (v:V):(putK kvs k v).length<=kvs.length+1:=by
 unfold putK
 split
 .rw [length_map];omega
 .rw [length_append,length_cons,length_nil];omega
theorem RelO.isSome_eq {o:Option V}{u:Option Value}(r:RelO o u):o.isSome=u.isSome:=by
 cases o with
 | none=>cases u with
  | none=>rfl
  | some _=>exact (show False from r).elim
 | some _=>cases u with
  | none=>exact (show False from r).elim
  | some _=>rfl
theorem KV.val {kvs:List (κ×V)}{vs:List (κ×Value)}(r:KV kvs vs) (k:κ):RelO (yxU kvs k) (valueAt vs k):=by
 unfold KV at r
 induction r with
 | nil=>exact True.intro
 | @cons p q ps qs h t ih =>
  obtain ⟨h1,h2⟩:=h
  by_cases e:p.1=k
  .have e':q.1=k:=h1.symm.trans e
   have b:valueAt (q::qs) k=some q.2:=by simp [valueAt,find?_cons,e']
   rw [yuE e,b];exact h2
  .have e':¬ q.1=k:=fun z=>e (h1.trans z)
   have b:valueAt (q::qs) k=valueAt qs k:=by simp [valueAt,find?_cons,e']
   rw [yuF e,b];exact ih
theorem KV.any {kvs:List (κ×V)}{vs:List (κ×Value)}(r:KV kvs vs) (k:κ):(kvs.any fun kv=>decide (kv.1=k))=vs.any fun kv=>decide (kv.1=k):=by
 unfold KV at r
 induction r with
 | nil=>rfl
 | cons h t ih=>rw [any_cons,any_cons,ih,h.1]
theorem KV.repl {kvs:List (κ×V)}{vs:List (κ×Value)}(r:KV kvs vs) (k:κ) {y:V}{u:Value}(ry:RelV y u) :
  KV (kvs.map fun kv=>if kv.1=k then (kv.1,y) else kv) (vs.map fun kv=>if kv.1=k then (kv.1,u) else kv):=by
 unfold KV at r ⊢
 induction r with
 | nil=>exact .nil
 | @cons p q ps qs h t ih =>
  rw [map_cons,map_cons]
  refine .cons ?_ ih
  obtain ⟨h1,h2⟩:=h
  by_cases e:p.1=k
  .rw [if_pos e,if_pos (h1.symm.trans e)];exact ⟨h1,ry⟩
  .rw [if_neg e,if_neg (fun z=>e (h1.trans z))];exact ⟨h1,h2⟩
theorem KV.put {kvs:List (κ×V)}{vs:List (κ×Value)}(r:KV kvs vs) (k:κ) {y:V}{u:Value}(ry:RelV y u):KV (putK kvs k y) (stored vs k u):=by
 unfold putK stored
 rw [r.any k]
 by_cases e:(vs.any fun kv=>decide (kv.1=k))=true
 .rw [if_pos e,if_pos e];exact r.repl k ry
 .rw [if_neg e,if_neg e];exact Paired.snoc r ⟨rfl,ry⟩
theorem KV.length {kvs:List (κ×V)}{vs:List (κ×Value)}(r:KV kvs vs):kvs.length=vs.length:=Paired.length r
end
theorem yKk {P:Program}{w:World}{k:Key}{u:Value}(r:RelV (kV k) u):(ydK P w).is k u=true:=by
 cases k with
 | inl i=>obtain ⟨t,e⟩:=(show ∃ t,u=Value.int i t from r);subst e;exact yxW P w i t
 | inr x=>obtain ⟨t,e⟩:=(show ∃ t,u=Value.str x t from r);subst e;exact yxX P w x t
theorem ywt {P:Program}{w:World}:∀ {ks:List Key}{us:List Value},Vals (ks.map kV) us->ItemsAre (ydK P w) ks us
 | [],_,r=>by rw [map_nil] at r;cases r;exact .nil
 | k::ks,_,r=>by
  rw [map_cons] at r
  cases r with
  | cons h t=>exact .cons (yKk h) (ywt t)
abbrev KT (H:Hp):List (List Key×V)->List (List Key×Addr×Value)->Prop:=Paired fun p q=>p.1=q.1/\H q.2.1=some (.tup (p.1.map kV))/\RelV p.2 q.2.2
theorem KT.val {H:Hp}{kvs:List (List Key×V)}{xs:List (List Key×Addr×Value)}(r:KT H kvs xs) (k:List Key):RelO (yxU kvs k) ((atKey xs k).map (·.2)):=by
 induction r with
 | nil=>exact True.intro
 | @cons p q ps qs h t ih =>
  obtain ⟨h1,_,h2⟩:=h
  by_cases e:p.1=k
  .have e':q.1=k:=h1.symm.trans e
   have b:atKey (q::qs) k=some q.2:=by simp [atKey,find?_cons,e']
   rw [yuE e,b];exact h2
  .have e':¬ q.1=k:=fun z=>e (h1.trans z)
   have b:atKey (q::qs) k=atKey qs k:=by simp [atKey,find?_cons,e']
   rw [yuF e,b];exact ih
theorem KT.repl {H:Hp}{kvs:List (List Key×V)}{xs:List (List Key×Addr×Value)}(r:KT H kvs xs) (k:List Key) {y:V}{u:Value}(ry:RelV y u) :
  KT H (kvs.map fun kv=>if kv.1=k then (kv.1,y) else kv) (xs.map (putAt k u)):=by
 induction r with
 | nil=>exact .nil
 | @cons p q ps qs h t ih =>
  rw [map_cons,map_cons]
  refine .cons ?_ ih
  obtain ⟨h1,h2,h3⟩:=h
  unfold putAt
  by_cases e:p.1=k
  .rw [if_pos e,if_pos (h1.symm.trans e)];exact ⟨h1,h2,ry⟩
  .rw [if_neg e,if_neg (fun z=>e (h1.trans z))];exact ⟨h1,h2,h3⟩
theorem KT.put {H:Hp}{kvs:List (List Key×V)}{xs:List (List Key×Addr×Value)}(r:KT H kvs xs) (k:List Key) {b:Addr}{y:V}{u:Value}(hb:H b=some (.tup (k.map kV))) (ry:RelV y u) :
  KT H (putK kvs k y) (storedH xs k b u):=by
 have e:(kvs.any fun kv=>decide (kv.1=k))=(atKey xs k).isSome:=by
  rw [yAa,(r.val k).isSome_eq,Option.isSome_map]
 unfold putK storedH
 rw [e]
 by_cases q:(atKey xs k).isSome=true
 .rw [if_pos q,if_pos q];exact r.repl k ry
 .rw [if_neg q,if_neg q];exact Paired.snoc r ⟨rfl,hb,ry⟩
theorem KT.keeps {H H':Hp}{kvs:List (List Key×V)}{xs:List (List Key×Addr×Value)}(r:KT H kvs xs) (ht:∀ b ys,H b=some (.tup ys)->H' b=some (.tup ys)):KT H' kvs xs :=
 Paired.mapP r fun _ _ z=>⟨z.1,ht _ _ z.2.1,z.2.2⟩
section
variable {P:Program}{w:World}{H:Hp}{h:Heap}{a:Addr}
theorem yNp {u:HO}(ok:HOk P w H h) (e:Rd H a u):ObjOk P w H h a u:=e.ok ok
theorem yKl {kvs:List (Key×V)}(ok:HOk P w H h) (e:Rd H a (.dK kvs)):kvs.length<=sizeLine/\(a == sysModules)=false/\∃ vs,KV kvs vs/\h.DictOf (ydK P w) a vs :=
 show ObjOk P w H h a (.dK kvs) from yNp ok e
theorem yKm {kvs:List (Key×V)}(ok:HOk P w H h) (e:H a=some (.dK kvs)):kvs.length<=sizeLine/\(a == sysModules)=false/\∃ vs,KV kvs vs/\h.DictOf (ydK P w) a vs:=yKl ok (.inl e)
theorem yDg {ks:List Key}(ok:HOk P w H h) (e:H a=some (.tup (ks.map kV))):(tupleKind (ydK P w)).is h ks a:=by
 obtain ⟨_,its,r,o,h1,h2,n,h3⟩:=(show ObjOk P w H h a (.tup (ks.map kV)) from ok a _ e)
 exact ⟨o,its.toArray,n,h1,h2,h3,by simpa using ywt r⟩
theorem yKn {kvs:List (List Key×V)}(ok:HOk P w H h) (e:Rd H a (.dT kvs)):kvs.length<=sizeLine/\(a == sysModules)=false /\
  ∃ xs,KT H kvs xs/\h.DictOfH (tupleKind (ydK P w)) a xs:=by
 obtain ⟨z,y,xs,r,o,es,ep,h1,h2,h3,h4,h5⟩:=(show ObjOk P w H h a (.dT kvs) from yNp ok e)
 refine ⟨z,y,xs,r,o,es,ep,h1,h2,h3,h4,fun x hx=>?_,h5⟩
 have all:∀ {l:List (List Key×V)}{m:List (List Key×Addr×Value)},KT H l m->∀ x∈m,(tupleKind (ydK P w)).is h x.1 x.2.1:=by
  intro l m q
  induction q with
  | nil=>intro x hx;exact nomatch hx
  | @cons p q ps qs hq t ih =>
   intro x hx
   rcases mem_cons.mp hx with e|hx
   .subst e
    exact yDg ok (by rw [<- hq.1];exact hq.2.1)
   .exact ih x hx
 exact all r x hx
theorem yPZ {kvs:List (List Key×V)}(ok:HOk P w H h) (e:H a=some (.dT kvs)):kvs.length<=sizeLine/\(a == sysModules)=false /\
  ∃ xs,KT H kvs xs/\h.DictOfH (tupleKind (ydK P w)) a xs:=yKn ok (.inl e)
end
noncomputable def DGet (H:Hp) (a:Addr) (y:V) (r:Option V):Prop :=
 (∃ kvs k,Rd H a (.dK kvs)/\y=kV k/\r=yxU kvs k)\/∃ kvs k b,Rd H a (.dT kvs)/\y=.ref b/\H b=some (.tup (k.map kV))/\r=yxU kvs k
def DPut (H:Hp) (a:Addr) (y v:V) (H':Hp):Prop :=
 (∃ kvs k,H a=some (.dK kvs)/\y=kV k/\kvs.length<sizeLine/\H'=upd H a (.dK (putK kvs k v))) \/
 ∃ kvs k b,H a=some (.dT kvs)/\y=.ref b/\H b=some (.tup (k.map kV))/\kvs.length<sizeLine/\H'=upd H a (.dT (putK kvs k v))
theorem DPut.k {H:Hp}{a:Addr}{kvs:List (Key×V)}{k:Key}{v:V}(e:H a=some (.dK kvs)) (hl:kvs.length<sizeLine):DPut H a (kV k) v (upd H a (.dK (putK kvs k v))):=.inl ⟨kvs,k,e,rfl,hl,rfl⟩
section
variable {X:Cx}{pins:List (Addr×Obj)}{σ:St}{H:Hp}{s:Shared}{a:Addr}{y v:V}{u r:Value}{o:Option V}{A:Around}{E:Value->Shared->Prop}
theorem Inv.big (I:Inv X pins σ H s):sysModules<s.heap.objs.size:=by
 have h:mainGlobals<s.heap.objs.size:=(I.mod.glob.keeps I.bk).lt
 exact Nat.lt_trans (by decide) h
theorem yDh {Q:Value->Shared->Prop}(hu:A.units+1<cLine) (I:Inv X pins σ H s) (g:DGet H a y (some v)) (ry:RelV y u) (h:∀ w' s',Inv X pins σ H s'->RelV v w'->Q w' s') :
  wpAny (model X.prog X.w) A (getItem (.ref a) u) Q E s:=by
 rcases g with ⟨kvs,k,e,ey,l⟩|⟨kvs,k,b,e,ey,eb,l⟩
 .subst ey
  obtain ⟨z,hd,vs,rel,dd⟩:=yKl I.hok e
  obtain ⟨w',hw,rw'⟩:=RelO.some_of (v:=v) (o:=valueAt vs k) (by rw [l];exact rel.val k)
  exact wpAny_getItem_of (yKk ry) dd.mapOf hw (h w' _ (I.tok _) rw')
 .subst ey
  cases (show u=Value.ref b from ry)
  obtain ⟨z,hd,xs,rel,dd⟩:=yKn I.hok e
  obtain ⟨w',hw,rw'⟩:=RelO.some_of (v:=v) (o:=(atKey xs k).map (·.2)) (by rw [l];exact rel.val k)
  obtain ⟨p,hp,hp2⟩:=Option.map_eq_some_iff.mp hw
  refine wpAny_getItem_heap (tupleKind_room_in1 hu) (yDg I.hok eb) dd hp ?_
  rw [hp2]
  exact h w' _ (I.tok _) rw'
theorem yyE {h':Heap}{t':Nat}{ob:HO}(I:Inv X pins σ H s) (mu:Mut (H a)) (hs:Heap.SameBut a s.heap h') (he:∃ q,h'.get? a=some q) (new:ObjOk X.prog X.w (upd H a ob) h' a ob) :
  Inv X pins σ (upd H a ob) { s with heap:=h',toks:=t' } :=
 I.write (x:=a) (e:=a) mu (.inl rfl) (fun b q hb z=>(hs.2 b hb).trans z) he new
theorem yIB {P:Program}{w:World}{H':Hp}{h':Heap}{kvs:List (Key×V)}{vs:List (Key×Value)}(z:kvs.length<=sizeLine) (hd:(a == sysModules)=false) (rel:KV kvs vs) (dd:h'.DictOf (ydK P w) a vs) :
  ObjOk P w H' h' a (.dK kvs):=⟨z,hd,vs,rel,dd⟩
theorem yDi {H':Hp}{Q:Unit->Shared->Prop}(hu:A.units+1<cLine) (I:Inv X pins σ H s) (g:DPut H a y v H') (ry:RelV y u) (rv:RelV v r) (h:∀ s',Inv X pins σ H' s'->Q () s') :
  wpAny (model X.prog X.w) A (setItem (.ref a) u r) Q E s:=by
 rcases g with ⟨kvs,k,e,ey,l,eH⟩|⟨kvs,k,b,e,ey,eb,l,eH⟩
 .subst ey eH
  obtain ⟨z,hd,vs,rel,dd⟩:=yKm I.hok e
  have hz:vs.length<=sizeLine:=by rw [<- rel.length];exact z
  have hl:(putK kvs k v).length<=sizeLine:=by have:=ylV kvs k v;omega
  refine wpAny_setItem_pairs (hsz:=hz) (yKk ry) dd fun h' dd' hs=>h _ ?_
  have he:∃ q,h'.get? a=some q:=let ⟨q,_,_,hq,_⟩:=dd';⟨q,hq⟩
  exact yyE I (by rw [e];exact True.intro) hs he (yIB hl hd (rel.put k rv) dd')
 .subst ey eH
  cases (show u=Value.ref b from ry)
  obtain ⟨z,hd,xs,rel,dd⟩:=yPZ I.hok e
  have hz:xs.length<=sizeLine:=by rw [<- Paired.length rel];exact z
  have hl:(putK kvs k v).length<=sizeLine:=by have:=ylV kvs k v;omega
  refine wpAny_setItem_heap (hsz:=hz) (tupleKind_room_in1 hu) (yDg I.hok eb) dd fun h' dd' hs=>h _ ?_
  obtain ⟨q,es,ep,hq,h2,h3,h4,_,h5⟩:=dd'
  refine yyE I (by rw [e];exact True.intro) hs ⟨q,hq⟩ ⟨hl,hd,_,(rel.put k eb rv).keeps fun c ys ec=>?_,q,es,ep,hq,h2,h3,h4,h5⟩
  rw [yL (yOD ec e (fun z=>nomatch z))]
  exact ec
end
section
variable {X:Cx}{pins:List (Addr×Obj)}{σ:St}{H:Hp}{s:Shared}{a:Addr}{kvs:List (Key×V)}{k:Key}{u:Value}{A:Around}{E:Value->Shared->Prop}
end
def yQa (i:Expr):Prop:=∀ ov iv,subscripted i false ov iv=operate [ov,iv] (getItem ov iv)
theorem yKo {prog:Program}{w:World}{A:Around}{E:Value->Shared->Prop}{s:Shared}{env:Env}{value slice:Expr}{pos:Pos}{T id:String}{Q:Value->Shared->Prop}
  (hl:typeLookup (.type T) "__getitem__" = pure (some (.builtin id))) (hs:yQa slice)
  (h:wpAny (model prog w) A (eval value env) (fun o s₁=>wpAny (model prog w) A (eval slice env) (fun i s₂=>s₂.TypeIs o T/\wpAny (model prog w) A (getItem o i) Q E s₂) E s₁) E s) :
  wpAny (model prog w) A (eval (.Subscript value slice pos) env) Q E s:=by
 refine Subscript_ (wpAny_mono h (fun o s₁ h₁=>wpAny_mono h₁ (fun i s₂ h₂=>?_) fun _ _ x=>x) fun _ _ x=>x)
 obtain ⟨hT,h₂⟩:=h₂
 unfold subscriptTail
 refine wpAny_bind ?_
 rw [getitemInPython_of_ne hT.not_modules]
 refine wpAny_bind (wpAny_specialOf hT hl ?_)
 have fin:wpAny (model prog w) A (subscripted slice false o i) (fun r s₃=>wpAny (model prog w) A (letTemporaryGo value o r >>= fun _=>pure r) Q E s₃) E s₂:=by
  rw [hs o i]
  exact wpAny_operating (wpAny_mono h₂ (fun r s₃ h₃=>wpAny_bind (wpAny_letTemporaryGo (wpAny_pure h₃))) fun _ _ x=>x)
 first
  | exact wpAny_pure (wpAny_bind fin)
  | exact wpAny_bind (wpAny_pure (wpAny_bind fin))
  | exact wpAny_bind fin
theorem yyF {X:Cx}{pins:List (Addr×Obj)}{σ:St}{H:Hp}{s:Shared}{a:Addr}{y:V}{o:Option V}(I:Inv X pins σ H s) (g:DGet H a y o):s.TypeIs (.ref a) "dict":=by
 rcases g with ⟨kvs,k,e,_,_⟩|⟨kvs,k,b,e,_,_,_⟩
 .obtain ⟨_,_,vs,_,dd⟩:=yKl I.hok e
  exact dd.typeIs
 .obtain ⟨_,_,xs,_,dd⟩:=yKn I.hok e
  exact dd.typeIs
def yNq (td ty:TE):TE:=fun σ H Q=>td σ H fun x H1=>ty σ H1 fun y H2=>∃ a v,x=.ref a/\DGet H2 a y (some v)/\Q v H2
def yNr (td ty tv:TE):TS:=fun D σ H=>tv σ H fun v H1=>td σ H1 fun x H2=>ty σ H2 fun y H3=>∃ a H4,x=.ref a/\DPut H3 a y v H4/\D.nx σ H4
section
variable {X:Cx}{o i e value:Expr}{pos pos' tpos:Pos}{td ty tv:TE}
theorem yKp (hu:X.A.units+1<cLine) (ho:PE X o td) (hi:PE X i ty) (hs:yQa i):PE X (.Subscript o i pos) (yNq td ty):=by
 intro pins s σ H Q I h
 refine yKo PySem.F.slot_dict_getitem.lookup hs (thn (ho pins s σ H _ I h) fun u s1 ⟨x,H1,I1,rx,q1⟩=>thn (hi pins s1 σ H1 _ I1 q1) fun iv s2 ⟨y,H2,I2,ry,a,v,ex,g,q2⟩=>?_)
 subst ex
 obtain rfl:u=Value.ref a:=rx
 exact ⟨yyF I2 g,yDh hu I2 g ry fun w' s3 I3 rw'=>⟨v,H2,I3,rw',q2⟩⟩
theorem yKq (hu:X.A.units+1<cLine) (ho:PE X o td) (hi:PE X i ty) (hv:PE X value tv) (hs:swapsWith value (some (.Subscript o i pos')) pos.line X.env=pure false) :
  PS X (.Assign [.Subscript o i pos'] value pos) (yNr td ty tv):=by
 intro pins s σ H D I h
 refine wpAny_Assign_Subscript (thn (hv pins s σ H _ I h) fun r s1 ⟨v,H1,I1,rv,q1⟩=>thn (ho pins s1 σ H1 _ I1 q1) fun u s2 ⟨x,H2,I2,rx,q2⟩=>thn (hi pins s2 σ H2 _ I2 q2) fun iv s3 ⟨y,H3,I3,ry,a,H4,ex,g,q3⟩=>?_) hs
 subst ex
 obtain rfl:u=Value.ref a:=rx
 exact yDi hu I3 g ry rv fun s4 I4=>⟨σ,H4,I4,q3⟩
end
theorem yGs {P:Program}{w:World}{H:Hp}(h:Heap) (hb:sysModules<h.objs.size):ObjOk P w H (h.push { cls:=.type "dict",data:=.dict #[] }) h.objs.size (.dK []) :=
 ⟨zero_le _,beq_eq_false_iff_ne.mpr (Ne.symm (ne_of_lt hb)),[],.nil,Heap.DictOf.new h⟩
def yIC:TE:=fun _ H Q=>∀ p,H p=none->Q (.ref p) (upd H p (.dK []))
section
variable {X:Cx}{pos:Pos}
theorem yGt:PE X (.Dict [] [] pos) yIC:=fun pins s σ H Q I h =>
 wpAny_Dict_empty ⟨.ref s.heap.objs.size,_,I.laid (a:=s.heap.objs.size) (o:=.dK []) (t':=s.toks) (fun _ _ q=>Heap.get?_push_of_some _ q) (Nat.le_refl _) (yGs s.heap I.big),rfl,h _ (I.hok.fresh (Nat.le_refl _))⟩
end
def yDj (kvs more:List (Key×V)):List (Key×V):=more.foldl (fun acc kv=>putK acc kv.1 kv.2) kvs
theorem KV.merge:∀ {more:List (Key×V)}{rs:List (Key×Value)}{kvs:List (Key×V)}{vs:List (Key×Value)},KV more rs->KV kvs vs->KV (yDj kvs more) (merged vs rs):=by
 intro more rs kvs vs r
 unfold KV at r
 induction r generalizing kvs vs with
 | nil=>intro q;exact q
 | @cons p q ps qs h t ih =>
  intro r0
  have e:KV (putK kvs p.1 p.2) (stored vs q.1 q.2):=by
   have:=r0.put p.1 h.2
   rw [<- h.1];exact this
  exact ih e
theorem ynr:∀ (more kvs:List (Key×V)),(yDj kvs more).length<=kvs.length+more.length
 | [],kvs=>by show kvs.length<=kvs.length+0;omega
 | p::r,kvs=>by
  have h1:=ynr r (putK kvs p.1 p.2)
  have h2:=ylV kvs p.1 p.2
  show (yDj (putK kvs p.1 p.2) r).length<=_
  rw [length_cons];omega
structure M2 (X:Cx) (o:Expr) (m:Str) (apos:Pos) (e f:Expr) (cpos:Pos):Prop where
 base:attributeBase o m X.env (eval o X.env)=eval o X.env
 few:((backTo cpos (starEach [e,f] X.env)).all (fun x=>!x.1) && (backToKw cpos (keywordEach [] X.env)).all (fun x=>x.1.isSome)
  && decide (([e,f]:List Expr).length+([]:List Keyword).length+(if ([]:List Keyword).isEmpty then 0 else 1)<30))=true
 line:(apos.endLine == cpos.line)=true
 trees:backTo cpos (starEach [e,f] X.env)=[(false,eval e X.env),(false,eval f X.env)]
section
variable {X:Cx}{pins:List (Addr×Obj)}{σ:St}{H:Hp}{s:Shared}{a:Addr}{y d:V}{u r:Value}{o:Option V}{A:Around}{E:Value->Shared->Prop}
end
section
variable {X:Cx}{o e f:Expr}{apos cpos:Pos}{td ty tx:TE}
end
section
variable {X:Cx}{pins:List (Addr×Obj)}{σ:St}{H:Hp}{s:Shared}{a:Addr}{kvs:List (Key×V)}{A:Around}{E:Value->Shared->Prop}
end
section
variable {X:Cx}{pins:List (Addr×Obj)}{σ:St}{H:Hp}{s:Shared}{a:Addr}{y:V}{u:Value}{A:Around}{E:Value->Shared->Prop}
end
end L2
namespace Att
open PySem PySem.W PySem.Calls PyProof.Rows
section
variable {prog:Program}{w:World}{A:Around}{E:Value->Shared->Prop}{s:Shared}{K:Frag}
end
end Att
namespace L2
open PySem PySem.Spec PyProof.Rows
end L2
namespace L2
open PySem PySem.Spec PyProof.Rows
end L2
namespace L2
open PySem PySem.Spec PyProof.Rows
section
variable {P:Program}{w:World}{K:PySem.W.Frag}{mg:Str->Option Value}{base:Heap}
end
section
variable {X:Cx}
end
section
variable {κ:Type} [DecidableEq κ]
end
end L2
namespace PX
open PySem L2
variable {K:Ck}
theorem yAb {α:Type}{l:List α}(h:l.Nodup) {i j:Nat}(hi:i<l.length) (hj:j<l.length) (e:l[i]=l[j]):i=j:=by
 have p:=List.pairwise_iff_getElem.mp h
 rcases Nat.lt_trichotomy i j with z|z|z
 .exact absurd e (p i j hi hj z)
 .exact z
 .exact absurd e.symm (p j i hj hi z)
def yGu (W:Wd) (n:Nat) (a:Addr) (o:HO) (d:Nd):Wd:=⟨W.F,upd W.H a o,W.m,W.h.set n d⟩
theorem ylW {W:Wd}(w:WOk K W) {n:Nat}{d d':Nd}{a:Addr}{o:HO}(e:W.h[n]?=some d) (hm:W.m[n]?=some a) (hF:W.F a=none) (at':NdAt K W.F (upd W.H a o) W.m d' a) (nf:∀ ks xs,d≠.fz ks xs:=by intro _ _ z;cases z):Le K W (yGu W n a o d'):=by
 have hn:n<W.h.length:=(List.getElem?_eq_some_iff.mp e).1
 have ham:a∈W.m:=mem_of_getElem? hm
 refine ⟨⟨fun b u q=>?_,by show W.m.length=(W.h.set n d').length;rw [length_set];exact w.len,w.nd,fun j dj b e1 e2=>?_⟩,Same.refl _,prefix_refl _,fun b u q hb=>?_,fun b u _ _ f=>f,fun b z z'=>absurd z z',fun j ks xs e1=>?_⟩
 .have:b≠a:=ycd q hF
  exact (yL this).trans (w.le _ _ q)
 .have e1:(W.h.set n d')[j]?=some dj:=e1
  by_cases hj:n=j
  .subst hj
   rw [getElem?_set_self hn] at e1
   cases e1
   have e2:W.m[n]?=some b:=e2
   rw [hm] at e2
   cases e2
   exact at'
  .rw [getElem?_set_ne hj] at e1
   have e2:W.m[j]?=some b:=e2
   have hb:b≠a:=fun z=>by
    subst z
    have h1:=(List.getElem?_eq_some_iff.mp hm)
    have h2:=(List.getElem?_eq_some_iff.mp e2)
    obtain ⟨l1,q1⟩:=h1
    obtain ⟨l2,q2⟩:=h2
    exact hj (yAb w.nd l1 l2 (q1.trans q2.symm))
   exact (w.at_ j dj b e1 e2).mono (Same.refl _) (prefix_refl _) (fun u q=>(yL hb).trans q) id
 .have:b≠a:=fun z=>hb (z ▸ ham)
  exact (yL this).trans q
 .have hj:n≠j:=fun z=>by
   subst z
   rw [e] at e1
   cases e1
   exact nf _ _ rfl
  refine ⟨(getElem?_set_ne hj).trans e1,fun b e2=>yL fun z=>?_⟩
  subst z
  obtain ⟨l1,q1⟩:=List.getElem?_eq_some_iff.mp hm
  obtain ⟨l2,q2⟩:=List.getElem?_eq_some_iff.mp e2
  exact hj (yAb w.nd l1 l2 (q1.trans q2.symm))
def yjw:PV->AH->Bool:=fun x h=>match ycT x h with|some _=>true|none=>false
theorem yAc {W:Wd}{x:PV}{v:V}(w:WOk K W) (r:yeh K W x v) (c:yjw x W.h=true):tyV K.K "list" v W.H:=by
 unfold yjw at c
 split at c
 .rename_i xs hx
  obtain ⟨a,vs,rfl,hs,_⟩:=ybn w hx r
  exact .inl ⟨rfl,vs,SqL.of hs⟩
 .cases c
noncomputable def yqJ:PM:=fun x ys h=>match x,ys with|.loc n,[y]=>(match h[n]? with|some (.lst xs)=>if xs.length<100000 then some (.non,h.set n (.lst (xs++[y]))) else none|_=>none)|_,_=>none
theorem yDk:yux K "list" yjw yye yqJ:=by
 refine ⟨fun W x v w r c=>yAc w r c,fun W x v xs vs Q z h' w rx r e q=>?_⟩
 unfold yqJ at e
 split at e
 .rename_i n y
  split at e
  .rename_i ys hn
   split at e
   .rename_i hl
    cases e
    obtain ⟨u,rfl,ru⟩:=yzU r
    obtain ⟨a,ev,hm,hf,us,hp,rs⟩:=w.loc hn rx
    refine ⟨a,us,u,ev,rfl,hp,by rw [rs.len];exact big hl,?_⟩
    exact q .non (yGu W n a (.lst (us++[u])) (.lst (ys++[y]))) rfl (ylW w hn hm hf ⟨hf,_,yF,rs.snoc ru⟩) rfl
   .cases e
  .cases e
 .cases e
noncomputable def ylX:PM:=fun x ys h=>match x,ys with|.loc n,[]=>(match h[n]? with|some (.lst xs)=>(match xs[xs.length-1]? with|some y=>some (y,h.set n (.lst xs.dropLast))|none=>none)|_=>none)|_,_=>none
theorem RepL.dropLast {F:Hp}{m:List Addr}{xs:List PV}{vs:List V}(r:RepL K F m xs vs):RepL K F m xs.dropLast vs.dropLast:=by
 rw [List.dropLast_eq_take,List.dropLast_eq_take,r.len]
 exact r.take _
theorem yAd:yux K "list" yjw yRt ylX:=by
 refine ⟨fun W x v w r c=>yAc w r c,fun W x v xs vs Q z h' w rx r e q=>?_⟩
 unfold ylX at e
 split at e
 .rename_i n
  split at e
  .rename_i ys hn
   split at e
   .rename_i y hy
    cases e
    obtain rfl:vs=[]:=r
    obtain ⟨a,ev,hm,hf,us,hp,rs⟩:=w.loc hn rx
    obtain ⟨u,hu,ru⟩:=rs.get hy
    refine ⟨a,us,u,ev,rfl,hp,by rw [rs.len];exact hu,?_⟩
    exact q u (yGu W n a (.lst us.dropLast) (.lst ys.dropLast)) rfl (ylW w hn hm hf ⟨hf,_,yF,rs.dropLast⟩) ru
   .cases e
  .cases e
 .cases e
def yjD (eo ei ev:XE):XS:=fun ρ h=>ob (ev ρ h) fun v h1=>ob (eo ρ h1) fun o h2=>ob (ei ρ h2) fun i h3=>match o,i with
 | .loc n,.int k=>(match h3[n]? with|some (.lst xs)=>(match ixN xs.length k with|some j=>some (.nx ρ,h3.set n (.lst (xs.set j v)))|none=>none)|_=>none)
 | _,_=>none
theorem yGv {to ti tv:TE}{eo ei ev:XE}(a:ycD K to eo) (b:ycD K ti ei) (c:ycD K tv ev):ynj K (yLC tv (yRj to ti yMt)) (yjD eo ei ev):=by
 intro W0 W ρ σ D o h' g e q
 obtain ⟨v,h1,e1,f1⟩:=yl e
 obtain ⟨x,h2,e2,f2⟩:=yl f1
 obtain ⟨i,h3,e3,f3⟩:=yl f2
 refine c W0 W ρ σ _ v h1 g e1 fun vv W1 w1 l1 r1=>?_
 subst w1
 refine a W0 W1 ρ σ _ x h2 (g.step l1) e2 fun vx W2 w2 l2 r2=>?_
 subst w2
 refine b W0 W2 ρ σ _ i h3 (g.step (l1.trans l2)) e3 fun vi W3 w3 l3 r3=>?_
 subst w3
 have w:=l3.ok
 split at f3
 .rename_i n k
  split at f3
  .rename_i xs hn
   split at f3
   .rename_i j hj
    cases f3
    obtain ⟨p,ep,hm,hf,us,hp,rs⟩:=w.loc hn (l3.rep r2)
    refine ⟨p,us,k,j,ep,r3,hp,by rw [rs.len];exact hj,?_⟩
    have l4:Le K W3 (yGu W3 n p (.lst (us.set j vv)) (.lst (xs.set j v))):=ylW w hn hm hf ⟨hf,_,yF,rs.set j ((l2.trans l3).rep r1)⟩
    have l:=l1.trans (l2.trans (l3.trans l4))
    exact q _ σ rfl l.lf (g.step l)
   .cases f3
  .cases f3
 .cases f3
def keyOf:PV->Option Key
 | .int i=>some (.inl i)
 | .str s=>some (.inr s)
 | _=>none
theorem ywu {W:Wd}{x:PV}{v:V}{k:Key}(e:keyOf x=some k) (r:yeh K W x v):v=kV k:=by
 cases x<;>cases e<;>exact r
noncomputable def ywv (x:PV) (h:AH):Option (List Key×List PV):=match x with|.loc n=>(match h[n]? with|some (.dct ks xs)=>some (ks,xs)|_=>none)|_=>none
def yLH:List Key->List PV->Key->Option PV
 | k::ks,x::xs,j=>if k=j then some x else yLH ks xs j
 | _,_,_=>none
def yGw:List Key->Key->Bool
 | [],_=>false
 | k::ks,j=>if k=j then true else yGw ks j
noncomputable def setK {α:Type}:List Key->List α->Key->α->List α
 | k::ks,x::xs,j,y=>if k=j then y::setK ks xs j y else x::setK ks xs j y
 | _,xs,_,_=>xs
def yfU (ks:List Key) (xs:List PV) (k:Key) (x:PV):List Key×List PV:=if yGw ks k=true then (ks,setK ks xs k x) else (ks++[k],xs++[x])
theorem yuG {α:Type}:∀ (ks:List Key) (xs:List α) (j:Key) (y:α),(setK ks xs j y).length=xs.length
 | [],_,_,_=>by simp [setK]
 | _::_,[],_,_=>by simp [setK]
 | k::ks,x::xs,j,y=>by
  show (if k=j then y::setK ks xs j y else x::setK ks xs j y).length=_
  split<;>simp [yuG ks xs j y]
theorem RepL.setK {F:Hp}{m:List Addr}:∀ {xs:List PV}{vs:List V}(ks:List Key) (j:Key) {y:PV}{u:V},RepL K F m xs vs->Rep K F m y u->RepL K F m (PX.setK ks xs j y) (PX.setK ks vs j u)
 | [],_,ks,j,y,u,h,_=>by rw [show _=[] from h];cases ks<;>exact rfl
 | x::xs,_,[],j,y,u,h,_=>by
  obtain ⟨v,r,e,h1,l⟩:=h
  subst e
  exact ⟨v,r,rfl,h1,l⟩
 | x::xs,_,k::ks,j,y,u,⟨v,r,e,h1,l⟩,ru=>by
  subst e
  show RepL K F m (if k=j then y::PX.setK ks xs j y else x::PX.setK ks xs j y) (if k=j then u::PX.setK ks r j u else v::PX.setK ks r j u)
  have ih:=RepL.setK ks j l ru
  split
  .exact ⟨u,_,rfl,ru,ih⟩
  .exact ⟨v,_,rfl,h1,ih⟩
theorem yAe {F:Hp}{m:List Addr}:∀ {ks:List Key}{xs:List PV}{vs:List V}(j:Key),RepL K F m xs vs->vs.length=ks.length->(∀ x,yLH ks xs j=some x->∃ v,yxU (ks.zip vs) j=some v/\Rep K F m x v)/\(yLH ks xs j=none->yxU (ks.zip vs) j=none)
 | [],xs,vs,j,r,hl=>by
  refine ⟨fun x e=>?_,fun _=>rfl⟩
  cases xs<;>cases e
 | k::ks,[],vs,j,r,hl=>by rw [show vs=[] from r] at hl;cases hl
 | k::ks,x::xs,_,j,⟨v,r',e,h,l⟩,hl=>by
  subst e
  have ih:=yAe j l (by simpa using hl)
  have hz:yxU ((k::ks).zip (v::r')) j=if k=j then some v else yxU (ks.zip r') j:=by
   unfold yxU
   rw [zip_cons_cons,find?_cons]
   by_cases hk:k=j
   .simp [hk]
   .simp [hk]
  rw [hz]
  show (∀ y,(if k=j then some x else yLH ks xs j)=some y->_)/\((if k=j then some x else yLH ks xs j)=none->_)
  by_cases hk:k=j
  .rw [if_pos hk,if_pos hk]
   exact ⟨fun y e=>by cases e;exact ⟨v,rfl,h⟩,fun e=>by cases e⟩
  .rw [if_neg hk,if_neg hk]
   exact ih
theorem yDl (j:Key):∀ (ks:List Key) (vs:List V),vs.length=ks.length->((ks.zip vs).any fun kv=>decide (kv.1=j))=yGw ks j
 | [],_,_=>by simp [yGw]
 | k::ks,[],h=>by cases h
 | k::ks,v::vs,h=>by
  rw [zip_cons_cons,any_cons,yDl j ks vs (by simpa using h)]
  show (decide (k=j) || yGw ks j)=if k=j then true else yGw ks j
  by_cases hk:k=j<;>simp [hk]
theorem yDm (j:Key) (y:V):∀ (ks:List Key) (vs:List V),vs.length=ks.length->(ks.zip vs).map (fun kv=>if kv.1=j then (kv.1,y) else kv)=ks.zip (setK ks vs j y)
 | [],_,_=>by simp
 | k::ks,[],h=>by cases h
 | k::ks,v::vs,h=>by
  rw [zip_cons_cons,map_cons,yDm j y ks vs (by simpa using h)]
  show (if k=j then (k,y) else (k,v))::_=(k::ks).zip (if k=j then y::setK ks vs j y else v::setK ks vs j y)
  by_cases hk:k=j
  .rw [if_pos hk,if_pos hk];rfl
  .rw [if_neg hk,if_neg hk];rfl
theorem yAf (j:Key) (y:V) (ks:List Key) (vs:List V) (hl:vs.length=ks.length):putK (ks.zip vs) j y=if yGw ks j=true then ks.zip (setK ks vs j y) else (ks++[j]).zip (vs++[y]):=by
 unfold putK
 rw [yDl j ks vs hl,yDm j y ks vs hl,List.zip_append hl.symm]
 rfl
theorem yww {W:Wd}(w:WOk K W) {x:PV}{v:V}{ks:List Key}{xs:List PV}(e:ywv x W.h=some (ks,xs)) (r:yeh K W x v):∃ a vs,v=.ref a/\W.H a=some (.dK (ks.zip vs))/\vs.length=ks.length/\yei K W xs vs:=by
 unfold ywv at e
 split at e
 .split at e
  .rename_i hn
   cases e
   obtain ⟨a,ev,hm,hf,vs,hp,hl,rs⟩:=w.loc hn r
   exact ⟨a,vs,ev,hp,hl,rs⟩
  .cases e
 .cases e
noncomputable def yQb (x:PV) (h:AH):Option (List Key×List PV):=match x with|.loc n=>(match h[n]? with|some (.dct ks xs)=>some (ks,xs)|some (.fz ks xs)=>some (ks,xs)|_=>none)|_=>none
theorem yGx {W:Wd}(w:WOk K W) {x:PV}{v:V}{ks:List Key}{xs:List PV}(e:yQb x W.h=some (ks,xs)) (r:yeh K W x v):∃ a vs,v=.ref a/\Rd W.H a (.dK (ks.zip vs))/\vs.length=ks.length/\yei K W xs vs:=by
 unfold yQb at e
 split at e
 .split at e
  .rename_i hn
   cases e
   obtain ⟨a,ev,hm,hf,vs,hp,hl,rs⟩:=w.loc hn r
   exact ⟨a,vs,ev,.inl hp,hl,rs⟩
  .rename_i hn
   cases e
   obtain ⟨a,ev,hm,hf,o,vs,hp,hl,rs⟩:=w.loc hn r
   exact ⟨a,vs,ev,.inr ⟨o,hp⟩,hl,rs⟩
  .cases e
 .cases e
theorem DGet.r {H:Hp}{a:Addr}{kvs:List (Key×V)}{k:Key}(e:Rd H a (.dK kvs)):DGet H a (kV k) (yxU kvs k):=.inl ⟨kvs,k,e,rfl,rfl⟩
def yKr (ed ek:XE):XE:=fun ρ h=>ob (ed ρ h) fun d h1=>ob (ek ρ h1) fun k h2=>match yQb d h2,keyOf k with|some (ks,xs),some j=>(match yLH ks xs j with|some x=>some (x,h2)|none=>none)|_,_=>none
theorem yGy {td ty:TE}{ed ek:XE}(a:ycD K td ed) (b:ycD K ty ek):ycD K (yNq td ty) (yKr ed ek):=by
 intro W0 W ρ σ Q z h' g e q
 obtain ⟨d,h1,e1,f1⟩:=yl e
 obtain ⟨k,h2,e2,f2⟩:=yl f1
 refine a W0 W ρ σ _ d h1 g e1 fun vd W1 w1 l1 r1=>?_
 subst w1
 refine b W0 W1 ρ σ _ k h2 (g.step l1) e2 fun vk W2 w2 l2 r2=>?_
 subst w2
 split at f2
 .rename_i ks xs j hd hk
  split at f2
  .rename_i x hx
   cases f2
   obtain ⟨p,vs,ev,hp,hl,rs⟩:=yGx l2.ok hd (l2.rep r1)
   obtain ⟨v,h3,h4⟩:=(yAe j rs hl).1 _ hx
   have:=ywu hk r2
   subst this
   exact ⟨p,v,ev,by rw [<- h3];exact DGet.r hp,q _ W2 rfl (l1.trans l2) h4⟩
  .cases f2
 .cases f2
def yBj (ed ek ev:XE):XS:=fun ρ h=>ob (ev ρ h) fun v h1=>ob (ed ρ h1) fun d h2=>ob (ek ρ h2) fun k h3=>match d,keyOf k with
 | .loc n,some j=>(match h3[n]? with|some (.dct ks xs)=>if ks.length<1000 then some (.nx ρ,h3.set n (.dct (yfU ks xs j v).1 (yfU ks xs j v).2)) else none|_=>none)
 | _,_=>none
theorem yGz {td ty tv:TE}{ed ek ev:XE}(a:ycD K td ed) (b:ycD K ty ek) (c:ycD K tv ev):ynj K (yNr td ty tv) (yBj ed ek ev):=by
 intro W0 W ρ σ D o h' g e q
 obtain ⟨v,h1,e1,f1⟩:=yl e
 obtain ⟨x,h2,e2,f2⟩:=yl f1
 obtain ⟨i,h3,e3,f3⟩:=yl f2
 refine c W0 W ρ σ _ v h1 g e1 fun vv W1 w1 l1 r1=>?_
 subst w1
 refine a W0 W1 ρ σ _ x h2 (g.step l1) e2 fun vx W2 w2 l2 r2=>?_
 subst w2
 refine b W0 W2 ρ σ _ i h3 (g.step (l1.trans l2)) e3 fun vi W3 w3 l3 r3=>?_
 subst w3
 have w:=l3.ok
 split at f3
 .rename_i n j hk
  split at f3
  .rename_i ks xs hn
   split at f3
   .rename_i hc
    cases f3
    obtain ⟨p,ep,hm,hf,us,hp,hl,rs⟩:=w.loc hn (l3.rep r2)
    have:=ywu hk r3
    subst this
    have hput:=yAf j vv ks us hl
    have rv:=(l2.trans l3).rep r1
    have key:∃ us',putK (ks.zip us) j vv=(yfU ks xs j v).1.zip us'/\us'.length=(yfU ks xs j v).1.length/\yei K W3 (yfU ks xs j v).2 us':=by
     unfold yfU
     by_cases hj:yGw ks j=true
     .rw [if_pos hj] at hput ⊢
      exact ⟨_,hput,by rw [yuG];exact hl,rs.setK ks j rv⟩
     .rw [if_neg hj] at hput ⊢
      exact ⟨_,hput,by rw [length_append,length_append,hl];rfl,rs.snoc rv⟩
    obtain ⟨us',p1,p2,p3⟩:=key
    refine ⟨p,_,ep,DPut.k hp (by rw [length_zip,hl];exact yvV (by omega)),?_⟩
    rw [p1]
    have l4:Le K W3 (yGu W3 n p (.dK ((yfU ks xs j v).1.zip us')) (.dct (yfU ks xs j v).1 (yfU ks xs j v).2)):=ylW w hn hm hf ⟨hf,us',yF,p2,p3⟩
    have l:=l1.trans (l2.trans (l3.trans l4))
    exact q _ σ rfl l.lf (g.step l)
   .cases f3
  .cases f3
 .cases f3
def yBk:XO:=fun _ h=>some (.dct [] [],h)
theorem yGA:yyv K yIC yBk:=by
 intro W0 W ρ σ Q d h' g e q
 cases e
 intro p hp
 exact q p (yph W p (.dK [])) rfl (yeJ g.ok hp) (g.ok.out hp) hp (fun z=>by cases z) ⟨g.ok.ff hp,[],yF,rfl,rfl⟩
end PX
namespace PX
open PySem L2
variable {K:Ck}
def itemsOf (x:PV) (h:AH):Option (List PV):=match x with|.tup xs=>some xs|_=>listOf x h
theorem yyG {W:Wd}(w:WOk K W) {x:PV}{v:V}{xs:List PV}(e:itemsOf x W.h=some xs) (r:yeh K W x v):∃ a vs,v=.ref a/\(SqL K.K W.H a vs\/SqT K.K W.H a vs)/\yei K W xs vs:=by
 unfold itemsOf at e
 split at e
 .cases e
  obtain ⟨a,vs,ev,hs,rs⟩:=r
  exact ⟨a,vs,ev,.inr (yfx w hs),rs⟩
 .obtain ⟨a,vs,ev,hs,rs⟩:=yow w e r
  exact ⟨a,vs,ev,.inl hs,rs⟩
def svs:List PV->Option (List V)
 | []=>some []
 | x::xs=>match sv x,svs xs with|some v,some vs=>some (v::vs)|_,_=>none
theorem yDn {F:Hp}{m:List Addr}:∀ {xs:List PV}{us vs:List V},svs xs=some us->RepL K F m xs vs->vs=us/\us.all ynn=true
 | [],_,_,e,r=>by cases e;exact ⟨r,rfl⟩
 | x::xs,us,_,e,⟨v,r,ev,h,l⟩=>by
  unfold svs at e
  split at e
  .rename_i u us' e1 e2
   cases e
   obtain ⟨h1,h2⟩:=yDn e2 l
   have hv:v=u:=by cases x<;>cases e1<;>exact h
   have hf:ynn u=true:=by cases x<;>cases e1<;>rfl
   exact ⟨by rw [ev,hv,h1],by rw [List.all_cons,hf,h2];rfl⟩
  .cases e
theorem yuH {x:PV}{u:V}(e:sv x=some u):ynn u=true:=by cases x<;>cases e<;>rfl
def yQc (neg:Bool):P2:=fun x y h=>match sv x,itemsOf y h with|some v,some ys=>(match svs ys with|some us=>some (.bl (if neg then !inV v us else inV v us),h)|none=>none)|_,_=>none
theorem yQd {neg:Bool}:ycS K (rIn K.K neg) (yQc neg):=by
 intro W x y v u Q z h' w rx ry e q
 unfold yQc at e
 split at e
 .rename_i v' ys ev ey
  split at e
  .rename_i us hu
   cases e
   obtain rfl:=ylp ev rx
   obtain ⟨a,vs,rfl,hs,rs⟩:=yyG w ey ry
   obtain ⟨rfl,hf⟩:=yDn hu rs
   exact ⟨a,vs,rfl,hs,yuH ev,hf,q _ W rfl (.refl w) rfl⟩
  .cases e
 .cases e
end PX
namespace PX
open PySem L2
theorem yQe [i:Decidable True]:decide True=true:=by simp
theorem yQf [i:Decidable False]:decide False=false:=by simp
theorem yQg:(false=true)=False:=by simp
theorem yQh:(true=false)=False:=by simp
theorem yGB {g:XG}{s:XS}{xs:List PV}(I:Nat->PSt->AH->Prop) (R:PV->AH->Prop) {ρ:PSt}{h:AH}(h0:I 0 ρ h)
  (step:∀ (i:Nat) (x:PV) (ρ:PSt) (h:AH),xs[i]?=some x->I i ρ h->∃ ρ1 o h',g x ρ=some ρ1/\s ρ1 h=some (o,h')/\(match o with|.nx ρ'=>I (i+1) ρ' h'|.ct ρ'=>I (i+1) ρ' h'|.bk _=>False|.rt y=>R y h')) :
  (∃ ρ' h',ypi g s xs ρ h=some (.nx ρ',h')/\I xs.length ρ' h')\/∃ y h',ypi g s xs ρ h=some (.rt y,h')/\R y h':=by
 have key:∀ (n i:Nat) (ρ:PSt) (h:AH),i+n=xs.length->I i ρ h->(∃ ρ' h',ypi g s (xs.drop i) ρ h=some (.nx ρ',h')/\I xs.length ρ' h')\/∃ y h',ypi g s (xs.drop i) ρ h=some (.rt y,h')/\R y h':=by
  intro n
  induction n with
  | zero =>
   intro i ρ h hi hI
   have:i=xs.length:=by omega
   subst this
   rw [List.drop_length]
   exact .inl ⟨ρ,h,rfl,hI⟩
  | succ n ih =>
   intro i ρ h hi hI
   have hlt:i<xs.length:=by omega
   obtain ⟨ρ1,o,h',e1,e2,e3⟩:=step i xs[i] ρ h (List.getElem?_eq_getElem hlt) hI
   rw [List.drop_eq_getElem_cons hlt,yNh,e1,bind_some,e2,ycU]
   cases o with
   | nx ρ'=>exact ih (i+1) ρ' h' (by omega) e3
   | ct ρ'=>exact ih (i+1) ρ' h' (by omega) e3
   | bk ρ'=>exact e3.elim
   | rt y=>exact .inr ⟨y,h',rfl,e3⟩
 simpa using key xs.length 0 ρ h (by omega) h0
theorem yDo {g:XG}{s:XS}{xs:List PV}(I:Nat->PSt->AH->Prop) {ρ:PSt}{h:AH}(h0:I 0 ρ h)
  (step:∀ (i:Nat) (x:PV) (ρ:PSt) (h:AH),xs[i]?=some x->I i ρ h->∃ ρ1 ρ' h',g x ρ=some ρ1/\(s ρ1 h=some (.nx ρ',h')\/s ρ1 h=some (.ct ρ',h'))/\I (i+1) ρ' h') :
  ∃ ρ' h',ypi g s xs ρ h=some (.nx ρ',h')/\I xs.length ρ' h':=by
 rcases yGB I (fun _ _=>False) h0 (fun i x ρ h hx hI=>by
  obtain ⟨ρ1,ρ',h',e1,e2,e3⟩:=step i x ρ h hx hI
  rcases e2 with e2|e2
  .exact ⟨ρ1,.nx ρ',h',e1,e2,e3⟩
  .exact ⟨ρ1,.ct ρ',h',e1,e2,e3⟩) with q|⟨_,_,_,q⟩
 .exact q
 .exact q.elim
theorem yAg {c:XT}{s:XS}{n:Nat}{ρ:PSt}{h:AH}:whl c s (n+1) ρ h=ob (c ρ h) fun k h1=>if k=true then ob (s ρ h1) fun o h2=>(match o with|.nx ρ'=>whl c s n ρ' h2|.ct ρ'=>whl c s n ρ' h2|.bk ρ'=>some (.nx ρ',h2)|.rt y=>some (.rt y,h2)) else some (.nx ρ,h1):=rfl
theorem yuI {α:Type}{e:XE}{inn:PV->PSt}(f g:α->PV):∀ {ts:List α}{h:AH},(∀ t∈ts,e (inn (f t)) h=some (g t,h))->yuB e inn (ts.map f) h=some (ts.map g,h)
 | [],_,_=>rfl
 | t::ts,h,k=>by
  show ob (e (inn (f t)) h) (fun y h1=>ob (yuB e inn (ts.map f) h1) fun ys h2=>some (y::ys,h2))=_
  rw [k t mem_cons_self,ycU,yuI f g fun y hy=>k y (mem_cons_of_mem _ hy),ycU]
  rfl
theorem yID {i:Nat}{e:XE}{ρ:PSt}{h:AH}{xs:List PV}(hx:ρ[i]?=some (.own (.lst xs))):ysX i e ρ h=ob (e ρ h) fun x h1=>if xs.length<100000 then some (.nx (ρ.set i (.own (.lst (xs++[x])))),h1) else none:=by
 unfold ysX
 rw [hx]
theorem yQi {α:Type}{a0:α}{xs:List α}:atI (a0::xs) 0=some a0:=ydL (j:=0) rfl
theorem yRB {α:Type}{a0 a1:α}{xs:List α}:atI (a0::a1::xs) 1=some a1:=ydL (j:=1) rfl
theorem yRC {α:Type}{a0 a1 a2:α}{xs:List α}:atI (a0::a1::a2::xs) 2=some a2:=ydL (j:=2) rfl
theorem yns {h:AH}{n:Nat}{xs:List PV}(e:h[n]?=some (.lst xs)):yT [.loc n] h=some (.lst xs,h):=by
 unfold yT listOf
 simp only [e]
theorem yuJ {h:AH}{n:Nat}{xs:List PV}(e:h[n]?=some (.lst xs)):yej [.loc n] h=some (.int xs.length,h):=by
 unfold yej yDb
 simp only [e]
theorem yyH {h:AH}{n:Nat}{xs:List PV}{y:PV}(e:h[n]?=some (.lst xs)) (hl:xs.length<100000):yqJ (.loc n) [y] h=some (.non,h.set n (.lst (xs++[y]))):=by
 unfold yqJ
 simp only [e]
 rw [if_pos hl]
theorem ygg {h:AH}{n:Nat}{xs:List PV}(e:h[n]?=some (.lst xs)):yjw (.loc n) h=true:=by
 unfold yjw ycT
 simp only [e]
end PX
namespace PX
open PySem L2
variable {K:Ck}
section
variable {ta:TE}{ea:XE}
def yGC (i:Nat) (e:XE):XS:=fun ρ h=>match ρ[i]? with
 | some (.own (.lst xs))=>ob (e ρ h) fun x h1=>(match x with|.lst ys=>if xs.length+ys.length<=100000 then some (.nx (ρ.set i (.own (.lst (xs++ys)))),h1) else none|_=>none)
 | _=>none
theorem yGD (i:Nat) (a:ycD K ta ea):ynj K (yCf (tBM K.K "list" yCC (yBW i) (yya ta yFz))) (yGC i ea):=by
 intro W0 W ρ σ D o h' g e q
 unfold yGC at e
 split at e
 .rename_i xs0 hx
  obtain ⟨x,h1,e1,f1⟩:=yl e
  split at f1
  .rename_i ys
   split at f1
   .rename_i hlen
    cases f1
    obtain ⟨p,a1,a2,a3,a4,hf,vs,hp,r⟩:=g.own i _ hx
    refine ⟨.ref p,a1,.inl ⟨rfl,_,SqL.of hp⟩,?_⟩
    refine a W0 W ρ σ _ _ _ g e1 fun v W1 w1 l1 r1=>?_
    obtain ⟨b,us,rfl,hb,rb⟩:=r1
    refine ⟨p,b,vs,us,rfl,rfl,l1.keep _ _ hp a2,l1.ok.le _ _ hb,by rw [r.len,rb.len];exact yJX hlen,?_⟩
    have g1:=g.step l1
    obtain ⟨p',b1,b2,b3,b4,b5,vs',b6,b7⟩:=g1.own i _ hx
    rw [a1] at b1
    cases b1
    rw [l1.keep _ _ hp a2] at b6
    cases b6
    exact q (yGb W1 p (.lst (vs++us))) σ w1 (yCU l1 b2) (g1.mut hx a1 b2 b3 b5 (fun z=>by cases z) ⟨b5,_,yF,b7.app rb⟩)
   .cases f1
  .cases f1
 .cases e
def yGE (i:Nat):XE:=fun ρ h=>match ρ[i]? with|some (.own (.lst xs))=>some (.int xs.length,h)|_=>none
theorem yGF (i:Nat):ycD K (tCB (yMv K.K) (yya (yBW i) yFz)) (yGE i):=by
 intro W0 W ρ σ Q x h' g e q
 unfold yGE at e
 split at e
 .rename_i xs hx
  cases e
  obtain ⟨p,a1,a2,a3,a4,hf,vs,hp,r⟩:=g.own i _ hx
  refine ⟨.ref p,a1,p,vs,rfl,.inl (SqL.of hp),?_⟩
  rw [r.len]
  exact q _ W rfl (.refl g.ok) rfl
 .cases e
end
end PX
namespace PX
open PySem L2
variable {K:Ck}
end PX
namespace PX
open PySem L2
variable {K:Ck}
def Odd (K:PySem.W.Frag) (H:Hp):Prop:=∃ a o ob,H a=some o/\K.lookup a=some ob
inductive EqR (K:PySem.W.Frag) (H:Hp):Nat->V->V->Bool->Prop where
 | flat {n:Nat}{x y:V}(fx:ynn x=true) (fy:ynn y=true):EqR K H n x y (eqV x y)
 | same {n:Nat}{a:Addr}:EqR K H n (.ref a) (.ref a) true
 | odd {n:Nat}{x y:V}{b:Bool}(h:Odd K H):EqR K H n x y b
 | nt {n:Nat}{b:Addr}{ys:List V}(hb:SqT K H b ys):EqR K H (n+1) .non (.ref b) false
 | tn {n:Nat}{b:Addr}{ys:List V}(hb:SqT K H b ys):EqR K H (n+1) (.ref b) .non false
 | lst {n:Nat}{a b:Addr}{xs ys:List V}{e:Nat->Bool}(ha:H a=some (.lst xs)) (hb:H b=some (.lst ys)) (hl:xs.length=ys.length) (hne:a≠b) (he:∀ j x y,xs[j]?=some x->ys[j]?=some y->EqR K H n x y (e j)):EqR K H (n+1) (.ref a) (.ref b) ((List.range xs.length).all e)
 | lstN {n:Nat}{a b:Addr}{xs ys:List V}(ha:H a=some (.lst xs)) (hb:H b=some (.lst ys)) (hl:xs.length≠ys.length):EqR K H (n+1) (.ref a) (.ref b) false
 | tup {n:Nat}{a b:Addr}{xs ys:List V}{e:Nat->Bool}(ha:SqT K H a xs) (hb:SqT K H b ys) (hne:a≠b) (he:∀ j x y,xs[j]?=some x->ys[j]?=some y->EqR K H n x y (e j)):EqR K H (n+1) (.ref a) (.ref b) ((List.range (min xs.length ys.length)).all e && xs.length == ys.length)
inductive RcR (K:PySem.W.Frag) (H:Hp):V->V->Bool->Prop where
 | nt {b:Addr}{ys:List V}(hb:SqT K H b ys):RcR K H .non (.ref b) false
 | tn {b:Addr}{ys:List V}(hb:SqT K H b ys):RcR K H (.ref b) .non false
 | lst {a b:Addr}{xs ys:List V}{e:Nat->Bool}(ha:H a=some (.lst xs)) (hb:H b=some (.lst ys)) (hl:xs.length=ys.length) (he:∀ j x y,xs[j]?=some x->ys[j]?=some y->EqR K H 40 x y (e j)):RcR K H (.ref a) (.ref b) ((List.range xs.length).all e)
 | lstN {a b:Addr}{xs ys:List V}(ha:H a=some (.lst xs)) (hb:H b=some (.lst ys)) (hl:xs.length≠ys.length):RcR K H (.ref a) (.ref b) false
 | tup {a b:Addr}{xs ys:List V}{e:Nat->Bool}(ha:SqT K H a xs) (hb:SqT K H b ys) (he:∀ j x y,xs[j]?=some x->ys[j]?=some y->EqR K H 40 x y (e j)):RcR K H (.ref a) (.ref b) ((List.range (min xs.length ys.length)).all e && xs.length == ys.length)
def yRD (K:PySem.W.Frag):R2:=fun x y H Q=>∃ b,RcR K H x y b/\Q (.bl b) H
def yRE (K:PySem.W.Frag):R2:=fun x y H Q=>∃ b,RcR K H x y b/\Q (.bl (!b)) H
noncomputable def ypZ (f:PV->PV->Option Bool):List PV->List PV->Option Bool
 | x::xs,y::ys=>(match f x y,ypZ f xs ys with|some b,some c=>some (b && c)|_,_=>none)
 | _,_=>some true
def pairE (f:PV->PV->Option Bool) (h:AH) (x y:PV):Option Bool:=match x,y with
 | .tup xs,.tup ys=>(match ypZ f xs ys with|some b=>some (b && xs.length == ys.length)|none=>none)
 | .non,.tup _=>some false
 | .tup _,.non=>some false
 | x,y=>(match ycT x h,ycT y h with|some xs,some ys=>if xs.length=ys.length then ypZ f xs ys else some false|_,_=>none)
def eqP:Nat->AH->PV->PV->Option Bool
 | 0,_,_,_=>none
 | n+1,h,x,y=>match sv x,sv y with
  | some u,some v=>some (eqV u v)
  | _,_=>pairE (eqP n h) h x y
theorem yuK:∀ {v:V},ynn v=true->eqV v v=true
 | .non,_=>rfl
 | .bl b,_=>by cases b<;>rfl
 | .int i,_=>by simp [eqV]
 | .str s,_=>by simp [eqV]
noncomputable def unV:Value->Option V
 | .none=>some .non
 | .bool b=>some (.bl b)
 | .int i _=>some (.int i)
 | .str x _=>some (.str x)
 | .bytes b _=>some (.byt b)
 | .float b _=>some (.flt b)
 | .ref a=>some (.ref a)
 | .type n=>some (.ty n)
 | _=>none
theorem yIE:∀ {v:V}{u:Value},RelV v u->unV u=some v
 | .non,_,h=>by rw [show _=Value.none from h];rfl
 | .bl _,_,h=>by rw [show _=Value.bool _ from h];rfl
 | .int _,_,⟨_,h⟩=>by rw [h];rfl
 | .str _,_,⟨_,h⟩=>by rw [h];rfl
 | .byt _,_,⟨_,h⟩=>by rw [h];rfl
 | .flt _,_,⟨_,h⟩=>by rw [h];rfl
 | .ref _,_,h=>by rw [show _=Value.ref _ from h];rfl
 | .ty _,_,h=>by rw [show _=Value.type _ from h];rfl
theorem yKs {v w:V}{u:Value}(h1:RelV v u) (h2:RelV w u):v=w:=Option.some.inj ((yIE h1).symm.trans (yIE h2))
theorem yGG {vs ws:List V}{us:List Value}(h1:Vals vs us):Vals ws us->vs=ws:=by
 induction h1 generalizing ws with
 | nil=>intro h2;cases h2;rfl
 | cons r _ ih=>intro h2;cases h2 with|cons r2 t2=>rw [yKs r r2,ih t2]
theorem yNs {F H:Hp}{a:Addr}{vs ws:List V}(s:Same F H) (h1:TpAt K.K F a vs) (h2:TpAt K.K F a ws):vs=ws\/Odd K.K H:=by
 rcases h1 with h1|⟨o,its,n,e1,e2,e3,e4,e5⟩
 .rcases h2 with h2|⟨o,its,n,e1,e2,e3,e4,e5⟩
  .rw [h1] at h2;cases h2;exact .inl rfl
  .exact .inr ⟨a,_,o,s _ _ h1,e1⟩
 .rcases h2 with h2|⟨o',its',n',e1',e2',e3',e4',e5'⟩
  .exact .inr ⟨a,_,o,s _ _ h2,e1⟩
  .rw [e1] at e1';cases e1'
   rw [e3] at e3';cases e3'
   exact .inl (yGG e5 e5')
theorem yqK {f:PV->PV->Option Bool}{W:Wd}(hf:∀ x y v b,f x y=some b->yeh K W x v->yeh K W y v->b=true\/Odd K.K W.H):∀ {xs ys:List PV}{vs:List V}{c:Bool},yei K W xs vs->yei K W ys vs->ypZ f xs ys=some c->c=true\/Odd K.K W.H
 | [],_,_,_,_,_,e=>by simp [ypZ] at e;exact .inl e
 | _::_,[],_,_,_,_,e=>by simp [ypZ] at e;exact .inl e
 | x::xs,y::ys,_,c,⟨v,r,e1,h1,l1⟩,⟨u,q,e2,h2,l2⟩,e=>by
  rw [e1] at e2
  cases e2
  unfold ypZ at e
  cases eb:f x y with
  | none=>rw [eb] at e;cases e
  | some b =>
   cases ec:ypZ f xs ys with
   | none=>rw [eb,ec] at e;cases e
   | some c' =>
    rw [eb,ec] at e
    cases e
    rcases hf x y _ b eb h1 h2 with z|z
    .rcases yqK hf l1 l2 ec with z'|z'
     .exact .inl (by rw [z,z'];rfl)
     .exact .inr z'
    .exact .inr z
theorem yBl {f:PV->PV->Option Bool}{W:Wd}(w:WOk K W) (hf:∀ x y v b,f x y=some b->yeh K W x v->yeh K W y v->b=true\/Odd K.K W.H) {x y:PV}{v:V}{b:Bool}(e:pairE f W.h x y=some b) (rx:yeh K W x v) (ry:yeh K W y v):b=true\/Odd K.K W.H:=by
 unfold pairE at e
 split at e
 .rename_i xs ys
  obtain ⟨a,vs,ev,ha,ra⟩:=rx
  obtain ⟨a',vs',ev',ha',ra'⟩:=ry
  rw [ev] at ev'
  cases ev'
  rcases yNs w.le ha ha' with z|z
  .subst z
   cases ec:ypZ f xs ys with
   | none=>rw [ec] at e;cases e
   | some c =>
    rw [ec] at e
    cases e
    rcases yqK hf ra ra' ec with z|z
    .left
     rw [z,<- ra.len,<- ra'.len]
     simp
    .exact .inr z
  .exact .inr z
 .obtain ⟨a',vs',ev',ha',ra'⟩:=ry
  have rx:v=.non:=rx
  rw [rx] at ev';cases ev'
 .obtain ⟨a',vs',ev',ha',ra'⟩:=rx
  have ry:v=.non:=ry
  rw [ry] at ev';cases ev'
 .split at e
  .rename_i xs ys hx hy
   obtain ⟨a,vs,ev,ha,ra⟩:=ybn w hx rx
   obtain ⟨a',vs',ev',ha',ra'⟩:=ybn w hy ry
   rw [ev] at ev'
   cases ev'
   rw [ha] at ha'
   cases ha'
   rw [if_pos (by rw [<- ra.len,<- ra'.len])] at e
   exact yqK hf ra ra' e
  .cases e
theorem yuL {W:Wd}(w:WOk K W):∀ (n:Nat) (x y:PV) (v:V) (b:Bool),eqP n W.h x y=some b->yeh K W x v->yeh K W y v->b=true\/Odd K.K W.H
 | 0,_,_,_,_,e,_,_=>by cases e
 | n+1,x,y,v,b,e,rx,ry=>by
  unfold eqP at e
  split at e
  .rename_i u u' hu hu'
   cases e
   rw [<- ylp hu rx,<- ylp hu' ry]
   exact .inl (yuK (by rw [ylp hu rx];exact yuH hu))
  .exact yBl w (yuL w n) e rx ry
theorem yqL {f:PV->PV->Option Bool}{W:Wd}{n:Nat}(hf:∀ x y v u b,f x y=some b->yeh K W x v->yeh K W y u->EqR K.K W.H n v u b):∀ {xs ys:List PV}{vs us:List V}{c:Bool},yei K W xs vs->yei K W ys us->ypZ f xs ys=some c ->
  ∃ e:Nat->Bool,(∀ j v u,vs[j]?=some v->us[j]?=some u->EqR K.K W.H n v u (e j))/\c=(List.range (min vs.length us.length)).all e
 | [],_,_,_,c,h1,_,e=>by
  rw [show _=[] from h1]
  simp [ypZ] at e
  exact ⟨fun _=>true,fun j v u hv=>by simp at hv,by simp [e]⟩
 | _::_,[],_,_,c,_,h2,e=>by
  rw [show _=[] from h2]
  simp [ypZ] at e
  exact ⟨fun _=>true,fun j v u _ hu=>by simp at hu,by simp [e]⟩
 | x::xs,y::ys,_,_,c,⟨v,r,e1,h1,l1⟩,⟨u,q,e2,h2,l2⟩,e=>by
  subst e1 e2
  unfold ypZ at e
  cases eb:f x y with
  | none=>rw [eb] at e;cases e
  | some b =>
   cases ec:ypZ f xs ys with
   | none=>rw [eb,ec] at e;cases e
   | some c' =>
    rw [eb,ec] at e
    cases e
    obtain ⟨e',k1,k2⟩:=yqL hf l1 l2 ec
    refine ⟨fun j=>match j with|0=>b|j+1=>e' j,fun j v' u' hv hu=>?_,?_⟩
    .cases j with
     | zero =>
      simp at hv hu
      subst hv hu
      exact hf x y _ _ b eb h1 h2
     | succ j=>exact k1 j v' u' (by simpa using hv) (by simpa using hu)
    .rw [k2,length_cons,length_cons,show min (r.length+1) (q.length+1)=min r.length q.length+1 by omega,List.range_succ_eq_map,List.all_cons,List.all_map]
     rfl
theorem yAh {W:Wd}(w:WOk K W):∀ (n:Nat) (x y:PV) (v u:V) (b:Bool),eqP n W.h x y=some b->yeh K W x v->yeh K W y u->EqR K.K W.H n v u b
 | 0,_,_,_,_,_,e,_,_=>by cases e
 | n+1,x,y,v,u,b,e,rx,ry=>by
  have e0:=e
  unfold eqP at e
  split at e
  .rename_i v' u' hv hu
   cases e
   rw [ylp hv rx,ylp hu ry]
   exact .flat (yuH hv) (yuH hu)
  .unfold pairE at e
   split at e
   .rename_i xs ys _
    obtain ⟨a,vs,ev,ha,ra⟩:=rx
    obtain ⟨a',us,eu,ha',ra'⟩:=ry
    by_cases hab:a=a'
    .subst hab
     rcases yuL w (n+1) _ _ v b e0 ⟨a,vs,ev,ha,ra⟩ (by rw [ev,<- eu];exact ⟨a,us,eu,ha',ra'⟩) with this|z
     .rw [this,ev,eu]
      exact .same
     .exact .odd z
    .cases ec:ypZ (eqP n W.h) xs ys with
     | none=>rw [ec] at e;cases e
     | some c =>
      rw [ec] at e
      cases e
      obtain ⟨e',k1,k2⟩:=yqL (yAh w n) ra ra' ec
      rw [ev,eu,k2,<- ra.len,<- ra'.len]
      exact .tup (yfx w ha) (yfx w ha') hab k1
   .obtain ⟨a',us,eu,ha',ra'⟩:=ry
    cases e
    rw [show v=.non from rx,eu]
    exact .nt (yfx w ha')
   .obtain ⟨a',us,eu,ha',ra'⟩:=rx
    cases e
    rw [show u=.non from ry,eu]
    exact .tn (yfx w ha')
   .split at e
    .rename_i xs ys hx hy
     obtain ⟨a,vs,ev,ha,ra⟩:=ybn w hx rx
     obtain ⟨a',us,eu,ha',ra'⟩:=ybn w hy ry
     by_cases hab:a=a'
     .subst hab
      rcases yuL w (n+1) _ _ v b e0 rx (by rw [ev,<- eu];exact ry) with this|z
      .rw [this,ev,eu]
       exact .same
      .exact .odd z
     .split at e
      .rename_i hl
       obtain ⟨e',k1,k2⟩:=yqL (yAh w n) ra ra' e
       have hl':vs.length=us.length:=by rw [ra.len,ra'.len,hl]
       rw [ev,eu,k2,<- hl',Nat.min_self]
       exact .lst ha ha' hl' hab k1
      .rename_i hl
       cases e
       rw [ev,eu]
       exact .lstN ha ha' (by rw [ra.len,ra'.len];exact hl)
    .cases e
def yBX:P2:=fun x y h=>match pairE (eqP 40 h) h x y with|some b=>some (.bl b,h)|none=>none
def yAi:P2:=fun x y h=>match pairE (eqP 40 h) h x y with|some b=>some (.bl (!b),h)|none=>none
theorem yAj {W:Wd}(w:WOk K W) {x y:PV}{v u:V}{b:Bool}(e:pairE (eqP 40 W.h) W.h x y=some b) (rx:yeh K W x v) (ry:yeh K W y u):RcR K.K W.H v u b:=by
 unfold pairE at e
 split at e
 .rename_i xs ys
  obtain ⟨a,vs,ev,ha,ra⟩:=rx
  obtain ⟨a',us,eu,ha',ra'⟩:=ry
  cases ec:ypZ (eqP 40 W.h) xs ys with
  | none=>rw [ec] at e;cases e
  | some c =>
   rw [ec] at e
   cases e
   obtain ⟨e',k1,k2⟩:=yqL (yAh w 40) ra ra' ec
   rw [ev,eu,k2,<- ra.len,<- ra'.len]
   exact .tup (yfx w ha) (yfx w ha') k1
 .obtain ⟨a',us,eu,ha',ra'⟩:=ry
  cases e
  rw [show v=.non from rx,eu]
  exact .nt (yfx w ha')
 .obtain ⟨a',us,eu,ha',ra'⟩:=rx
  cases e
  rw [show u=.non from ry,eu]
  exact .tn (yfx w ha')
 .split at e
  .rename_i xs ys hx hy
   obtain ⟨a,vs,ev,ha,ra⟩:=ybn w hx rx
   obtain ⟨a',us,eu,ha',ra'⟩:=ybn w hy ry
   split at e
   .rename_i hl
    obtain ⟨e',k1,k2⟩:=yqL (yAh w 40) ra ra' e
    have hl':vs.length=us.length:=by rw [ra.len,ra'.len,hl]
    rw [ev,eu,k2,<- hl',Nat.min_self]
    exact .lst ha ha' hl' k1
   .rename_i hl
    cases e
    rw [ev,eu]
    exact .lstN ha ha' (by rw [ra.len,ra'.len];exact hl)
  .cases e
theorem yGH:ycS K (yRD K.K) yBX:=by
 intro W x y v u Q z h' w rx ry e q
 unfold yBX at e
 split at e
 .rename_i b hb
  cases e
  exact ⟨b,yAj w hb rx ry,q _ W rfl (.refl w) rfl⟩
 .cases e
theorem yDp:ycS K (yRE K.K) yAi:=by
 intro W x y v u Q z h' w rx ry e q
 unfold yAi at e
 split at e
 .rename_i b hb
  cases e
  exact ⟨b,yAj w hb rx ry,q _ W rfl (.refl w) rfl⟩
 .cases e
end PX
namespace PX
open PySem L2
variable {K:Ck}
def yeE:XS:=fun _ _=>none
theorem yGI:ynj K yHX yeE:=fun _ _ _ _ _ _ _ _ e _=>by cases e
def yk (k:Nat) (m:Str) (f:Fn) (e:XE) (as:XA):XE:=fun ρ h=>ob (e ρ h) fun x h1=>match yjv x h1 with
 | some (k',ns,_)=>if k'=k/\m∉ns then ob (as ρ h1) fun ys h2=>f (x::ys) h2 else none
 | none=>none
theorem ywx {k n:Nat}{m:Str}{f:Fn}{ex:XK}{ta:TE}{t:TA}{ea:XE}{as:XA}(a:ycD K ta ea) (b:yxR K t as) (hn:∀ ρ h xs h',as ρ h=some (xs,h')->xs.length=n) :
  ycD K (yJr (K.A k) m (spE K (n+1) f) [] ex ta t) (yk k m f ea as):=by
 intro W0 W ρ σ Q z h' g e q
 obtain ⟨x,h1,e1,f1⟩:=yl e
 refine a W0 W ρ σ _ x h1 g e1 fun v W1 w1 l1 r1=>?_
 subst w1
 split at f1
 .rename_i k' ns xs hi
  split at f1
  .rename_i hc
   obtain ⟨ys,h2,e2,f2⟩:=yl f1
   obtain ⟨p,dx,vs,ev,hp,hl,rs⟩:=ynp l1.ok hi r1
   rw [hc.1] at hp
   refine ⟨p,dx,_,ev,hp,ygf hc.2,?_⟩
   refine b W0 W1 ρ σ _ ys h2 (g.step l1) e2 fun us W2 w2 l2 r2=>?_
   subst w2
   rw [append_nil]
   exact ⟨W2,x::ys,z,h',rfl,l2.ok,⟨v,us,rfl,l2.rep r1,r2⟩,by rw [length_cons,hn _ _ _ _ e2],f2,fun u W3 w3 l3 r3=>q u W3 w3 ((l1.trans l2).trans l3) r3⟩
  .cases f1
 .cases f1
def yfV (cs:List Nat) (f:Str) (eo ev:XE):XS:=fun ρ h=>ob (ev ρ h) fun y h1=>ob (eo ρ h1) fun x h2=>match x with
 | .loc n=>(match h2[n]? with|some (.ins k ns xs)=>if k∈cs/\ns.length<1000 then some (.nx ρ,h2.set n (.ins k (putN f y ns xs).1 (putN f y ns xs).2)) else none|_=>none)
 | _=>none
theorem yGJ {cs:List Nat}{f:Str}{ta tv:TE}{ea ev:XE}(hc:∀ k∈cs,Cls K.K (K.A k)/\NoAttr K.K (K.A k) f) (a:ycD K ta ea) (c:ycD K tv ev):ynj K (yOP K.K ta tv f) (yfV cs f ea ev):=by
 intro W0 W ρ σ D o h' g e q
 obtain ⟨y,h1,e1,f1⟩:=yl e
 obtain ⟨x,h2,e2,f2⟩:=yl f1
 refine c W0 W ρ σ _ y h1 g e1 fun vy W1 w1 l1 r1=>?_
 subst w1
 refine a W0 W1 ρ σ _ x h2 (g.step l1) e2 fun vx W2 w2 l2 r2=>?_
 subst w2
 have w:=l2.ok
 split at f2
 .rename_i n
  split at f2
  .rename_i k ns xs hn
   split at f2
   .rename_i hk
    cases f2
    obtain ⟨p,ep,hm,hf,dx,us,hp,hl,rs⟩:=w.loc hn r2
    obtain ⟨us',p1,p2,p3⟩:=rs.putN (f:=f) hl (l2.rep r1)
    refine ⟨p,_,dx,_,ep,hp,(hc k hk.1).1,(hc k hk.1).2,by rw [length_zip,hl];simpa using hk.2,?_⟩
    rw [p1]
    have l4:Le K W2 (yGu W2 n p (.ins (K.A k) dx ((putN f y ns xs).1.zip us')) (.ins k (putN f y ns xs).1 (putN f y ns xs).2)):=ylW w hn hm hf ⟨hf,dx,us',yF,p2,p3⟩
    have l:=l1.trans (l2.trans l4)
    exact q _ σ rfl l.lf (g.step l)
   .cases f2
  .cases f2
 .cases f2
end PX
namespace PX
open PySem L2
variable {K:Ck}
def yyI (r d:Addr):HO:=.ext fun h=>h.get? r=some { cls:=.type "dict_items",data:=.fields #[.ref d] }
noncomputable def yIF:V->List V->Hp->VK->Prop:=fun x vs H Q=>∃ d kvs,x=.ref d/\vs=[]/\H d=some (.dK kvs)/\∀ r,H r=none->Q (.ref r) (upd H r (yyI r d))
noncomputable def yAk (H:Hp) (as:List Addr) (ts:List (List V)):Hp:=fun b=>match (as.zip ts).lookup b with|some t=>some (.tup t)|none=>H b
def yOC (H:Hp) (p:Addr) (as:List Addr) (ts:List (List V)):Hp:=upd (yAk H as ts) p (.lst (as.map V.ref))
def rSI:List V->Hp->VK->Prop:=fun xs H Q=>∃ (r d:Addr) (kvs:List (Key×V)) (ns:List Int),xs=[.ref r]/\H r=some (yyI r d)/\H d=some (.dK kvs)/\kvs.map (·.1)=ns.map .inl/\kvs.length<2 /\
 ∀ (p:Addr) (as:List Addr) (q:List Nat),q.Perm (List.range ns.length)->q.Pairwise (fun i j=>ns.getD i 0<=ns.getD j 0)->ns.Nodup->as.length=q.length->(∀ a∈p::as,H a=none)->(p::as).Nodup ->
  Q (.ref p) (yOC H p as (q.map fun i=>[V.int (ns.getD i 0),(kvs.map (·.2)).getD i .non]))
def yLI (p:Int×PV):List (Int×PV)->List (Int×PV)
 | []=>[p]
 | q::r=>if p.1<=q.1 then p::q::r else q::yLI p r
def yDq:List (Int×PV)->List (Int×PV)
 | []=>[]
 | p::r=>yLI p (yDq r)
def yKt:List Key->Option (List Int)
 | []=>some []
 | .inl i::r=>(yKt r).map (i::·)
 | .inr _::_=>none
theorem yAl:∀ {ks:List Key}{ns:List Int},yKt ks=some ns->ks=ns.map .inl
 | [],ns,h=>by cases h;rfl
 | .inl i::r,ns,h=>by
  obtain ⟨m,e,rfl⟩:=Option.map_eq_some_iff.mp h
  rw [map_cons,<- yAl e]
 | .inr _::_,_,h=>by cases h
theorem yqM (p:Int×PV):∀ l,(yLI p l).Perm (p::l)
 | []=>.refl _
 | q::r=>by
  unfold yLI
  split
  .exact .refl _
  .exact ((yqM p r).cons q).trans (.swap _ _ _)
theorem yoy:∀ l,(yDq l).Perm l
 | []=>.refl _
 | p::r=>(yqM p _).trans ((yoy r).cons p)
theorem yDr {p:Int×PV}:∀ {l:List (Int×PV)},l.Pairwise (fun a b=>a.1<=b.1)->(yLI p l).Pairwise (fun a b=>a.1<=b.1)
 | [],_=>List.pairwise_singleton _ _
 | q::r,h=>by
  obtain ⟨h1,h2⟩:=List.pairwise_cons.mp h
  unfold yLI
  split
  .rename_i hc
   exact List.pairwise_cons.mpr ⟨fun b hb=>by
    rcases mem_cons.mp hb with rfl|hb
    .exact hc
    .exact Int.le_trans hc (h1 b hb),h⟩
  .rename_i hc
   refine List.pairwise_cons.mpr ⟨fun b hb=>?_,yDr h2⟩
   rcases mem_cons.mp ((yqM p r).mem_iff.mp hb) with rfl|hb
   .omega
   .exact h1 b hb
theorem yAm:∀ l,(yDq l).Pairwise (fun a b=>a.1<=b.1)
 | []=>.nil
 | _::r=>yDr (yAm r)
theorem yGK {ns:List Int}{xs:List PV}{q:List Nat}(hl:xs.length=ns.length) (hp:q.Perm (List.range ns.length)) (hs:q.Pairwise fun i j=>ns.getD i 0<=ns.getD j 0) (nd:ns.Nodup) :
  (q.map fun i=>(ns.getD i 0,xs.getD i .non))=yDq (ns.zip xs):=by
 have hz:((List.range ns.length).map fun i=>(ns.getD i 0,xs.getD i .non))=ns.zip xs:=by
  apply List.ext_getElem
  .simp [hl]
  .intro i h1 h2
   have h3:i<ns.length:=by simpa using h1
   simp [getD,List.getElem?_eq_getElem h3,List.getElem?_eq_getElem (show i<xs.length by omega)]
 have hm:(q.map fun i=>(ns.getD i 0,xs.getD i .non)).Perm (ns.zip xs):=by rw [<- hz];exact hp.map _
 have hk:(ns.zip xs).map (·.1)=ns:=List.map_fst_zip (by omega)
 refine List.Perm.eq_of_pairwise (le:=fun a b=>a.1<=b.1) (fun a b ha hb h1 h2=>?_) (List.pairwise_map.mpr hs) (yAm _) (hm.trans (yoy _).symm)
 have ha:=hm.mem_iff.mp ha
 have hb:=(yoy _).mem_iff.mp hb
 obtain ⟨i,hi,rfl⟩:=getElem_of_mem ha
 obtain ⟨j,hj,rfl⟩:=getElem_of_mem hb
 have hi':i<ns.length:=by rw [length_zip] at hi;omega
 have hj':j<ns.length:=by rw [length_zip] at hj;omega
 have e:ns[i]=ns[j]:=by
  have:((ns.zip xs)[i]).1=((ns.zip xs)[j]).1:=Int.le_antisymm h1 h2
  simpa using this
 have:=yAb nd hi' hj' e
 subst this
 rfl
def yRF (W:Wd) (as:List Addr) (ts:List (List V)):Wd:=⟨yAk W.F as ts,yAk W.H as ts,W.m,W.h⟩
theorem lookup_mem {α:Type}:∀ {as:List Addr}{ts:List α}{b:Addr}{t:α},(as.zip ts).lookup b=some t->b∈as
 | [],_,_,_,h=>by simp at h
 | _::_,[],_,_,h=>by simp at h
 | a::as,u::ts,b,t,h=>by
  rw [zip_cons_cons,lookup_cons] at h
  split at h
  .rename_i hb;rw [eq_of_beq hb];exact mem_cons_self
  .exact mem_cons_of_mem _ (lookup_mem h)
theorem yoz {H:Hp}{as:List Addr}{ts:List (List V)}{b:Addr}(h:b∉as):yAk H as ts b=H b:=by
 unfold yAk
 split
 .rename_i e;exact absurd (lookup_mem e) h
 .rfl
theorem yKu {W:Wd}{as:List Addr}{ts:List (List V)}(w:WOk K W) (h:∀ a∈as,W.H a=none):Le K W (yRF W as ts):=by
 have nm:∀ a∈as,a∉W.m:=fun a ha=>w.out (h a ha)
 have sF:Same W.F (yAk W.F as ts):=fun b o e=>by
  rw [yoz fun z=>by rw [w.ff (h b z)] at e;cases e];exact e
 have sH:Same W.H (yAk W.H as ts):=fun b o e=>by
  rw [yoz fun z=>by rw [h b z] at e;cases e];exact e
 refine ⟨⟨?_,w.len,w.nd,fun n d a e1 e2=>?_⟩,sF,prefix_refl _,fun b u e _=>sH b u e,fun b u e _ f=>?_,fun b z n=>absurd z n,fun n ks xs e1=>⟨e1,fun a e2=>yoz fun z=>nm a z (mem_of_getElem? e2)⟩⟩
 .intro b u e
  have e:yAk W.F as ts b=some u:=e
  show yAk W.H as ts b=some u
  unfold yAk at e ⊢
  split at e
  .exact e
  .exact w.le _ _ e
 .have ha:a∉as:=fun z=>nm a z (mem_of_getElem? e2)
  exact (w.at_ n d a e1 e2).mono sF (prefix_refl _) (fun u e=>sH _ _ e) fun f=>(yoz ha).trans f
 .exact (yoz fun z=>by rw [h b z] at e;cases e).trans f
theorem ywy {F:Hp}{m:List Addr}{Y:Nat->PV}{T:Nat->List V}{Z:Nat->List PV}(hY:∀ i,Y i=.tup (Z i)):∀ (as:List Addr) (q:List Nat),as.length=q.length->as.Nodup->(∀ a∈as,∀ i,i∈q->(as.zip (q.map T)).lookup a=some (T i)->F a=some (.tup (T i))) ->
  (∀ i∈q,RepL K F m (Z i) (T i))->RepL K F m (q.map Y) (as.map V.ref)
 | [],[],_,_,_,_=>rfl
 | [],_::_,h,_,_,_=>by cases h
 | _::_,[],h,_,_,_=>by cases h
 | a::as,i::q,hl,hn,hF,hR=>by
  obtain ⟨n1,n2⟩:=List.nodup_cons.mp hn
  refine ⟨.ref a,_,rfl,?_,ywy hY as q (by simpa using hl) n2 (fun b hb j hj e=>?_) fun j hj=>hR j (mem_cons_of_mem _ hj)⟩
  .rw [hY]
   exact ⟨a,T i,rfl,.inl (hF a mem_cons_self i mem_cons_self (by simp)),hR i mem_cons_self⟩
  .refine hF b (mem_cons_of_mem _ hb) j (mem_cons_of_mem _ hj) ?_
   rw [map_cons,zip_cons_cons,lookup_cons]
   have:(b == a)=false:=beq_eq_false_iff_ne.mpr fun z=>n1 (z ▸ hb)
   rw [this]
   exact e
noncomputable def sortI (ks:List Key) (xs:List PV):Option (List PV):=match yKt ks with|some ns=>if ns.length<2 then some ((yDq (ns.zip xs)).map fun p=>.tup [.int p.1,p.2]) else none|none=>none
def ytD (e:XE):XO:=fun ρ h=>ob (e ρ h) fun x h1=>match ywv x h1 with|some (ks,xs)=>(match sortI ks xs with|some l=>some (.lst l,h1)|none=>none)|none=>none
theorem yIG {W:Wd}{x:PV}{v:V}{ks:List Key}{xs:List PV}(w:WOk K W) (e:ywv x W.h=some (ks,xs)) (r:yeh K W x v):tyV K.K "dict" v W.H:=by
 obtain ⟨a,vs,rfl,hp,_⟩:=yww w e r
 exact .inr (.inr (.inl ⟨rfl,.inl ⟨_,hp⟩⟩))
theorem yDs {ta:TE}{ea:XE}(a:ycD K ta ea):yyv K (tCB rSI (yya (yOS K.K "dict" yIF ta) yFz)) (ytD ea):=by
 intro W0 W ρ σ Q z h' g e q
 obtain ⟨x,h1,e1,f1⟩:=yl e
 refine a W0 W ρ σ _ x h1 g e1 fun v W1 w1 l1 r1=>?_
 subst w1
 split at f1
 .rename_i ks xs hd
  split at f1
  .rename_i l hl
   cases f1
   refine ⟨yIG l1.ok hd r1,?_⟩
   obtain ⟨d,vs,ev,hp,hvl,rs⟩:=yww l1.ok hd r1
   subst ev
   refine ⟨d,_,rfl,rfl,hp,fun r hr=>?_⟩
   unfold sortI at hl
   split at hl
   .rename_i ns hk
    split at hl
    .rename_i h64
     cases hl
     have hk:=yAl hk
     have l2:=yeJ (o:=yyI r d) l1.ok hr
     have hnl:ks.length=ns.length:=by rw [hk,length_map]
     have hxl:xs.length=ns.length:=by rw [<- rs.len];omega
     show rSI [.ref r] (upd W1.H r (yyI r d)) Q
     refine ⟨r,d,ks.zip vs,ns,rfl,yF,(yL (ycd hp hr)).trans hp,by rw [List.map_fst_zip (by omega),hk],by rw [length_zip];omega,fun p as o hperm hs nd hal hfree hnd=>?_⟩
     rw [List.map_snd_zip (by omega)]
     generalize hW2:yph W1 r (yyI r d)=W2 at l2
     have hH2:W2.H=upd W1.H r (yyI r d):=by rw [<- hW2];rfl
     rw [<- hH2] at hfree ⊢
     have l3:=yKu (ts:=o.map fun i=>[V.int (ns.getD i 0),vs.getD i .non]) l2.ok fun a ha=>hfree a (mem_cons_of_mem _ ha)
     obtain ⟨n1,n2⟩:=List.nodup_cons.mp hnd
     have hp3:(yRF W2 as (o.map fun i=>[V.int (ns.getD i 0),vs.getD i .non])).H p=none:=(yoz n1).trans (hfree p mem_cons_self)
     have l4:=yeJ (o:=.lst (as.map V.ref)) l3.ok hp3
     have l:=l2.trans (l3.trans l4)
     have inq:∀ i∈o,i<ns.length:=fun i hi=>by have:=hperm.mem_iff.mp hi;simpa using this
     refine q p _ (by rw [<- hW2];rfl) (l1.trans l) (l3.ok.out hp3) ((l1.trans l2).fresh (hfree p mem_cons_self)) (fun z=>by cases z) ⟨l3.ok.ff hp3,_,yF,?_⟩
     rw [<- yGK hxl hperm hs nd,map_map]
     refine ywy (T:=fun i=>[V.int (ns.getD i 0),vs.getD i .non]) (Z:=fun i=>[.int (ns.getD i 0),xs.getD i .non]) (fun i=>rfl) as o hal n2 (fun a ha i hi e=>?_) fun i hi=>⟨_,_,rfl,rfl,_,_,rfl,?_,rfl⟩
     .show yAk W2.F as _ a=_
      unfold yAk
      rw [e]
     .have hi':=inq i hi
      obtain ⟨u,h3,h4⟩:=(l2.trans (l3.trans l4)).repL rs |>.get (List.getElem?_eq_getElem (show i<xs.length by omega))
      have e5:xs.getD i .non=xs[i]'(by omega):=by simp [getD,List.getElem?_eq_getElem (show i<xs.length by omega)]
      have e6:vs.getD i .non=u:=by simp [getD,h3]
      rw [e5,e6]
      exact h4
    .cases hl
   .cases hl
  .cases f1
 .cases f1
end PX
namespace PX
open PySem L2
variable {K:Ck}
def yBY (n:Nat) (rev:Bool) (g:XG) (s:XS):Nat->Nat->PSt->AH->Option (Out×AH)
 | 0,i,ρ,h=>match h[n]? with|some (.lst xs)=>if xs.length=i then some (.nx ρ,h) else none|_=>none
 | k+1,i,ρ,h=>match h[n]? with
  | some (.lst xs)=>(match xs[if rev then k else i]? with
   | some x=>(g x ρ).bind fun ρ1=>ob (s ρ1 h) fun o h1=>match o with|.nx ρ'=>yBY n rev g s k (i+1) ρ' h1|.ct ρ'=>yBY n rev g s k (i+1) ρ' h1|.bk ρ'=>some (.nx ρ',h1)|.rt y=>some (.rt y,h1)
   | none=>none)
  | _=>none
def yDt (rev:Bool) (e:XE) (g:XG) (s:XS):XS:=fun ρ h=>ob (e ρ h) fun x h1=>match x with
 | .loc n=>(match h1[n]? with|some (.lst xs)=>yBY n rev g s xs.length 0 ρ h1|_=>none)
 | _=>none
structure ItX (K:Ck) (n:Nat) (rev:Bool) (m:Nat) (a:Addr) (J:It):Prop where
 go:∀ (i:Nat) (H:Hp) (vs:List V) (v:V),H a=some (.lst vs)->i<m->vs[if rev then m-1-i else i]?=some v->J.go i H
 yld:∀ (i:Nat) (H:Hp) (vs:List V) (v:V) (H2:Hp),H a=some (.lst vs)->i<m->J.yld i H v H2->H2=H/\vs[if rev then m-1-i else i]?=some v
 stop:∀ (H:Hp) (vs:List V),H a=some (.lst vs)->vs.length=m->J.stop m H
section
variable {ta:TE}{ea:XE}{t:TS}{s:XS}
theorem yDu {n:Nat}{xs:List PV}{p:Addr}{us:List V}{J:It}{rev:Bool}{g:TG}{y:XG}(b:yFX K g y) (c:ynj K t s) {W0 W W1:Wd}{ρ:PSt}{σ:St}{D:Ends}{o:Out}{h':AH}(gd:Good K W0 W ρ σ) (l1:Le K W W1) (q:Ends.Ok K W0 W D h' o)
  (f1:yBY n rev y s xs.length 0 ρ W1.h=some (o,h')) (hn:W1.h[n]?=some (.lst xs)) (hm:W1.m[n]?=some p) (rs:yei K W1 xs us) (J1:ItX K n rev us.length p J) :
  ∃ Z:Nat->Nat->St->Hp->Prop,(∃ m,Z 0 m σ W1.H)/\∀ i m σ H,Z i m σ H ->
   (J.stop i H/\D.nx σ H)\/(J.go i H/\∃ N:St->Hp->Prop,(∀ σ' H',N σ' H'->∃ m',m'<m/\Z (i+1) m' σ' H')/\∀ x H',J.yld i H x H'->g x σ H' fun σ2 H2=>t { D with nx:=N,ct:=N,bk:=D.nx } σ2 H2):=by
   have q1:=q.from_ l1.lf
   have hul:us.length=xs.length:=rs.len
   rw [hul] at J1
   refine ⟨fun i m σ H=>m=xs.length-i/\i<=xs.length/\∃ W' ρ',W'.H=H/\Lf K W1 W'/\Good K W0 W' ρ' σ/\yBY n rev y s (xs.length-i) i ρ' W'.h=some (o,h'),⟨_,rfl,zero_le _,W1,ρ,rfl,.refl,gd.step l1,f1⟩,?_⟩
   rintro i m σ _ ⟨rfl,hi,W',ρ',rfl,l,g',f⟩
   have hm':W'.m[n]?=some p:=ylS l.pre hm
   by_cases hlt:i<xs.length
   .obtain ⟨k,hk⟩:∃ k,xs.length-i=k+1:=⟨xs.length-i-1,by omega⟩
    rw [hk] at f
    unfold yBY at f
    split at f
    .rename_i ys hy
     split at f
     .rename_i z hz
      obtain ⟨p',ev',hm2,hf',vs,hp',rs'⟩:=g'.ok.loc hy (v:=.ref p) ⟨p,rfl,hm'⟩
      cases ev'
      have hix:(if rev=true then xs.length-1-i else i)=(if rev=true then k else i):=by rw [show xs.length-1-i=k by omega]
      obtain ⟨vz,hv1,hv2⟩:=rs'.get hz
      obtain ⟨ρ1,k1,f⟩:=Option.bind_eq_some_iff.mp f
      obtain ⟨o1,h2,k2,f3⟩:=yl f
      refine .inr ⟨J1.go i W'.H vs vz hp' hlt (by rw [hix];exact hv1),fun σ2 H2=>i+1<=xs.length/\∃ W2 ρ2,W2.H=H2/\Lf K W1 W2/\Good K W0 W2 ρ2 σ2/\yBY n rev y s (xs.length-(i+1)) (i+1) ρ2 W2.h=some (o,h'),fun σ2 H2 ⟨n1,n2⟩=>⟨xs.length-(i+1),by omega,rfl,n1,n2⟩,fun v H2 hy=>?_⟩
      obtain ⟨rfl,hx⟩:=J1.yld i W'.H vs v H2 hp' hlt hy
      rw [hix,hv1] at hx
      cases hx
      have ek:xs.length-(i+1)=k:=by omega
      refine b W0 W' ρ' ρ1 σ _ vz _ g' hv2 k1 fun σ2 g2=>?_
      refine c W0 W' ρ1 σ2 _ o1 h2 g2 k2 ?_
      cases o1 with
      | nx ρ2=>exact fun W2 σ3 w2 l2 g3=>⟨hlt,W2,ρ2,rfl,l.trans l2,g3,by rw [w2,ek];exact f3⟩
      | ct ρ2=>exact fun W2 σ3 w2 l2 g3=>⟨hlt,W2,ρ2,rfl,l.trans l2,g3,by rw [w2,ek];exact f3⟩
      | bk ρ2=>cases f3;exact fun W2 σ3 w2 l2 g3=>q1 W2 σ3 w2 (l.trans l2) g3
      | rt x=>cases f3;exact q1
     .cases f
    .cases f
   .have ei:i=xs.length:=by omega
    subst ei
    rw [sub_self] at f
    unfold yBY at f
    split at f
    .rename_i ys hy
     obtain ⟨p',ev',hm2,hf',vs,hp',rs'⟩:=g'.ok.loc hy (v:=.ref p) ⟨p,rfl,hm'⟩
     cases ev'
     split at f
     .rename_i hyl
      cases f
      exact .inl ⟨J1.stop W'.H vs hp' (by rw [rs'.len,hyl]),q1 W' σ rfl l g'⟩
     .cases f
    .cases f
theorem yQj {n m:Nat}{a:Addr}:ItX K n false m a (Itl K.K a) where
 go:=fun i H vs v h _ e=>⟨vs,v,SqL.of h,e⟩
 yld:=fun i H vs v H2 h _ e=>⟨e.1,e.2 vs (SqL.of h)⟩
 stop:=fun H vs h e=>⟨vs,SqL.of h,le_of_eq e⟩
theorem yGL {g:TG}{y:XG}(a:ycD K ta ea) (b:yFX K g y) (c:ynj K t s):ynj K (yOK (yFs K.K ta) g t) (yDt false ea y s):=by
 intro W0 W ρ σ D o h' gd e q
 obtain ⟨x,h1,e1,f1⟩:=yl e
 refine a W0 W ρ σ _ x h1 gd e1 fun v W1 w1 l1 r1=>?_
 subst w1
 split at f1
 .rename_i n
  split at f1
  .rename_i xs hn
   obtain ⟨p,ev,hm,hf,us,hp,rs⟩:=l1.ok.loc hn r1
   exact ⟨p,ev,⟨us,SqL.of hp⟩,yDu b c gd l1 q f1 hn hm rs yQj⟩
  .cases f1
 .cases f1
end
end PX
namespace PX
open PySem L2
variable {K:Ck}
def yQk (kvs more:List (Key×V)):List (Key×V):=more.foldl (fun acc kv=>putK acc kv.1 kv.2) kvs
def yRG:V->List V->Hp->VK->Prop:=fun x vs H Q=>∃ d o kvs more,x=.ref d/\vs=[.ref o]/\d≠o/\H d=some (.dK kvs)/\H o=some (.dK more)/\kvs.length+more.length<=sizeLine/\Q .non (upd H d (.dK (yQk kvs more)))
def yuM:List Key->List PV->List Key->List PV->List Key×List PV
 | j::js,y::ys,ks,xs=>yuM js ys (yfU ks xs j y).1 (yfU ks xs j y).2
 | _,_,ks,xs=>(ks,xs)
def yBm:PV->AH->Bool:=fun x h=>(ywv x h).isSome
theorem yGM {W:Wd}{x:PV}{v:V}(w:WOk K W) (r:yeh K W x v) (c:yBm x W.h=true):tyV K.K "dict" v W.H:=by
 obtain ⟨⟨ks,xs⟩,hd⟩:=Option.isSome_iff_exists.mp c
 exact yIG w hd r
theorem yDv {F:Hp}{m:List Addr}:∀ {js:List Key}{ys:List PV}{us:List V}{ks:List Key}{xs:List PV}{vs:List V},RepL K F m ys us->us.length=js.length->RepL K F m xs vs->vs.length=ks.length ->
  ∃ ws,yQk (ks.zip vs) (js.zip us)=(yuM js ys ks xs).1.zip ws/\ws.length=(yuM js ys ks xs).1.length/\RepL K F m (yuM js ys ks xs).2 ws
 | [],ys,us,ks,xs,vs,r,hl,r2,hl2=>by
  obtain rfl:us=[]:=List.length_eq_zero_iff.mp (by simpa using hl)
  cases ys with
  | cons y ys=>obtain ⟨v,r',e,_⟩:=r;cases e
  | nil=>exact ⟨vs,rfl,hl2,r2⟩
 | j::js,[],us,ks,xs,vs,r,hl,r2,hl2=>by
  obtain rfl:us=[]:=r
  cases hl
 | j::js,y::ys,_,ks,xs,vs,⟨u,us,e,ru,rr⟩,hl,r2,hl2=>by
  subst e
  have key:∃ ws,putK (ks.zip vs) j u=(yfU ks xs j y).1.zip ws/\ws.length=(yfU ks xs j y).1.length/\RepL K F m (yfU ks xs j y).2 ws:=by
   have hput:=yAf j u ks vs hl2
   unfold yfU
   by_cases hj:yGw ks j=true
   .rw [if_pos hj] at hput ⊢
    exact ⟨_,hput,by rw [yuG];exact hl2,r2.setK ks j ru⟩
   .rw [if_neg hj] at hput ⊢
    exact ⟨_,hput,by rw [length_append,length_append,hl2];rfl,r2.snoc ru⟩
  obtain ⟨ws,p1,p2,p3⟩:=key
  have ih:=yDv (js:=js) rr (by simpa using hl) p3 p2
  show ∃ ws,yQk (putK (ks.zip vs) j u) (js.zip us)=_/\_
  rw [p1]
  exact ih
def yLJ:PM:=fun x ys h=>match x,ys with|.loc n,[.loc k]=>(match h[n]?,h[k]? with|some (.dct ks xs),some (.dct js zs)=>if n≠k/\ks.length+js.length<1000 then some (.non,h.set n (.dct (yuM js zs ks xs).1 (yuM js zs ks xs).2)) else none|_,_=>none)|_,_=>none
theorem yQl:yux K "dict" yBm yRG yLJ:=by
 refine ⟨fun W x v w r c=>yGM w r c,fun W x v xs vs Q z h' w rx r e q=>?_⟩
 unfold yLJ at e
 split at e
 .rename_i n k
  split at e
  .rename_i ks xs js zs hn hk
   split at e
   .rename_i hc
    cases e
    obtain ⟨u,rfl,ru⟩:=yzU r
    obtain ⟨a,ev,hm,hf,us,hp,hl,rs⟩:=w.loc hn rx
    obtain ⟨b,ev2,hm2,hf2,us2,hp2,hl2,rs2⟩:=w.loc hk ru
    have hne:a≠b:=fun z=>by
     subst z
     obtain ⟨l1,q1⟩:=List.getElem?_eq_some_iff.mp hm
     obtain ⟨l2,q2⟩:=List.getElem?_eq_some_iff.mp hm2
     exact hc.1 (yAb w.nd l1 l2 (q1.trans q2.symm))
    obtain ⟨ws,p1,p2,p3⟩:=yDv rs2 hl2 rs hl
    refine ⟨a,b,_,_,ev,by rw [ev2],hne,hp,hp2,by rw [length_zip,length_zip];exact small (by omega),?_⟩
    rw [p1]
    exact q .non (yGu W n a (.dK ((yuM js zs ks xs).1.zip ws)) (.dct (yuM js zs ks xs).1 (yuM js zs ks xs).2)) rfl (ylW w hn hm hf ⟨hf,_,yF,p2,p3⟩) rfl
   .cases e
  .cases e
 .cases e
end PX
namespace PX
open PySem L2
variable {K:Ck}
end PX
namespace PX
open PySem L2
variable {K:Ck}
end PX
namespace PX
open PySem L2
variable {K:Ck}
def yGN:Key->PV|.inl i=>.int i|.inr s=>.str s
theorem yDw {W:Wd}(k:Key):yeh K W (yGN k) (kV k):=by cases k<;>exact rfl
def ItD (a:Addr) (ob:Obj) (kvs:List (Key×V)):It :=
 ⟨fun i H=>i<kvs.length/\H a=some (.frz ob (.dK kvs)),fun i H x H'=>H'=H/\∃ kv,kvs[i]?=some kv/\x=kV kv.1,fun i H=>i=kvs.length/\H a=some (.frz ob (.dK kvs))⟩
def yNt (NF:Addr->Prop) (te:TE):TI:=fun σ H R=>te σ H fun x H1=>∃ a kvs,x=.ref a/\H1 a=some (.dK kvs)/\∀ ob,NF a->R (ItD a ob kvs) (upd H1 a (.frz ob (.dK kvs)))
section
variable {ta:TE}{ea:XE}{t:TS}{s:XS}
end
end PX
namespace PX
open PySem L2
variable {K:Ck}
def spJ (K:Ck) (n k:Nat) (f:List PV->AH->Option (Nd×AH)):Sp:=fun vs H Q _=>∃ (W0 W:Wd) (x:Addr) (args:List V) (xs:List PV) (d:Nd) (h':AH),vs=.ref x::args/\W.H=H/\Le K W0 W/\W0.H x=none/\x∉W.m/\NdAt K W.F W.H W.m (.ins k [] []) x /\
 yei K W xs args/\xs.length=n/\f xs W.h=some (d,h')/\∀ W',W'.h=h'->Lf K W W'->Le K W0 W'->x∉W'.m->d≠.dead->NdAt K W'.F W'.H W'.m d x->Q .non W'.H
theorem yKv {n k:Nat}{f} {vs:List V}{H:Hp}{Q:VK}{E:XK}(h:spJ K n k f vs H Q E):vs.length=n+1:=by
 obtain ⟨W0,W,x,args,xs,d,h',rfl,_,_,_,_,_,r,hn,_⟩:=h
 rw [length_cons,r.len,hn]
theorem yDx {N:List Str}{n k:Nat}{t:TS}{s:XS}{vs:List V}{H:Hp}{Q:VK}{E:XK}{bk ct:St->Hp->Prop}(hN:n+1<=N.length) (a:yFh K t s) (h:spJ K n k (yxS N.length k s) vs H Q E):t ⟨fun _ H'=>Q .non H',Q,bk,ct⟩ (L2.start N vs) H:=by
 obtain ⟨W0,W,x,args,xs,d,h',rfl,rfl,le,hx,hm,at_,r,hn,e,q⟩:=h
 obtain ⟨o,h1,e1,f1⟩:=yl e
 have gs:=yov (K:=K) (N:=N.drop 1) le.ok r
 have g:Good K W0 W (.own (.ins k [] [])::(xs.map .val++replicate (N.length-(xs.length+1)) .no)) (L2.start N (.ref x::args)):=by
  have es:L2.start N (.ref x::args)=some (.ref x)::L2.start (N.drop 1) args:=by
   have e3:N.length-(args.length+1)=(N.drop 1).length-args.length:=by rw [length_drop];omega
   unfold L2.start
   rw [map_cons,List.cons_append,length_cons,e3]
  have eN:N.length-(xs.length+1)=(N.drop 1).length-xs.length:=by rw [length_drop];omega
  rw [es,eN]
  have noown:∀ (j:Nat) (d:Nd),(xs.map PVar.val++replicate ((N.drop 1).length-xs.length) .no)[j]?≠some (.own d):=fun j d z=>by
   by_cases hj:j<xs.length
   .rw [getElem?_append_left (by simpa using hj),getElem?_map,List.getElem?_eq_getElem hj] at z
    cases z
   .rw [getElem?_append_right (by simp;omega),getElem?_replicate] at z
    split at z<;>cases z
  refine ⟨le,by rw [length_cons,length_cons,gs.len],fun j y z=>?_,fun j d z=>?_,fun i j d d' hij z z'=>?_⟩
  .cases j with
   | zero=>cases z
   | succ j=>exact gs.val j y z
  .cases j with
   | zero=>cases z;exact ⟨x,rfl,hm,hx,(fun z=>by cases z),at_⟩
   | succ j=>exact absurd z (noown j d)
  .cases i with
   | zero =>
    cases j with
    | zero=>exact absurd rfl hij
    | succ j=>exact absurd z' (noown j d')
   | succ i=>exact absurd z (noown i d)
 cases o with
 | rt y=>cases f1
 | bk ρ=>cases f1
 | ct ρ=>cases f1
 | nx ρ =>
  refine a W0 W _ ρ _ _ h1 g e1 fun W' ew lf g'=>?_
  dsimp only at f1
  split at f1
  .rename_i d' hd'
   cases f1
   obtain ⟨p,b1,b2,b3,b4,b5⟩:=g'.own 0 _ hd'
   have b1:some (some (V.ref x))=some (some (V.ref p)):=b1
   cases b1
   exact q W' ew lf g'.le b2 b4 b5
  .cases f1
def yNu:PVar->Bool|.own _=>false|_=>true
def xBI (k:Nat) (f:List PV->AH->Option (Nd×AH)) (a:XA):XS:=fun ρ h=>match ρ with
 | .own (.ins k' [] [])::r=>if k'=k/\r.all yNu=true then ob (a ρ h) fun xs h1=>ob (f xs h1) fun d h2=>(match d with|.dead=>none|d=>some (.nx (.own d::r),h2)) else none
 | _=>none
theorem yKw {n k:Nat}{f} {E:XK}{t:TA}{aa:XA}(a:yxR K t aa) (hn:∀ ρ h xs h',aa ρ h=some (xs,h')->xs.length=n):yFh K (yCf (yFA (spJ K n k f) [] E (yya (yBW 0) t))) (xBI k f aa):=by
 intro W0 W ρ ρ' σ D h' g e q
 unfold xBI at e
 split at e
 .rename_i k' r
  split at e
  .rename_i c
   obtain ⟨rfl,hr⟩:=c
   obtain ⟨xs,h1,e1,f1⟩:=yl e
   obtain ⟨d,h2,e2,f2⟩:=yl f1
   have nodead:d≠.dead:=fun z=>by subst z;cases f2
   have f2:some (Out.nx (.own d::r),h2)=some (.nx ρ',h'):=by
    cases d<;>first|exact f2|cases f2
   cases f2
   obtain ⟨p,b1,b2,b3,b4,b5⟩:=g.own 0 _ rfl
   refine ⟨.ref p,b1,?_⟩
   refine a W0 W _ σ _ xs h1 g e1 fun vs W1 w1 l1 r1=>?_
   subst w1
   have g1:=g.step l1
   obtain ⟨p',c1,c2,c3,c4,c5⟩:=g1.own 0 _ rfl
   rw [b1] at c1
   cases c1
   rw [append_nil]
   refine ⟨W0,W1,p,vs,xs,d,h',rfl,rfl,g1.le,c3,c2,c5,r1,hn _ _ _ _ e1,e2,fun W2 w2 lf le hm hd at_=>?_⟩
   refine q W2 w2 (l1.lf.trans lf) ⟨le,g1.len,fun j y z=>?_,fun j d' z=>?_,fun i j d1 d2 hij z1 z2=>?_⟩
   .cases j with
    | zero=>cases z
    | succ j =>
     obtain ⟨v,z1,z2⟩:=g1.val (j+1) y z
     exact ⟨v,z1,lf.rep z2⟩
   .cases j with
    | zero=>cases z;exact ⟨p,b1,hm,c3,hd,at_⟩
    | succ j =>
     have z:r[j]?=some (.own d'):=z
     have:=List.all_eq_true.mp hr _ (mem_of_getElem? z)
     cases this
   .cases i with
    | zero =>
     cases j with
     | zero=>exact absurd rfl hij
     | succ j =>
      have z:r[j]?=some (.own d2):=z2
      have:=List.all_eq_true.mp hr _ (mem_of_getElem? z)
      cases this
    | succ i =>
     have z:r[i]?=some (.own d1):=z1
     have:=List.all_eq_true.mp hr _ (mem_of_getElem? z)
     cases this
  .cases e
 .cases e
theorem yGO {a:Addr}{ss:List Str}(h:KTp K.K a (ss.map V.str)):ycD K (tC (.ref a)) (xC (.tup (ss.map PV.str))):=by
 intro W0 W ρ σ Q x h' g e q
 cases e
 refine q _ W rfl (.refl g.ok) ⟨a,_,rfl,.inr h,?_⟩
 clear h q
 induction ss with
 | nil=>exact rfl
 | cons s ss ih=>exact ⟨_,_,rfl,rfl,ih⟩
end PX
namespace PX
open PySem L2
variable {K:Ck}
end PX
namespace PX
open PySem L2
variable {K:Ck}
end PX
namespace PX
open PySem L2
variable {K:Ck}
noncomputable def yDy (c:Nat):List Nat->List (List Nat)
 | []=>[[]]
 | k::r=>if k=c then []::yDy c r else match yDy c r with|[]=>[[k]]|w::ws=>(k::w)::ws
theorem ywz {c:Nat}:∀ {w:List Nat},c∉w->yDy c w=[w]
 | [],_=>rfl
 | k::r,h=>by
  have h1:k≠c:=fun z=>h (z ▸ mem_cons_self ..)
  unfold yDy
  rw [if_neg h1,ywz fun z=>h (mem_cons_of_mem _ z)]
theorem yAn {c:Nat}:∀ {w r:List Nat},c∉w->yDy c (w++c::r)=w::yDy c r
 | [],r,_=>by
  rw [List.nil_append]
  show (if c=c then []::yDy c r else _)=_
  rw [if_pos rfl]
 | k::w,r,h=>by
  have h1:k≠c:=fun z=>h (z ▸ mem_cons_self ..)
  rw [List.cons_append]
  show (if k=c then []::yDy c (w++c::r) else match yDy c (w++c::r) with|[]=>[[k]]|w::ws=>(k::w)::ws)=_
  rw [if_neg h1,yAn fun z=>h (mem_cons_of_mem _ z)]
def yDz (z:Str):List Str:=(yDy 32 z.cps.toList).map fun w=>⟨w.toArray⟩
theorem yqN:∀ (ws:List Str),ws≠[]->(∀ w∈ws,32∉w.cps.toList)->yDz (Str.join " " ws)=ws
 | [],h,_=>absurd rfl h
 | [w],_,h=>by
  have h1:=ywz (h w (List.mem_singleton.mpr rfl))
  show (yDy 32 w.cps.toList).map _=_
  rw [h1];rfl
 | w::v::r,_,h=>by
  have ih:=yqN (v::r) (fun z=>by cases z) fun u hu=>h u (mem_cons_of_mem _ hu)
  show yDz (w++" "++Str.join " " (v::r))=_
  have e:(w++(" ":Str)++Str.join " " (v::r)).cps.toList=w.cps.toList++32::(Str.join " " (v::r)).cps.toList:=by
   show (w.cps++(" ":Str).cps++(Str.join " " (v::r)).cps).toList=_
   rw [show (" ":Str).cps = #[32] by rfl']
   simp
  unfold yDz at ih ⊢
  rw [e,yAn (h w (mem_cons_self ..)),map_cons,ih]
def yIH:V->List V->Hp->VK->Prop:=fun x vs H Q=>∃ z:Str,x=.str z/\vs=[.str " "]/\z.length<=100000/\∀ p,H p=none->Q (.ref p) (upd H p (.lst ((yDz z).map V.str)))
def ywA:PM:=fun x xs h=>match x,xs with|.str z,[.str y]=>if y = " "/\z.length<=100000 then some (.lst ((yDz z).map .str),h) else none|_,_=>none
theorem RepL.of_strs {F:Hp}{m:List Addr}:∀ (ts:List Str),RepL K F m (ts.map PV.str) (ts.map V.str)
 | []=>rfl
 | _::ts=>⟨_,_,rfl,rfl,RepL.of_strs ts⟩
theorem m_split:yux K "str" isStr yIH ywA:=by
 refine ⟨fun W x v w r c=>?_,fun W x v xs vs Q z h' w rx r e q=>?_⟩
 .unfold isStr at c
  split at c
  .rw [show v=_ from r];rfl
  .cases c
 .unfold ywA at e
  split at e
  .rename_i z y
   split at e
   .rename_i c
    cases e
    obtain ⟨u,rfl,ru⟩:=yzU r
    have ru:u=.str y:=ru
    refine ⟨z,rx,by rw [ru,c.1],c.2,fun p hp=>?_⟩
    have l2:=yCN (o:=.lst ((yDz z).map V.str)) w hp
    exact q (.ref p) (yJL W p (.lst ((yDz z).map V.str))) rfl l2 ⟨p,_,rfl,yF,RepL.of_strs _⟩
   .cases e
  .cases e
theorem yKx {z:Str}{h:AH}(e:z.length<=100000):ywA (.str z) [.str " "] h=some (.lst ((yDz z).map .str),h):=by
 unfold ywA;exact if_pos ⟨rfl,e⟩
variable {t:TS}{s:XS}
end PX
namespace PX
open PySem L2
variable {K:Ck}
section
variable {F H:Hp}{m:List Addr}
end
variable {t:TA}{e:XA}
end PX
namespace PX
open PySem L2
variable {K:Ck}
end PX
namespace PX
open PySem L2
variable {K:Ck}
theorem yQm {W W1:Wd}(l1:Le K W W1) {p:Addr}{d:Nd}(hm:p∉W1.m) (hn:W.H p=none) (at_:NdAt K W1.F W1.H W1.m d p):Le K W ⟨W1.F,W1.H,W1.m++[p],W1.h++[d]⟩/\yeh K ⟨W1.F,W1.H,W1.m++[p],W1.h++[d]⟩ (.loc W1.h.length) (.ref p):=by
 have pre:W1.m <+: W1.m++[p]:=List.prefix_append _ _
 refine ⟨⟨⟨l1.ok.le,?_,?_,fun n d' a e1 e2=>?_⟩,l1.fs,l1.pre.trans pre,l1.keep,l1.new,fun b z n=>?_,fun n ks xs e1=>⟨by
  have:=(l1.fz n ks xs e1).1
  show (W1.h++[d])[n]?=_
  rw [getElem?_append_left (List.getElem?_eq_some_iff.mp this).1];exact this,(l1.fz n ks xs e1).2⟩⟩,⟨p,rfl,?_⟩⟩
 .show (W1.m++[p]).length=(W1.h++[d]).length
  rw [length_append,length_append,l1.ok.len];rfl
 .show (W1.m++[p]).Nodup
  rw [List.nodup_append]
  refine ⟨l1.ok.nd,by simp,?_⟩
  intro a ha b hb
  simp at hb
  subst hb
  exact fun z=>hm (z ▸ ha)
 .have e1:(W1.h++[d])[n]?=some d':=e1
  have e2:(W1.m++[p])[n]?=some a:=e2
  by_cases hlt:n<W1.h.length
  .rw [getElem?_append_left hlt] at e1
   rw [getElem?_append_left (by rw [l1.ok.len];exact hlt)] at e2
   exact (l1.ok.at_ n d' a e1 e2).mono (Same.refl _) pre (fun _ f1=>f1) id
  .rw [getElem?_append_right (by omega)] at e1
   rw [getElem?_append_right (by rw [l1.ok.len];omega)] at e2
   rw [l1.ok.len] at e2
   cases hk:n-W1.h.length with
   | zero =>
    rw [hk] at e1 e2
    simp at e1 e2
    subst e1 e2
    exact at_.mono (Same.refl _) pre (fun _ f1=>f1) id
   | succ k=>rw [hk] at e1;simp at e1
 .have z:b∈W1.m++[p]:=z
  rcases List.mem_append.mp z with z|z
  .exact l1.mn b z n
  .simp at z;subst z;exact hn
 .show (W1.m++[p])[W1.h.length]?=some p
  rw [<- l1.ok.len];simp
def ypk (k:Nat) (f:Fn) (a:XA):XE:=fun ρ h=>ob (a ρ h) fun xs h1=>ob (f (.loc h1.length::xs) (h1++[.ins k [] []])) fun x h2=>match x with|.non=>some (.loc h1.length,h2)|_=>none
theorem yDA {k:Nat}{f:Fn}{aa:XA}{ρ:PSt}{h:AH}:ypk k f aa ρ h=ob (aa ρ h) fun xs h1=>ob (f (.loc h1.length::xs) (h1++[.ins k [] []])) fun x h2=>match x with|.non=>some (.loc h1.length,h2)|_=>none:=id rfl
theorem yDB {n k:Nat}{f:Fn}{ex:XK}{t:TA}{e:XA}(a:yxR K t e) (hn:∀ ρ h xs h',e ρ h=some (xs,h')->xs.length=n):ycD K (yFB (K.A k) (spE K (n+1) f) [] ex t) (ypk k f e):=by
 intro W0 W ρ σ Q z h' g e' q
 obtain ⟨xs,h1,e1,e2⟩:=yl e'
 obtain ⟨y,h2,e3,e4⟩:=yl e2
 refine a W0 W ρ σ _ xs h1 g e1 fun vs W1 w1 l1 r1=>?_
 subst w1
 intro x dx hx hd hne
 rw [append_nil]
 have a1:Le K W1 (yph W1 dx (.own x)):=yeJ l1.ok hd
 have hx1:(yph W1 dx (.own x)).H x=none:=(yL hne.symm).trans hx
 have a2:Le K (yph W1 dx (.own x)) (yph (yph W1 dx (.own x)) x (.ins (K.A k) dx [])):=yeJ a1.ok hx1
 obtain ⟨a3,r3⟩:=yQm (d:=.ins k [] []) (a1.trans a2) (l1.ok.out hx) hx ⟨l1.ok.ff hx,dx,[],yF,rfl,rfl⟩
 refine ⟨⟨W1.F,upd (upd W1.H dx (.own x)) x (.ins (K.A k) dx []),W1.m++[x],W1.h++[Nd.ins k [] []]⟩,.loc W1.h.length::xs,y,h2,rfl,a3.ok,⟨_,_,rfl,r3,a3.repL r1⟩,by rw [length_cons,hn _ _ _ _ e1],e3,fun v W' w' l' r'=>?_⟩
 split at e4
 .cases e4
  exact ⟨r',q (.ref x) W' w' (l1.trans (a3.trans l')) (l'.rep r3)⟩
 .cases e4
def xID (e:XE):XA:=fun ρ h=>ob (e ρ h) fun x h1=>match x with
 | .loc n=>(match h1[n]? with|some (.dct ks xs)=>some (ks.map yGN,h1.set n (.fz ks xs))|_=>none)
 | _=>none
theorem ySe {e:XE}{ρ:PSt}{h:AH}:xID e ρ h=ob (e ρ h) fun x h1=>match x with
 | .loc n=>(match h1[n]? with|some (.dct ks xs)=>some (ks.map yGN,h1.set n (.fz ks xs))|_=>none)
 | _=>none:=id rfl
theorem yDC {NF:Addr->Prop}{ta:TE}{ea:XE}(a:ycD K ta ea):yIs K (yNt NF ta) (xID ea):=by
 intro W0 W ρ σ R xs h' gd e q
 obtain ⟨x,h1,e1,f1⟩:=yl e
 refine a W0 W ρ σ _ x h1 gd e1 fun v W1 w1 l1 r1=>?_
 subst w1
 split at f1
 .rename_i n
  split at f1
  .rename_i ks ys hn
   cases f1
   obtain ⟨p,ev,hm,hf,us,hp,hl,rs⟩:=l1.ok.loc hn r1
   have hz:(ks.zip us).length=ks.length:=by rw [length_zip,hl,Nat.min_self]
   refine ⟨p,ks.zip us,ev,hp,fun ob nf=>?_⟩
   have lf:Le K W1 (yGu W1 n p (.frz ob (.dK (ks.zip us))) (.fz ks ys)):=ylW l1.ok hn hm hf ⟨hf,ob,us,yF,hl,rs⟩
   have hnl:n<W1.h.length:=(List.getElem?_eq_some_iff.mp hn).1
   have still:∀ W',Lf K (yGu W1 n p (.frz ob (.dK (ks.zip us))) (.fz ks ys)) W'->W'.H p=some (.frz ob (.dK (ks.zip us))):=fun W' l=>by
    obtain ⟨z1,z2⟩:=l.fz n ks ys (getElem?_set_self hnl)
    exact (z2 p hm).trans yF
   refine q _ _ rfl (l1.trans lf) ⟨fun i W' l w hi=>?_,fun i W' v' H2 l w hi hy=>?_,fun W' l w=>?_⟩
   .rw [length_map] at hi
    exact ⟨by rw [hz];exact hi,still W' l⟩
   .rw [length_map] at hi
    obtain ⟨z1,kv,z2,z3⟩:=hy
    refine ⟨z1,yGN kv.1,?_,z3 ▸ yDw kv.1⟩
    obtain ⟨z4,z5⟩:=List.getElem?_eq_some_iff.mp z2
    rw [getElem?_map,List.getElem?_eq_getElem hi,<- z5,List.getElem_zip]
    rfl
   .exact ⟨by rw [length_map,hz],still W' l⟩
  .cases f1
 .cases f1
noncomputable def yRH:List V->Hp->VK->Prop:=fun xs H Q=>∃ (p:Addr) (bs:List Bool),xs=[.ref p]/\H p=some (.lst (bs.map V.bl))/\Q (.bl (bs.any id)) H
def yNv:List PV->AH->Option (PV×AH):=fun xs h=>match xs with|[x]=>(match ycT x h with|some ys=>(match ywr ys with|some ns=>some (.bl (ns.any id),h)|none=>none)|none=>none)|_=>none
theorem yNw:yqG K yRH yNv:=by
 intro W xs vs Q z h' w r e q
 unfold yNv at e
 split at e
 .split at e
  .rename_i ys hy
   split at e
   .rename_i ns hn
    cases e
    obtain ⟨v,rfl,rx⟩:=yzU r
    obtain ⟨a,us,rfl,hs,rs⟩:=ybn w hy rx
    have:=yqI hn rs
    subst this
    exact ⟨a,ns,rfl,hs,q _ W rfl (.refl w) rfl⟩
   .cases e
  .cases e
 .cases e
def yGP (n:Nat) (e:XE) (inn:PV->PSt):Nat->Nat->AH->Option (List PV×AH)
 | 0,i,h=>match h[n]? with|some (.lst xs)=>if xs.length=i then some ([],h) else none|_=>none
 | k+1,i,h=>match h[n]? with
  | some (.lst xs)=>(match xs[i]? with|some x=>ob (e (inn x) h) fun y h1=>ob (yGP n e inn k (i+1) h1) fun ys h2=>some (y::ys,h2)|none=>none)
  | _=>none
def ywB (e:XE) (ix:List Nat) (el:XE):XO:=fun ρ h=>ob (e ρ h) fun x h1=>match x with
 | .loc n=>(match h1[n]? with|some (.lst xs)=>if xs.length<=10000 then ob (yGP n el (ypj ix ρ) xs.length 0 h1) fun ys h2=>some (.lst ys,h2) else none|_=>none)
 | _=>none
theorem yDD {ta tb:TE}{ea eb:XE}(ix:List Nat) (a:ycD K ta ea) (b:ycD K tb eb):yyv K (yFH (yFs K.K ta) ix tb) (ywB ea ix eb):=by
 intro W0 W ρ σ Q d h' gd e q
 obtain ⟨x,h1,e1,f1⟩:=yl e
 refine a W0 W ρ σ _ x h1 gd e1 fun v W1 w1 l1 r1=>?_
 subst w1
 split at f1
 .rename_i n
  split at f1
  .rename_i xs hn
   split at f1
   .rename_i hlen
    obtain ⟨zs,h2,e2,f2⟩:=yl f1
    cases f2
    obtain ⟨p,ev,hm,hf,us,hp,rs⟩:=l1.ok.loc hn r1
    refine ⟨p,ev,⟨us,SqL.of hp⟩,fun D hD=>?_⟩
    have nm:=l1.ok.out hD
    have nf:=l1.ok.ff hD
    refine ⟨fun i m H=>m=xs.length-i/\i<=xs.length/\∃ W' acc done rest,W'.H=H/\Le K W1 W'/\D∉W'.m/\W'.F D=none/\H D=some (.lst acc)/\yei K W' done acc/\done.length=i/\zs=done++rest/\yGP n eb (ypj ix ρ) (xs.length-i) i W'.h=some (rest,h'),⟨_,rfl,zero_le _,yph W1 D (.lst []),[],[],zs,rfl,yeJ l1.ok hD,nm,nf,yF,rfl,rfl,rfl,e2⟩,?_⟩
    rintro i m _ ⟨rfl,hi,W',acc,done,rest,rfl,l,n1,n2,hd,rd,ld,ez,f⟩
    have hm':W'.m[n]?=some p:=ylS l.pre hm
    by_cases hlt:i<xs.length
    .obtain ⟨k,hk⟩:∃ k,xs.length-i=k+1:=⟨xs.length-i-1,by omega⟩
     rw [hk] at f
     unfold yGP at f
     split at f
     .rename_i ys hy
      split at f
      .rename_i z hz
       obtain ⟨p',ev',hm2,hf',vs,hp',rs'⟩:=l.ok.loc hy (v:=.ref p) ⟨p,rfl,hm'⟩
       cases ev'
       obtain ⟨y,h3,k1,f3⟩:=yl f
       obtain ⟨ys',h4,k2,f4⟩:=yl f3
       cases f4
       obtain ⟨vz,hv1,hv2⟩:=rs'.get hz
       refine .inr ⟨⟨vs,vz,SqL.of hp',hv1⟩,fun v H2 hy=>?_⟩
       obtain ⟨rfl,hx⟩:=hy
       have hx:=hx vs (SqL.of hp')
       rw [hv1] at hx
       cases hx
       refine b W' W' _ _ _ y h3 (yzR gd (l1.trans l) ix hv2) k1 fun w W2 w2 l2 r2=>?_
       have nm2:D∉W2.m:=fun z=>by rw [l2.mn D z n1] at hd;cases hd
       have nf2:W2.F D=none:=l2.new D _ hd n1 n2
       refine ⟨acc,l2.keep _ _ hd n1,?_,xs.length-(i+1),by omega,rfl,hlt,yGb W2 D (.lst (acc++[w])),acc++[w],done++[y],ys',rfl,yyA (l.trans l2) nm2 nf2 hD,nm2,nf2,yF,(l2.repL rd).snoc r2,by simp [ld],by simp [ez],?_⟩
       .rw [rd.len,ld];exact big (by omega)
       .show yGP n eb (ypj ix ρ) (xs.length-(i+1)) (i+1) W2.h=some (ys',h')
        rw [w2,show xs.length-(i+1)=k by omega];exact k2
      .cases f
     .cases f
    .have ei:i=xs.length:=by omega
     subst ei
     rw [sub_self] at f
     unfold yGP at f
     split at f
     .rename_i ys hy
      obtain ⟨p',ev',hm2,hf',vs,hp',rs'⟩:=l.ok.loc hy (v:=.ref p) ⟨p,rfl,hm'⟩
      cases ev'
      split at f
      .rename_i hyl
       cases f
       refine .inl ⟨⟨vs,SqL.of hp',by rw [rs'.len,hyl];exact Nat.le_refl _⟩,?_⟩
       rw [append_nil] at ez
       subst ez
       exact q D W' rfl (l1.trans l) n1 (l1.fresh hD) (fun z=>by cases z) ⟨n2,acc,hd,rd⟩
      .cases f
     .cases f
   .cases f1
  .cases f1
 .cases f1
end PX
namespace PX
open PySem L2 PySem.Spec PyProof.Rows
section
variable (K:Ck)
noncomputable def cE (x:XE):TE:=fun σ H Q=>∃ (W0 W:Wd) (ρ:PSt) (y:PV) (h':AH),W.H=H/\Good K W0 W ρ σ/\x ρ W.h=some (y,h')/\∀ v W',W'.h=h'->Le K W W'->yeh K W' y v->Q v W'.H
def cO (x:XO):TE:=fun σ H Q=>∃ (W0 W:Wd) (ρ:PSt) (d:Nd) (h':AH),W.H=H/\Good K W0 W ρ σ/\x ρ W.h=some (d,h')/\∀ p W',W'.h=h'->Le K W W'->p∉W'.m->W.H p=none->d≠.dead->NdAt K W'.F W'.H W'.m d p->Q (.ref p) W'.H
noncomputable def cT (x:XT):TT:=fun σ H Q=>∃ (W0 W:Wd) (ρ:PSt) (y:Bool) (h':AH),W.H=H/\Good K W0 W ρ σ/\x ρ W.h=some (y,h')/\∀ W',W'.h=h'->Le K W W'->Q y W'.H
noncomputable def cA (x:XA):TA:=fun σ H Q=>∃ (W0 W:Wd) (ρ:PSt) (y:List PV) (h':AH),W.H=H/\Good K W0 W ρ σ/\x ρ W.h=some (y,h')/\∀ v W',W'.h=h'->Le K W W'->yei K W' y v->Q v W'.H
noncomputable def cP (x:PSt->AH->Option (Option Int×AH)):TO:=fun σ H Q=>∃ (W0 W:Wd) (ρ:PSt) (y:Option Int) (h':AH),W.H=H/\Good K W0 W ρ σ/\x ρ W.h=some (y,h')/\∀ W',W'.h=h'->Le K W W'->Q y W'.H
noncomputable def cI (x:XA):TI:=fun σ H R=>∃ (W0 W:Wd) (ρ:PSt) (y:List PV) (h':AH),W.H=H/\Good K W0 W ρ σ/\x ρ W.h=some (y,h')/\∀ J W',W'.h=h'->Le K W W'->yPh K W' J y->R J W'.H
noncomputable def cG (y:XG):TG:=fun v σ H Q=>∃ (W0 W:Wd) (ρ ρ':PSt) (x:PV),W.H=H/\Good K W0 W ρ σ/\yeh K W x v/\y x ρ=some ρ'/\∀ σ',Good K W0 W ρ' σ'->Q σ' W.H
noncomputable def cGs (y:XGs):TGs:=fun v σ H Q=>∃ (W0 W:Wd) (ρ ρ':PSt) (x:List PV),W.H=H/\Good K W0 W ρ σ/\yei K W x v/\y x ρ=some ρ'/\∀ σ',Good K W0 W ρ' σ'->Q σ' W.H
def cS (s:XS):TS:=fun D σ H=>∃ (W0 W:Wd) (ρ:PSt) (o:Out) (h':AH),W.H=H/\Good K W0 W ρ σ/\s ρ W.h=some (o,h')/\Ends.Ok K W0 W D h' o
noncomputable def cF (s:XS):TS:=fun D σ H=>∃ (W0 W:Wd) (ρ ρ':PSt) (h':AH),W.H=H/\Good K W0 W ρ σ/\s ρ W.h=some (.nx ρ',h')/\∀ W',W'.h=h'->Lf K W W'->Good K W0 W' ρ' σ->D.nx σ W'.H
end
section
variable {K:Ck}
theorem sE {x:XE}:ycD K (cE K x) x:=fun W0 W ρ σ Q y h' g e q=>⟨W0,W,ρ,y,h',rfl,g,e,q⟩
theorem sO {x:XO}:yyv K (cO K x) x:=fun W0 W ρ σ Q y h' g e q=>⟨W0,W,ρ,y,h',rfl,g,e,q⟩
theorem sT {x:XT}:yxQ K (cT K x) x:=fun W0 W ρ σ Q y h' g e q=>⟨W0,W,ρ,y,h',rfl,g,e,q⟩
theorem sA {x:XA}:yxR K (cA K x) x:=fun W0 W ρ σ Q y h' g e q=>⟨W0,W,ρ,y,h',rfl,g,e,q⟩
theorem sP {x}:yLE K (cP K x) x:=fun W0 W ρ σ Q y h' g e q=>⟨W0,W,ρ,y,h',rfl,g,e,q⟩
theorem sI {x:XA}:yIs K (cI K x) x:=fun W0 W ρ σ Q y h' g e q=>⟨W0,W,ρ,y,h',rfl,g,e,q⟩
theorem sG {y:XG}:yFX K (cG K y) y:=fun W0 W ρ ρ' σ x v Q g r e q=>⟨W0,W,ρ,ρ',x,rfl,g,r,e,q⟩
theorem sGs {y:XGs}:yBh K (cGs K y) y:=fun W0 W ρ ρ' σ x v Q g r e q=>⟨W0,W,ρ,ρ',x,rfl,g,r,e,q⟩
theorem sS {s:XS}:ynj K (cS K s) s:=fun W0 W ρ σ D o h' g e q=>⟨W0,W,ρ,o,h',rfl,g,e,q⟩
theorem sF {s:XS}:yFh K (cF K s) s:=fun W0 W ρ ρ' σ D h' g e q=>⟨W0,W,ρ,ρ',h',rfl,g,e,q⟩
end
abbrev ckX (X:Cx) (A:Nat->Addr):Ck:=⟨X.K,A⟩
structure ZE (X:Cx) (A:Nat->Addr) (e:Expr) (x:XE):Prop where of:PE X e (cE (ckX X A) x)
structure ZO (X:Cx) (A:Nat->Addr) (e:Expr) (x:XO):Prop where of:PE X e (cO (ckX X A) x)
structure ZT (X:Cx) (A:Nat->Addr) (e:Expr) (x:XT):Prop where of:PT X e (cT (ckX X A) x)
structure ZW (X:Cx) (A:Nat->Addr) (e:Expr) (x:XT):Prop where of:PW X e (cT (ckX X A) x)
structure ZA (X:Cx) (A:Nat->Addr) (e:List Expr) (n:Nat) (x:XA):Prop where
 of:PA X e (cA (ckX X A) x)
 len:∀ ρ h xs h',x ρ h=some (xs,h')->xs.length=n
structure ZP (X:Cx) (A:Nat->Addr) (e:Option Expr) (x:PSt->AH->Option (Option Int×AH)):Prop where of:PO X e (cP (ckX X A) x)
structure ZI (X:Cx) (A:Nat->Addr) (tg e:Expr) (x:XA):Prop where of:PI X tg e (cI (ckX X A) x)
structure ZG (X:Cx) (A:Nat->Addr) (e:Expr) (y:XG):Prop where of:PG X e (cG (ckX X A) y)
structure ZGs (X:Cx) (A:Nat->Addr) (e:List Expr) (y:XGs):Prop where of:PGs X e (cGs (ckX X A) y)
structure ZS (X:Cx) (A:Nat->Addr) (e:Stmt) (s:XS):Prop where of:PS X e (cS (ckX X A) s)
structure ZSs (X:Cx) (A:Nat->Addr) (e:List Stmt) (s:XS):Prop where of:PSs X e (cS (ckX X A) s)
structure ZF (X:Cx) (A:Nat->Addr) (e:Stmt) (s:XS):Prop where of:PS X e (cF (ckX X A) s)
structure ZFs (X:Cx) (A:Nat->Addr) (e:List Stmt) (s:XS):Prop where of:PSs X e (cF (ckX X A) s)
section
variable {X:Cx}{A:Nat->Addr}{e:Expr}{es:List Expr}
theorem wE {t:TE}{x:XE}(p:PE X e t) (s:ycD (ckX X A) t x):ZE X A e x:=⟨fun pins st σ H Q I ⟨W0,W,ρ,y,h',eh,g,ex,q⟩=>by subst eh;exact p pins st σ _ Q I (s W0 W ρ σ Q y h' g ex q)⟩
theorem wO {t:TE}{x:XO}(p:PE X e t) (s:yyv (ckX X A) t x):ZO X A e x:=⟨fun pins st σ H Q I ⟨W0,W,ρ,y,h',eh,g,ex,q⟩=>by subst eh;exact p pins st σ _ Q I (s W0 W ρ σ Q y h' g ex q)⟩
theorem wT {t:TT}{x:XT}(p:PT X e t) (s:yxQ (ckX X A) t x):ZT X A e x:=⟨fun pins st σ H Q I ⟨W0,W,ρ,y,h',eh,g,ex,q⟩=>by subst eh;exact p pins st σ _ Q I (s W0 W ρ σ Q y h' g ex q)⟩
theorem wW {t:TT}{x:XT}(p:PW X e t) (s:yxQ (ckX X A) t x):ZW X A e x:=⟨fun wh pins st σ H Q I ⟨W0,W,ρ,y,h',eh,g,ex,q⟩=>by subst eh;exact p wh pins st σ _ Q I (s W0 W ρ σ Q y h' g ex q)⟩
theorem wA {t:TA}{x:XA}{n:Nat}(p:PA X es t) (s:yxR (ckX X A) t x) (l:∀ ρ h xs h',x ρ h=some (xs,h')->xs.length=n):ZA X A es n x:=⟨fun pos pins st σ H Q I ⟨W0,W,ρ,y,h',eh,g,ex,q⟩=>by subst eh;exact p pos pins st σ _ Q I (s W0 W ρ σ Q y h' g ex q),l⟩
theorem wP {o:Option Expr}{t:TO}{x} (p:PO X o t) (s:yLE (ckX X A) t x):ZP X A o x:=⟨fun pins st σ H Q I ⟨W0,W,ρ,y,h',eh,g,ex,q⟩=>by subst eh;exact p pins st σ _ Q I (s W0 W ρ σ Q y h' g ex q)⟩
theorem wI {tg:Expr}{t:TI}{x:XA}(p:PI X tg e t) (s:yIs (ckX X A) t x):ZI X A tg e x:=⟨fun pins st σ H Q I ⟨W0,W,ρ,y,h',eh,g,ex,q⟩=>by subst eh;exact p pins st σ _ Q I (s W0 W ρ σ Q y h' g ex q)⟩
theorem wG {t:TG}{y:XG}(p:PG X e t) (s:yFX (ckX X A) t y):ZG X A e y:=⟨fun pins st σ H v u Q I rv ⟨W0,W,ρ,ρ',x,eh,g,r,ex,q⟩=>by subst eh;exact p pins st σ _ v u Q I rv (s W0 W ρ ρ' σ x v Q g r ex q)⟩
theorem wGs {t:TGs}{y:XGs}(p:PGs X es t) (s:yBh (ckX X A) t y):ZGs X A es y:=⟨fun pins st σ H v u Q I rv ⟨W0,W,ρ,ρ',x,eh,g,r,ex,q⟩=>by subst eh;exact p pins st σ _ v u Q I rv (s W0 W ρ ρ' σ x v Q g r ex q)⟩
theorem wS {st:Stmt}{t:TS}{x:XS}(p:PS X st t) (s:ynj (ckX X A) t x):ZS X A st x:=⟨fun pins st σ H D I ⟨W0,W,ρ,o,h',eh,g,ex,q⟩=>by subst eh;exact p pins st σ _ D I (s W0 W ρ σ D o h' g ex q)⟩
theorem wSs {st:List Stmt}{t:TS}{x:XS}(p:PSs X st t) (s:ynj (ckX X A) t x):ZSs X A st x:=⟨fun pins st σ H D I ⟨W0,W,ρ,o,h',eh,g,ex,q⟩=>by subst eh;exact p pins st σ _ D I (s W0 W ρ σ D o h' g ex q)⟩
theorem wF {st:Stmt}{t:TS}{x:XS}(p:PS X st t) (s:yFh (ckX X A) t x):ZF X A st x:=⟨fun pins st σ H D I ⟨W0,W,ρ,ρ',h',eh,g,ex,q⟩=>by subst eh;exact p pins st σ _ D I (s W0 W ρ ρ' σ D h' g ex q)⟩
theorem wFs {st:List Stmt}{t:TS}{x:XS}(p:PSs X st t) (s:yFh (ckX X A) t x):ZFs X A st x:=⟨fun pins st σ H D I ⟨W0,W,ρ,ρ',h',eh,g,ex,q⟩=>by subst eh;exact p pins st σ _ D I (s W0 W ρ ρ' σ D h' g ex q)⟩
end
structure Nm (x:Str):Prop where
 d:(x == ("__debug__":Str))=false
 c:(x == ("__classdict__":Str))=false
 n:x≠"__name__"
section
variable {X:Cx}{A:Nat->Addr}{a b c o:Expr}{es:List Expr}{xa xb xc:XE}{xo:XO}{aa:XA}{pos p apos:Pos}{x:Str}{n k:Nat}
theorem ywC {j}:ZE X A (.Constant .none j pos) (xC .non):=wE yLU yJG
theorem yLK {b j}:ZE X A (.Constant (.bool b) j pos) (xC (.bl b)):=wE yOE yMB
theorem z_int {i j}:ZE X A (.Constant (.int i) j pos) (xC (.int i)):=wE yLT yCL
theorem z_str {x j}:ZE X A (.Constant (.str x) j pos) (xC (.str x)):=wE yLV yCM
theorem yoA {i:Nat}(m:Nm x) (hN:X.N[i]?=some x) (hv:Vis X.env.scope x):ZE X A (.Name x pos) (yf i):=wE (ybu hN hv m.d m.c) (yJF i)
theorem z_v (i:Nat) (m:Nm x) (hN:X.N[i]?=some x:=by rfl) (hv:Vis X.env.scope x:=by exact Or.inl rfl):ZE X A (.Name x pos) (yf i):=yoA m hN hv
theorem yqO {n:Int}{t:Tok}(m:Nm x) (hg:Gl X x) (hm:X.mg x=some (.int n t)):ZE X A (.Name x pos) (xC (.int n)):=wE (yJA hg hm m.d) yCL
theorem ywD {n:Str}{t:Tok}(m:Nm x) (hg:Gl X x) (hm:X.mg x=some (.str n t)):ZE X A (.Name x pos) (xC (.str n)):=wE (yJB hg hm m.d) yCM
theorem yjn {k:Nat}(m:Nm x) (hg:Gl X x) (hm:X.mg x=some (.ref (A k))):ZE X A (.Name x pos) (xC (.cls k)):=wE (yyl hg hm m.d) (yJH (K:=ckX X A))
theorem yNx {n:String}(m:Nm x) (hg:Gl X x) (hm:X.mg x=none) (hv:bootBuiltins x=some (.type n)):ZE X A (.Name x pos) (xC (.ty n)):=wE (yMA hg hm hv m.n m.d) yMC
theorem yce (h:ZO X A a xo):ZE X A a (xFz xo):=wE h.of (yIp sO)
theorem yif (h:ZO X A a xo):ZE X A a (yor xo):=wE h.of (yJO sO)
theorem yfW {op:Operator}{r:R2}{q:P2}(ho:OpR X (binaryOp op) r) (hq:ycS (ckX X A) r q) (ha:ZE X A a xa) (hb:ZE X A b xb):ZE X A (.BinOp a op b pos) (xOp q xa xb):=wE (yMm ho ha.of hb.of) (yzP hq sE sE)
theorem ynt {op:Operator}{r:R2}{q:P2O}(ho:OpR X (binaryOp op) r) (hq:yzO (ckX X A) r q) (ha:ZE X A a xa) (hb:ZE X A b xb):ZO X A (.BinOp a op b pos) (ytz q xa xb):=wO (yMm ho ha.of hb.of) (yJI hq sE sE)
theorem yQn {op:UnaryOp}{r} {q} (ho:UnR X (unaryOp op) r) (hq:yJE (ckX X A) r q) (ha:ZE X A a xa):ZE X A (.UnaryOp op a pos) (xUn q xa):=wE (yOM ho ha.of) (yMD hq sE)
theorem yQo (ha:ZE X A a xa):ZE X A (.UnaryOp .Not a pos) (yJC xa):=wE (yMe ha.of) (yFP sE)
theorem yll {op:CmpOp}{r:R2}{q:P2}(ho:OpR X (compareOp op) r) (hq:ycS (ckX X A) r q) (ha:ZE X A a xa) (hb:ZE X A b xb) (hm:behindInMarks op b=false):ZE X A (.Compare a [op] [b] pos) (xOp q xa xb):=wE (yJl ho ha.of hb.of hm) (yzP hq sE sE)
theorem yDE {op op':CmpOp}{r r':R2}{q q':P2}(ho:OpR X (compareOp op) r) (ho':OpR X (compareOp op') r') (hq:ycS (ckX X A) r q) (hq':ycS (ckX X A) r' q') (ha:ZE X A a xa) (hb:ZE X A b xb) (hc:ZE X A c xc) (hm:lastMarks [op,op'] [b,c]=false):ZE X A (.Compare a [op,op'] [b,c] pos) (yln q q' xa xb xc):=wE (yFv ho ho' ha.of hb.of hc.of hm) (ywo hq hq' sE sE sE)
theorem yBn {op} (h:ZE X A a xa):ZE X A (.BoolOp op [a] pos) xa:=⟨yMc h.of⟩
theorem yyJ (ha:ZE X A a xa) (hb:ZE X A (.BoolOp .And (b::es) pos) xb):ZE X A (.BoolOp .And (a::b::es) pos) (ypY xa xb):=wE (yMd ha.of hb.of) (yFO sE sE)
section
variable {ca cb:XT}
theorem yKy (hc:ZT X A c ca) (ha:ZE X A a xa) (hb:ZE X A b xb):ZE X A (.IfExp c a b pos) (xIf ca xa xb):=wE (yFn hc.of ha.of hb.of) (yMG sT sE sE)
theorem yA {op:CmpOp}{r:R2}{q:P2}(ho:OpR X (compareOp op) r) (hq:ycS (ckX X A) r q) (ha:ZE X A a xa) (hb:ZE X A b xb) (hm:behindInMarks op b=false):ZT X A (.Compare a [op] [b] pos) (yo (xOp q xa xb)):=wT (yJn ho ha.of hb.of hm) (yuz (yzP hq sE sE))
theorem yqt {op op':CmpOp}{r r':R2}{q q':P2}(ho:OpR X (compareOp op) r) (ho':OpR X (compareOp op') r') (hq:ycS (ckX X A) r q) (hq':ycS (ckX X A) r' q') (ha:ZE X A a xa) (hb:ZE X A b xb) (hc:ZE X A c xc) (hm:lastMarks [op,op'] [b,c]=false):ZT X A (.Compare a [op,op'] [b,c] pos) (yo (yln q q' xa xb xc)):=wT (yFw ho ho' ha.of hb.of hc.of hm) (yuz (ywo hq hq' sE sE sE))
theorem yig (ha:ZT X A a ca):ZT X A (.UnaryOp .Not a pos) (yuw ca):=wT (yLZ ha.of) (yJK sT)
theorem ycv (h:ZE X A a xa) (he:∀ whole,isTrue a X.env whole=(do let v <- whole;standAt a.pos;holding [v] (truthy v))):ZT X A a (yo xa):=wT (yLW h.of he) (yME sE)
theorem yAo (h:ZW X A a ca):ZT X A a ca:=⟨PW.pt h.of⟩
theorem yDF (ha:ZT X A a ca) (hb:ZW X A (.BoolOp .And (b::es) pos) cb):ZW X A (.BoolOp .And (a::b::es) pos) (yJD ca cb):=wW (yLY ha.of hb.of) (yJJ sT sT)
theorem ynu (ha:ZT X A a ca) (hb:ZW X A (.BoolOp .Or (b::es) pos) cb):ZW X A (.BoolOp .Or (a::b::es) pos) (xOr ca cb):=wW (yOG ha.of hb.of) (yMF sT sT)
theorem yyK (ha:ZT X A a ca):ZW X A (.BoolOp .And [a] pos) ca:=⟨yJh ha.of⟩
theorem yjE (ha:ZT X A a ca):ZW X A (.BoolOp .Or [a] pos) ca:=⟨yLX ha.of⟩
end
theorem ye:ZA X A [] 0 yj:=wA yvM yuA yyy
theorem ya (ha:ZE X A a xa) (hr:ZA X A es n aa) (hs:starEach (a::es) X.env=(false,eval a X.env)::starEach es X.env):ZA X A (a::es) (n+1) (yb xa aa):=wA (yot ha.of hr.of hs) (yFQ sE sA) (yFT hr.len)
theorem ybZ (h:ZA X A es n aa):ZO X A (.List es pos) (yeG aa):=wO (yMp h.of) (yJN sA)
theorem ycb {q} (h:ZA X A es n aa):ZE X A (.Tuple es q pos) (yfj aa):=wE (yMo h.of) (yJM sA)
theorem yQp:ZP X A none yqF:=wP yJu yBe
theorem yyL (h:ZE X A a xa):ZP X A (some a) (yyw xa):=wP (yJv h.of) (yFU sE)
section
variable {lo hi:Option Expr}{xl xh:PSt->AH->Option (Option Int×AH)}{p2:Pos}
theorem yNy {r} {q} (hr:SlR X r) (hq:yCP (ckX X A) r q) (ha:ZE X A a xa) (hl:ZP X A lo xl) (hh:ZP X A hi xh):ZO X A (.Subscript a (.Slice lo hi none p2) pos) (yLD q xa xl xh):=wO (yFF hr ha.of hl.of hh.of) (yJR hq sE sP sP)
end
theorem ybF {r:R2}{q:P2}(hr:IxR X r) (hq:ycS (ckX X A) r q) (ha:ZE X A a xa) (hb:ZE X A b xb) (hs:yCz b):ZE X A (.Subscript a b pos) (xOp q xa xb):=wE (yOR hr ha.of hb.of hs) (yzP hq sE sE)
theorem yE {cs:List Nat}{f:Str}(hc:∀ k∈cs,Cls X.K (A k)/\NoAttr X.K (A k) f) (ha:ZE X A a xa) (hb:attributeBase a f X.env (eval a X.env)=eval a X.env):ZE X A (.Attribute a f pos) (ybk cs f xa):=wE (yMn ha.of hb) (yKc (K:=ckX X A) hc sE)
section
variable {f C:Addr}{fd:FuncData}{ps:List Str}{lv:Nat}{fn:Fn}
theorem yV (F:FnOk X.prog X.w X.K X.mg X.base CX0 lv f fd ps (spE (ckX X A) (n+1) fn)) (hr:Room lv X.A) (m:Nm x) (hg:Gl X x) (hm:X.mg x=some (.ref f)) (hk:keepIn X.K (.ref f)=true) (hb:Binds X.K fd ps [])
  (ha:ZA X A (a::es) (n+1) aa) (he:starEach (a::es) X.env=(false,eval a X.env)::starEach es X.env) (hpl:(backTo pos (starEach es X.env)).any (·.1)=false):ZE X A (.Call (.Name x p) (a::es) [] pos) (yU fn aa) :=
 wE (yJs F hr hg hm hk hb .nil yvU ha.of m.d he hpl) (yFS sA ha.len)
theorem ylq {k:Nat}{fi} (M:Mk X.K (A k) f) (F:FnOk X.prog X.w X.K X.mg X.base CX0 lv f fd ps (spI (ckX X A) (n+1) k fi)) (hr:Room (lv+1) X.A) (m:Nm x) (hg:Gl X x) (hm:X.mg x=some (.ref (A k))) (hb:Binds X.K fd ps [])
  (ha:ZA X A (a::es) (n+1) aa) (he:starEach (a::es) X.env=(false,eval a X.env)::starEach es X.env) (hpl:(backTo pos (starEach es X.env)).any (·.1)=false):ZO X A (.Call (.Name x p) (a::es) [] pos) (ylU fi aa) :=
 wO (yCv M F hr hg hm hb .nil yvU ha.of m.d he hpl) (yzX (K:=ckX X A) (k:=k) sA ha.len)
theorem yKz {k:Nat}(hm:makesIn X.K (A k)=true) (hi:findIn X.K (.ref (A k)) "__init__" = some (some (.builtin "object.__init__"))) (hk:keepIn X.K (.ref (A k))=true) (m:Nm x) (hg:Gl X x) (hmg:X.mg x=some (.ref (A k))):ZO X A (.Call (.Name x p) [] [] pos) (yzY k) :=
 wO (yFK hm hi hk hg hmg m.d) (yDd (K:=ckX X A))
theorem yDG {m:Str}{fm:Nat->Fn}{pl:Sem Bool}(he:ZE X A o xa) (G:yyk X.prog X.w X.K X.mg X.base lv A m (fun k=>spE (ckX X A) 1 (fm k))) (hr:Room lv X.A)
  (ht:eval (.Call (.Attribute o m apos) [] [] pos) X.env=(do
   let ov <- eval o X.env
   standAt apos.atName
   let (f,first) <- holding [ov] (getMethod ov m pl)
   callWith pos f first (backTo pos (starEach [] X.env)) (backToKw pos (keywordEach [] X.env)))):ZE X A (.Call (.Attribute o m apos) [] [] pos) (ysZ m fm xa) :=
 wE (yCJ he.of G hr ht) (yGp (K:=ckX X A) sE)
end
theorem yiF {id:String}{r} {q} (hc:ylQ X (.builtin id) r) (hq:yqG (ckX X A) r q) (m:Nm x) (hg:Gl X x) (hm:X.mg x=none) (hv:bootBuiltins x=some (.builtin id)) (ha:ZA X A (a::es) n aa) (he:starEach (a::es) X.env=(false,eval a X.env)::starEach es X.env) (hpl:(backTo pos (starEach es X.env)).any (·.1)=false):ZE X A (.Call (.Name x p) (a::es) [] pos) (xCB q aa) :=
 wE (yun hc hg hm hv ha.of m.n m.d he hpl) (yIq hq sA)
theorem yKA {T:String}{r} {q} (hc:ylQ X (.type T) r) (hq:yqG (ckX X A) r q) (m:Nm x) (hg:Gl X x) (hm:X.mg x=none) (hv:bootBuiltins x=some (.type T)) (ha:ZA X A (a::es) n aa) (he:starEach (a::es) X.env=(false,eval a X.env)::starEach es X.env) (hpl:(backTo pos (starEach es X.env)).any (·.1)=false):ZE X A (.Call (.Name x p) (a::es) [] pos) (xCB q aa) :=
 wE (yvS hc hg hm hv ha.of m.n m.d he hpl) (yIq hq sA)
theorem ycV {T:String}{r} {q} (hc:ylQ X (.type T) r) (hq:yCK (ckX X A) r q) (m:Nm x) (hg:Gl X x) (hm:X.mg x=none) (hv:bootBuiltins x=some (.type T)) (ha:ZA X A (a::es) n aa) (he:starEach (a::es) X.env=(false,eval a X.env)::starEach es X.env) (hpl:(backTo pos (starEach es X.env)).any (·.1)=false):ZO X A (.Call (.Name x p) (a::es) [] pos) (ynk q aa) :=
 wO (yvS hc hg hm hv ha.of m.n m.d he hpl) (yJP hq sA)
section
variable {name:Str}{cpos:Pos}{T id:String}{r:V->List V->Hp->VK->Prop}{cc:PV->AH->Bool}{q:PM}
theorem yLL (pa:PlainAttrs T) (slot:Slot T name id) (hty:typeOf (.builtin id)=pure (.type "method_descriptor")) (hm:MtR X id r) (hq:yux (ckX X A) T cc r q) (ho:ZE X A o xa) (ha:ZA X A (a::es) n aa)
  (hbase:attributeBase o name X.env (eval o X.env)=eval o X.env)
  (hfew:((backTo cpos (starEach (a::es) X.env)).all (fun x=>!x.1) && (backToKw cpos (keywordEach [] X.env)).all (fun x=>x.1.isSome)
   && decide ((a::es).length+([]:List Keyword).length+(if ([]:List Keyword).isEmpty then 0 else 1)<30))=true)
  (hline:(apos.endLine == cpos.line)=true) (hs:starEach (a::es) X.env=(false,eval a X.env)::starEach es X.env) (hplain:(backTo cpos (starEach es X.env)).any (·.1)=false) :
  ZE X A (.Call (.Attribute o name apos) (a::es) [] cpos) (xBM cc q xa aa):=wE (yJw pa slot hty hm ho.of ha.of hbase hfew hline hs hplain) (yIr (K:=ckX X A) hq sE sA)
theorem yGQ (pa:PlainAttrs T) (slot:Slot T name id) (hty:typeOf (.builtin id)=pure (.type "method_descriptor")) (hm:MtR X id r) (hq:yux (ckX X A) T cc r q) (ho:ZE X A o xa)
  (hbase:attributeBase o name X.env (eval o X.env)=eval o X.env) (hline:(apos.endLine == cpos.line)=true) :
  ZE X A (.Call (.Attribute o name apos) [] [] cpos) (xBM cc q xa yj):=wE (yIj pa slot hty hm ho.of hbase hline) (yJQ (K:=ckX X A) hq sE)
theorem yII {i:Nat}(ho:PE X o (yBW i)) (ha:ZE X A a xa)
  (hbase:attributeBase o "append" X.env (eval o X.env)=eval o X.env)
  (hfew:((backTo cpos (starEach [a] X.env)).all (fun x=>!x.1) && (backToKw cpos (keywordEach [] X.env)).all (fun x=>x.1.isSome)
   && decide ([a].length+([]:List Keyword).length+(if ([]:List Keyword).isEmpty then 0 else 1)<30))=true)
  (hline:(apos.endLine == cpos.line)=true) (hs:starEach [a] X.env=(false,eval a X.env)::starEach [] X.env) (hplain:(backTo cpos (starEach [] X.env)).any (·.1)=false)
  (hsw:swapsWith (.Call (.Attribute o "append" apos) [a] [] cpos) none pos.line X.env=pure false) :
  ZS X A (.Expr (.Call (.Attribute o "append" apos) [a] [] cpos) pos) (ysX i xa) :=
 wS (yuk (yJw plainAttrs_list PySem.F.slot_list_append PySem.F.type_list_append yid ho (yot ha.of yvM hs) hbase hfew hline hs hplain) hsw) (yGc (K:=ckX X A) i sE)
end
section
variable {tg:Expr}
theorem ygh (h:ZE X A a xa):ZI X A tg a (xIL xa):=wI (yxZ h.of) (yCV (K:=ckX X A) sE)
theorem yNz (h:ZE X A a xa):ZI X A tg a (xIS xa):=wI (yMy h.of) (yGd sE)
theorem yyM (hg:Gl X "range") (hm:X.mg "range" = none) (ha:ZA X A [a] n aa) (hs:starEach [a] X.env=[(false,eval a X.env)]):ZI X A tg (.Call (.Name "range" p) [a] [] pos) (yFe aa):=wI (yCi hg hm ha.of hs) (yCW sA)
end
theorem yjF {i:Nat}(hN:X.N.Nodup) (hi:X.N[i]?=some x) (hx:Loc X.env.scope x) (hf:X.fn x=true\/X.env.scope.names.lookup x=some .local):ZG X A (.Name x pos) (yr i):=wG (yul hN hi hx hf) (yqH i)
theorem yKB:ZGs X A [] yOA:=wGs yJj yFY
theorem yAp {y:XG}{ys:XGs}(h1:ZG X A a y) (h2:ZGs X A es ys) (hs:(assignEach (a::es) X.env).map (·.2)=assign a X.env::(assignEach es X.env).map (·.2)):ZGs X A (a::es) (yBf y ys):=wGs (yFp h1.of h2.of hs) (yCS sG sGs)
theorem yNA {ys:XGs}{q:Nat}(hc:X.calm=true) (h:ZGs X A es ys) (hn:(assignEach es X.env).length=n) (hst:(assignEach es X.env).findIdx? (·.1)=none):ZG X A (.Tuple es q pos) (yMH n ys):=wG (yMi hc h.of hn hst) (yFZ (K:=ckX X A) sGs)
theorem ynv {elt iter:Expr}{px:Pos}{scope:Scope}{cpos:Pos}{it:XA}{xe:XE}(ix:List Nat) (fr:List Str) (hc:X.calm=true) (hi:ZI X A (.Name x px) iter it) (hfr:FrOk X scope ix fr)
  (he:∀ (cl:List (Str×Addr)) (C:Addr) (s₃:Shared) (H₃:Hp) (fp:List Addr) (pins:List (Addr×Obj)),ZE (cxC X scope cl C (x::fr) s₃ H₃ fp pins) A elt xe)
  (hnd:(x::fr).Nodup) (hkind:scope.kind=.function) (hcell:∀ y∈scope.names,y.2≠.cell)
  (hnames:∀ y∈scope.names,y.2=.local->scope.names.lookup y.1=some .local) (hfree0:∀ y∈scope.names,y.2=.free->y.1∈fr) (hx:scope.names.lookup x=some .local)
  (hs:∀ v,foldedSetIterable iter X.env v=pure v):ZO X A (.ListComp elt [⟨.Name x px,iter,[],0⟩] scope cpos) (ylk it ix xe) :=
 wO (yCI ix fr hc hi.of hfr (te:=cE (ckX X A) xe) (fun cl C s₃ H₃ fp pins=>(he cl C s₃ H₃ fp pins).of) hnd hkind hcell hnames hfree0 hx hs) (yzS (K:=ckX X A) ix sI sE)
section
variable {st:Stmt}{rest:List Stmt}{s u:XS}
theorem ym (h:ZE X A a xa):ZS X A (.Return (some a) pos) (yS xa):=wS (yMg h.of) (yJT sE)
theorem ybg (h:ZE X A a xa) (hs:swapsWith a none pos.line X.env=pure false):ZS X A (.Expr a pos) (ybv xa):=wS (yuk h.of hs) (yFW sE)
theorem yu {i:Nat}{pos':Pos}(hN:X.N.Nodup) (hi:X.N[i]?=some x) (hx:Loc X.env.scope x) (h:ZE X A a xa) (hs:swapsWith a (some (.Name x pos')) pos.line X.env=pure false) (hf:X.fn x=true\/X.env.scope.names.lookup x=some .local):ZS X A (.Assign [.Name x pos'] a pos) (ybI xa (yr i)) :=
 wS (yHY hN hi hx h.of hs hf) (yCT sE (yqH i))
theorem yyN {i:Nat}{pos':Pos}(hN:X.N.Nodup) (hi:X.N[i]?=some x) (hx:Loc X.env.scope x) (h:ZO X A a xo) (hs:swapsWith a (some (.Name x pos')) pos.line X.env=pure false) (hf:X.fn x=true\/X.env.scope.names.lookup x=some .local):ZS X A (.Assign [.Name x pos'] a pos) (yBg xo i) :=
 wS (yHY hN hi hx h.of hs hf) (yGa i sO)
theorem ybJ {cs:List Nat}{f:Str}{pos':Pos}{i:Nat}(hc:∀ k∈cs,Cls X.K (A k)/\NoAttr X.K (A k) f) (ho:PE X o (yBW i)) (h:ZE X A a xa) (hs:swapsWith a (some (.Attribute o f pos')) pos.line X.env=pure false):ZF X A (.Assign [.Attribute o f pos'] a pos) (ydq cs i f xa):=wF (yIf ho h.of hs) (yGm (K:=ckX X A) hc sE)
theorem yM {ca:XT}{l m:List Stmt}(hc:ZT X A c ca) (ha:ZSs X A l s) (hb:ZSs X A m u):ZS X A (.If c l m pos) (yca ca s u):=wS (yOI hc.of ha.of hb.of) (yJU sT sS sS)
theorem ytE {tg iter:Expr}{it:XA}{y:XG}(hp:PassesOwn (model X.prog X.w) X.A X.env X.xe) (hc:X.calm=true) (hi:ZI X A tg iter it) (hg:ZG X A tg y) (hb:ZSs X A rest s) (hs:∀ x,foldedSetIterable iter X.env x=pure x):ZS X A (.For tg iter rest [] pos) (yzQ it y s):=wS (yIa hp hc hi.of hg.of hb.of hs) (yJY sI sG sS)
theorem yuN {ca:XT}(fu:Nat) (hp:PassesOwn (model X.prog X.w) X.A X.env X.xe) (hc:ZT X A c ca) (hb:ZSs X A rest s):ZS X A (.While c rest [] pos) (ylo fu ca s):=wS (yFq hp hc.of hb.of) (yCX fu sT sS)
theorem yp:ZSs X A [] yP:=wSs yJi yFV
theorem yg (h:ZS X A st s):ZSs X A [st] s:=⟨yCe h.of⟩
theorem yc (h:ZS X A st s) (hr:ZSs X A rest u):ZSs X A (st::rest) (yn s u):=wSs (yzF h.of hr.of) (yJS sS sS)
theorem yqP (i:Nat) (h:ZSs X A rest s):ZSs X A rest (yCQ i s):=wSs h.of (yJV i sS)
theorem yfy (h:ZF X A st s):ZFs X A [st] s:=⟨yCe h.of⟩
theorem ybz (h:ZF X A st s) (hr:ZFs X A rest u):ZFs X A (st::rest) (yn s u):=wFs (yzF h.of hr.of) (yGn sF sF)
end
end
section
variable {P:Program}{w:World}{K:PySem.W.Frag}{mg:Str->Option Value}{base:Heap}{A:Nat->Addr}
theorem zfn {x qual:Str}{st:Stmt}{f:Addr}{fd:FuncData}{N ps:List Str}{k:Nat}{s:XS}(F:Fun K x qual st f fd) (S:yi N ps (yh st))
  (h:∀ (cdv:Value) (Ar:Around) (outer:List Env) (sh:Shared) (H:Hp) (E:XK),Room k (Ar.deeper (envOfC qual (yh st) sh.heap.objs.size f cdv))->ZSs (yFE CX0 P w K mg base N qual (yh st) f cdv Ar outer sh H E).nox A (ylR st) s) :
  FnOk P w K mg base CX0 (k+1) f fd ps (spE ⟨K,A⟩ ps.length (ybX N.length s)) :=
 F.ok S (fun _ _ _ _ h=>yJZ h) fun cdv Ar outer sh H vs Q E hr hq=>⟨_,(h cdv Ar outer sh H E hr).of,yGe (K:=⟨K,A⟩) sS hq⟩
theorem zin {x qual:Str}{st:Stmt}{f:Addr}{fd:FuncData}{N ps:List Str}{k kc n:Nat}{s:XS}(F:Fun K x qual st f fd) (S:yi N ps (yh st)) (hn:ps.length=n+1) (hN:n+1<=N.length)
  (h:∀ (cdv:Value) (Ar:Around) (outer:List Env) (sh:Shared) (H:Hp) (E:XK),Room k (Ar.deeper (envOfC qual (yh st) sh.heap.objs.size f cdv))->ZFs (yFE CX0 P w K mg base N qual (yh st) f cdv Ar outer sh H E).nox A (ylR st) s) :
  FnOk P w K mg base CX0 (k+1) f fd ps (spI ⟨K,A⟩ n kc (yxS N.length kc s)) :=
 F.ok S (fun _ _ _ _ h=>(yKd h).trans hn.symm) fun cdv Ar outer sh H vs Q E hr hq=>⟨_,(h cdv Ar outer sh H E hr).of,yGo (K:=⟨K,A⟩) hN sF hq⟩
end
end PX
namespace PX
open PySem L2 PySem.Spec PyProof.Rows
section
variable {X:Cx}{A:Nat->Addr}{a b c o i:Expr}{es:List Expr}{xa xb xc xd xk xv:XE}{xo:XO}{aa:XA}{pos p apos cpos pos':Pos}{x:Str}{n k:Nat}
theorem yNB (hu:X.A.units+1<cLine) (ho:ZE X A o xd) (hi:ZE X A i xk) (hs:yQa i):ZE X A (.Subscript o i pos) (yKr xd xk):=wE (yKp hu ho.of hi.of hs) (yGy sE sE)
theorem yKC (hu:X.A.units+1<cLine) (ho:ZE X A o xd) (hi:ZE X A i xk) (hv:ZE X A a xv) (hs:swapsWith a (some (.Subscript o i pos')) pos.line X.env=pure false):ZS X A (.Assign [.Subscript o i pos'] a pos) (yBj xd xk xv):=wS (yKq hu ho.of hi.of hv.of hs) (yGz sE sE sE)
theorem yAq:ZO X A (.Dict [] [] pos) yBk:=wO yGt yGA
theorem yoB (h:ZE X A a xv) (ho:ZE X A o xd) (hi:ZE X A i xk)
  (ha:∀ v,assign (.Subscript o i pos') X.env v=(do
   let ov <- holding [v] (eval o X.env)
   let iv <- holding [v,ov] (eval i X.env)
   standAt pos'
   holding [v,ov,iv] (setItem ov iv v)
   release [v,ov,iv] []))
  (hs:swapsWithSole [.Subscript o i pos'] a pos.line X.env=pure false) (hw:swappedStores [.Subscript o i pos'] a X.env=pure none) (h1:(assignEach [.Subscript o i pos'] X.env).map (·.2)=[assign (.Subscript o i pos') X.env]) :
  ZS X A (.Assign [.Subscript o i pos'] a pos) (yjD xd xk xv):=wS (yMk h.of (yMj ho.of hi.of set_list ha) hs hw h1) (yGv sE sE sE)
end
end PX
namespace PX
open PySem L2 PySem.Spec PyProof.Rows
theorem ywE:bootBuiltins "sorted" = some (.builtin "sorted"):=by rfl'
section
variable {X:Cx}{A:Nat->Addr}{a b c o:Expr}{es:List Expr}{xa xb xc:XE}{pos p apos cpos:Pos}{x:Str}{n k:Nat}
theorem yNC {i:Nat}(ho:PE X o (yBW i)) (ha:ZE X A a xa)
  (hbase:attributeBase o "extend" X.env (eval o X.env)=eval o X.env)
  (hfew:((backTo cpos (starEach [a] X.env)).all (fun x=>!x.1) && (backToKw cpos (keywordEach [] X.env)).all (fun x=>x.1.isSome)
   && decide ([a].length+([]:List Keyword).length+(if ([]:List Keyword).isEmpty then 0 else 1)<30))=true)
  (hline:(apos.endLine == cpos.line)=true) (hs:starEach [a] X.env=(false,eval a X.env)::starEach [] X.env) (hplain:(backTo cpos (starEach [] X.env)).any (·.1)=false)
  (hsw:swapsWith (.Call (.Attribute o "extend" apos) [a] [] cpos) none pos.line X.env=pure false) :
  ZS X A (.Expr (.Call (.Attribute o "extend" apos) [a] [] cpos) pos) (yGC i xa) :=
 wS (yuk (yJw plainAttrs_list PySem.F.slot_list_extend PySem.F.type_list_extend yCD ho (yot ha.of yvM hs) hbase hfew hline hs hplain) hsw) (yGD (K:=ckX X A) i sE)
theorem yND {i:Nat}(ho:PE X a (yBW i)) (m:Nm x) (hg:Gl X x) (hm:X.mg x=none) (hv:bootBuiltins x=some (.builtin "len")) (he:starEach [a] X.env=(false,eval a X.env)::starEach [] X.env) (hpl:(backTo pos (starEach [] X.env)).any (·.1)=false) :
  ZE X A (.Call (.Name x p) [a] [] pos) (yGE i) :=
 wE (yun yJ hg hm hv (yot ho yvM he) m.n m.d he hpl) (yGF (K:=ckX X A) i)
end
section
variable {X:Cx}{A:Nat->Addr}{tg a b c:Expr}{p pos:Pos}{aa:XA}{n:Nat}
end
section
theorem yfz {xs:List V}{its:List Value}(r:Vals xs its) {j:Nat}(hj:j<its.toArray.size):∃ x,xs[j]?=some x/\RelV x its.toArray[j]:=by
 have hl:=r.length
 have j1:j<its.length:=by simpa using hj
 have x1:xs[j]?=some xs[j]:=List.getElem?_eq_getElem (by omega)
 obtain ⟨u1,q1,w1⟩:=r.get x1
 have g1:its.toArray[j]=u1:=by
  have:=List.getElem?_eq_getElem j1
  rw [q1] at this
  simpa using (Option.some.inj this).symm
 exact ⟨_,x1,by rw [g1];exact w1⟩
variable {X:Cx}
theorem yAr {pins:List (Addr×Obj)}{σ:L2.St}{H:Hp}{s:Shared}(I:Inv X pins σ H s) {n:Nat}{x y:V}{b:Bool}(r:EqR X.K H n x y b):∀ {A:Around}{u v:Value},RelV x u->RelV y v->A.units+n<cLine->SeqAt.EqAt A s u v b:=by
 induction r with
 | flat fx fy=>exact fun rx ry _=>yIg rx ry fx fy
 | same =>
  intro A u v rx ry _
  cases rx
  cases ry
  exact SeqAt.EqAt.same _
 | odd h =>
  obtain ⟨a,o,ob,h1,h2⟩:=h
  have:=(I.bs a ob (I.ok.mod.kin a ob h2)).2
  rw [h1] at this
  cases this
 | nt hb =>
  intro A u v rx ry hu
  cases rx
  cases ry
  obtain ⟨i2,r2,p2,z2⟩:=I.tuple hb
  exact SeqAt.EqAt.none_tuple p2 (by omega)
 | tn hb =>
  intro A u v rx ry hu
  cases rx
  cases ry
  obtain ⟨i2,r2,p2,z2⟩:=I.tuple hb
  exact SeqAt.EqAt.tuple_none p2 (by omega)
 | @lst n a b xs ys e ha hb hl hne he ih =>
  intro A u v rx ry hu
  cases rx
  cases ry
  obtain ⟨i1,n1,r1,e1,z1⟩:=I.lst ha
  obtain ⟨i2,n2,r2,e2,z2⟩:=I.lst hb
  have l1:=r1.length
  have l2:=r2.length
  rw [show xs.length=i1.toArray.size by simp only [size_toArray];omega]
  refine SeqAt.EqAt.of_refs hne (SeqAt.RcAt.lists ⟨_,e1,rfl,n1,rfl⟩ ⟨_,e2,rfl,n2,rfl⟩ (by simp only [size_toArray];omega) (by omega) fun j j1 j2=>?_)
  obtain ⟨x1,q1,w1⟩:=yfz r1 j1
  obtain ⟨y1,q2,w2⟩:=yfz r2 j2
  exact ih j x1 y1 q1 q2 w1 w2 (by show A.units+1+n<cLine;omega)
 | @lstN n a b xs ys ha hb hl =>
  intro A u v rx ry hu
  cases rx
  cases ry
  obtain ⟨i1,n1,r1,e1,z1⟩:=I.lst ha
  obtain ⟨i2,n2,r2,e2,z2⟩:=I.lst hb
  have l1:=r1.length
  have l2:=r2.length
  have hne:a≠b:=fun z=>by subst z;rw [ha] at hb;cases hb;exact hl rfl
  exact SeqAt.EqAt.of_refs hne (SeqAt.RcAt.lists_lengths ⟨_,e1,rfl,n1,rfl⟩ ⟨_,e2,rfl,n2,rfl⟩ (by simp only [size_toArray,bne_iff_ne];omega) (by omega))
 | @tup n a b xs ys e ha hb hne he ih =>
  intro A u v rx ry hu
  cases rx
  cases ry
  obtain ⟨i1,r1,p1,z1⟩:=I.tuple ha
  obtain ⟨i2,r2,p2,z2⟩:=I.tuple hb
  have l1:=r1.length
  have l2:=r2.length
  rw [show xs.length=i1.toArray.size by simp only [size_toArray];omega,show ys.length=i2.toArray.size by simp only [size_toArray];omega]
  refine SeqAt.EqAt.of_refs hne (SeqAt.RcAt.tuples p1 p2 (by omega) fun j j1 j2=>?_)
  obtain ⟨x1,q1,w1⟩:=yfz r1 j1
  obtain ⟨y1,q2,w2⟩:=yfz r2 j2
  exact ih j x1 y1 q1 q2 w1 w2 (by show A.units+1+n<cLine;omega)
theorem yAs (hu:X.A.units+60<cLine):OpR X (compareOp .Eq) (yRD X.K):=by
 intro pins s σ H x y v u Q I rx ry h
 obtain ⟨b,hb,q⟩:=h
 cases hb with
 | nt hb =>
  cases rx
  cases ry
  obtain ⟨i2,r2,p2,z2⟩:=I.tuple hb
  exact SeqAt.RcAt.none_tuple p2 (by omega) _ _ _ _ ⟨.bl _,H,I,rfl,q⟩
 | tn hb =>
  cases rx
  cases ry
  obtain ⟨i2,r2,p2,z2⟩:=I.tuple hb
  exact SeqAt.RcAt.tuple_none p2 (by omega) _ _ _ _ ⟨.bl _,H,I,rfl,q⟩
 | @lst a b xs ys e ha hb hl he =>
  cases rx
  cases ry
  obtain ⟨i1,n1,r1,e1,z1⟩:=I.lst ha
  obtain ⟨i2,n2,r2,e2,z2⟩:=I.lst hb
  have l1:=r1.length
  have l2:=r2.length
  rw [show xs.length=i1.toArray.size by simp only [size_toArray];omega] at q
  refine SeqAt.RcAt.lists ⟨_,e1,rfl,n1,rfl⟩ ⟨_,e2,rfl,n2,rfl⟩ (by simp only [size_toArray];omega) (by omega) (fun j j1 j2=>?_) _ _ _ _ ⟨.bl _,H,I,rfl,q⟩
  obtain ⟨x1,q1,w1⟩:=yfz r1 j1
  obtain ⟨y1,q2,w2⟩:=yfz r2 j2
  exact yAr I (he j x1 y1 q1 q2) w1 w2 (by show X.A.units+1+40<cLine;omega)
 | @lstN a b xs ys ha hb hl =>
  cases rx
  cases ry
  obtain ⟨i1,n1,r1,e1,z1⟩:=I.lst ha
  obtain ⟨i2,n2,r2,e2,z2⟩:=I.lst hb
  have l1:=r1.length
  have l2:=r2.length
  exact SeqAt.RcAt.lists_lengths ⟨_,e1,rfl,n1,rfl⟩ ⟨_,e2,rfl,n2,rfl⟩ (by simp only [size_toArray,bne_iff_ne];omega) (by omega) _ _ _ _ ⟨.bl _,H,I,rfl,q⟩
 | @tup a b xs ys e ha hb he =>
  cases rx
  cases ry
  obtain ⟨i1,r1,p1,z1⟩:=I.tuple ha
  obtain ⟨i2,r2,p2,z2⟩:=I.tuple hb
  have l1:=r1.length
  have l2:=r2.length
  rw [show xs.length=i1.toArray.size by simp only [size_toArray];omega,show ys.length=i2.toArray.size by simp only [size_toArray];omega] at q
  refine SeqAt.RcAt.tuples p1 p2 (by omega) (fun j j1 j2=>?_) _ _ _ _ ⟨.bl _,H,I,rfl,q⟩
  obtain ⟨x1,q1,w1⟩:=yfz r1 j1
  obtain ⟨y1,q2,w2⟩:=yfz r2 j2
  exact yAr I (he j x1 y1 q1 q2) w1 w2 (by show X.A.units+1+40<cLine;omega)
theorem ywF (hu:X.A.units+60<cLine):OpR X (compareOp .NotEq) (yRE X.K):=by
 intro pins s σ H x y v u Q I rx ry h
 obtain ⟨b,hb,q⟩:=h
 cases hb with
 | nt hb =>
  cases rx
  cases ry
  obtain ⟨i2,r2,p2,z2⟩:=I.tuple hb
  exact SeqAt.RcNeAt.none_tuple p2 (by omega) _ _ _ _ ⟨.bl _,H,I,rfl,q⟩
 | tn hb =>
  cases rx
  cases ry
  obtain ⟨i2,r2,p2,z2⟩:=I.tuple hb
  exact SeqAt.RcNeAt.tuple_none p2 (by omega) _ _ _ _ ⟨.bl _,H,I,rfl,q⟩
 | @lst a b xs ys e ha hb hl he =>
  cases rx
  cases ry
  obtain ⟨i1,n1,r1,e1,z1⟩:=I.lst ha
  obtain ⟨i2,n2,r2,e2,z2⟩:=I.lst hb
  have l1:=r1.length
  have l2:=r2.length
  rw [show xs.length=i1.toArray.size by simp only [size_toArray];omega] at q
  refine SeqAt.RcNeAt.lists ⟨_,e1,rfl,n1,rfl⟩ ⟨_,e2,rfl,n2,rfl⟩ (by simp only [size_toArray];omega) (by omega) (fun j j1 j2=>?_) _ _ _ _ ⟨.bl _,H,I,rfl,q⟩
  obtain ⟨x1,q1,w1⟩:=yfz r1 j1
  obtain ⟨y1,q2,w2⟩:=yfz r2 j2
  exact yAr I (he j x1 y1 q1 q2) w1 w2 (by show X.A.units+1+40<cLine;omega)
 | @lstN a b xs ys ha hb hl =>
  cases rx
  cases ry
  obtain ⟨i1,n1,r1,e1,z1⟩:=I.lst ha
  obtain ⟨i2,n2,r2,e2,z2⟩:=I.lst hb
  have l1:=r1.length
  have l2:=r2.length
  exact SeqAt.RcNeAt.lists_lengths ⟨_,e1,rfl,n1,rfl⟩ ⟨_,e2,rfl,n2,rfl⟩ (by simp only [size_toArray,bne_iff_ne];omega) (by omega) _ _ _ _ ⟨.bl _,H,I,rfl,q⟩
 | @tup a b xs ys e ha hb he =>
  cases rx
  cases ry
  obtain ⟨i1,r1,p1,z1⟩:=I.tuple ha
  obtain ⟨i2,r2,p2,z2⟩:=I.tuple hb
  have l1:=r1.length
  have l2:=r2.length
  rw [show xs.length=i1.toArray.size by simp only [size_toArray];omega,show ys.length=i2.toArray.size by simp only [size_toArray];omega] at q
  refine SeqAt.RcNeAt.tuples p1 p2 (by omega) (fun j j1 j2=>?_) _ _ _ _ ⟨.bl _,H,I,rfl,q⟩
  obtain ⟨x1,q1,w1⟩:=yfz r1 j1
  obtain ⟨y1,q2,w2⟩:=yfz r2 j2
  exact yAr I (he j x1 y1 q1 q2) w1 w2 (by show X.A.units+1+40<cLine;omega)
theorem ynw {k:Nat}{A:Around}(r:Room k A):A.units+60<cLine:=by have:=r.un;omega
end
end PX
namespace PX
open PySem L2 PySem.Spec PyProof.Rows
section
variable {X:Cx}{A:Nat->Addr}{o e:Expr}{es:List Expr}{xa xb:XE}{aa:XA}{pos apos pos':Pos}{m f:Str}{n k kc:Nat}{pl:Sem Bool}{p:Fn}{fa:Addr}{fd:FuncData}{ps:List Str}
theorem ybe {st:Stmt}:ZS X A st yeE:=wS yFo (yGI (K:=ckX X A))
theorem yx (ho:ZE X A o xa) (c:Cls X.K (A kc)) (hm:ybj X.K (A kc) m fa) (F:FnOk X.prog X.w X.K X.mg X.base CX0 k fa fd ps (spE (ckX X A) (n+1) p)) (hr:Room k X.A) (hb:Binds X.K fd ps []) (ha:ZA X A (e::es) n aa)
  (hst:starEach (e::es) X.env=(false,eval e X.env)::starEach es X.env) (hpl:(backTo pos (starEach es X.env)).any (·.1)=false)
  (ht:eval (.Call (.Attribute o m apos) (e::es) [] pos) X.env=(do
   let ov <- eval o X.env
   standAt apos.atName
   let (f,first) <- holding [ov] (getMethod ov m pl)
   callWith pos f first (backTo pos (starEach (e::es) X.env)) (backToKw pos (keywordEach [] X.env)))) :
  ZE X A (.Call (.Attribute o m apos) (e::es) [] pos) (yk kc m p xa aa):=wE (yJt ho.of c hm F hr hb .nil yvU ha.of hst hpl ht) (ywx (K:=ckX X A) sE sA ha.len)
theorem yq (ho:ZE X A o xa) (c:Cls X.K (A kc)) (hm:ybj X.K (A kc) m fa) (F:FnOk X.prog X.w X.K X.mg X.base CX0 k fa fd ps (spE (ckX X A) 1 p)) (hr:Room k X.A) (hb:Binds X.K fd ps [])
  (ht:eval (.Call (.Attribute o m apos) [] [] pos) X.env=(do
   let ov <- eval o X.env
   standAt apos.atName
   let (f,first) <- holding [ov] (getMethod ov m pl)
   callWith pos f first (backTo pos (starEach [] X.env)) (backToKw pos (keywordEach [] X.env)))) :
  ZE X A (.Call (.Attribute o m apos) [] [] pos) (yk kc m p xa yj):=wE (yFC ho.of c hm F hr hb .nil yvU ht) (ywx (K:=ckX X A) (n:=0) sE yuA yyy)
theorem ycx {cs:List Nat}{value:Expr}(hc:∀ k∈cs,Cls X.K (A k)/\NoAttr X.K (A k) f) (ho:ZE X A o xa) (hv:ZE X A value xb) (hs:swapsWith value (some (.Attribute o f pos')) pos.line X.env=pure false) :
  ZS X A (.Assign [.Attribute o f pos'] value pos) (yfV cs f xa xb):=wS (yIf ho.of hv.of hs) (yGJ (K:=ckX X A) hc sE sE)
end
end PX
namespace KasS
open PySem PySem.W PyProof.Rows
section
variable (key:Nat->Int)
def Kp (p:Array Nat) (i:Nat):Int:=key (p[i]?.getD 0)
def Up (p:Array Nat) (k:Nat):Prop:=∀ i j,i<=j->j<k->Kp key p i<=Kp key p j
end
end KasS
namespace KasS
open PySem PySem.W PyProof.Rows PySem.Calls
noncomputable def Tps (h:Heap):List Value->List (Int×Tok×Value)->Prop
 | [],[]=>True
 | v::vs,p::ps=>(∃ b o m,v=.ref b/\h.get? b=some o/\o.cls=.type "tuple"/\o.data=.seq #[.int p.1 p.2.1,p.2.2] m)/\Tps h vs ps
 | _,_=>False
theorem Tps.len {h:Heap}:∀ {vs:List Value}{ps:List (Int×Tok×Value)},Tps h vs ps->ps.length=vs.length
 | [],[],_=>rfl
 | _::_,_::_,⟨_,t⟩=>by rw [length_cons,length_cons,Tps.len t]
 | [],_::_,t=>t.elim
 | _::_,[],t=>t.elim
theorem Tps.get {h:Heap}:∀ {vs:List Value}{ps:List (Int×Tok×Value)},Tps h vs ps->∀ i,i<vs.length->∃ p b o m,ps[i]?=some p/\vs.getD i .none=.ref b/\h.get? b=some o/\o.cls=.type "tuple"/\o.data=.seq #[.int p.1 p.2.1,p.2.2] m
 | _::_,p::_,⟨⟨b,o,m,e1,e2,e3,e4⟩,_⟩,0,_=>⟨p,b,o,m,rfl,by rw [e1];rfl,e2,e3,e4⟩
 | _::vs,_::ps,⟨_,t⟩,i+1,hi=>by
  obtain ⟨p,b,o,m,e1,e2,e3⟩:=Tps.get t i (by simpa using hi)
  exact ⟨p,b,o,m,by simpa using e1,by simpa using e2,e3⟩
 | [],[],_,_,hi=>by simp at hi
 | [],_::_,t,_,_=>t.elim
 | _::_,[],t,_,_=>t.elim
theorem Tps.mono {h h':Heap}:∀ {vs:List Value}{ps:List (Int×Tok×Value)},Tps h vs ps->(∀ b o,Value.ref b∈vs->h.get? b=some o->h'.get? b=some o)->Tps h' vs ps
 | [],[],_,_=>trivial
 | _::_,_::_,⟨⟨b,o,m,e1,e2,e3⟩,t⟩,k=>⟨⟨b,o,m,e1,k b o (by rw [e1];exact mem_cons_self) e2,e3⟩,Tps.mono t fun b o hb=>k b o (mem_cons_of_mem _ hb)⟩
 | [],_::_,t,_=>t.elim
 | _::_,[],t,_=>t.elim
def yGR (ps:List (Int×Tok×Value)) (i:Nat):Int:=((ps[i]?).map (·.1)).getD 0
section
variable {prog:Program}{w:World}{A:Around}{E:Value->Shared->Prop}{s:Shared}
theorem yGS {a:Addr}{vs:List Value}{ps:List (Int×Tok×Value)}{n:Nat}{P:PySem.Fin->Shared->Prop}(ho:s.heap.get? a=some (seqObj "list" vs.toArray n)) (tp:Tps s.heap vs ps) (na:Value.ref a∉vs) (hn:(ps.map (·.1)).Nodup) (h64:vs.length<2)
  (h:∀ q:Array Nat,q.Perm (toArray (List.range vs.length))->Up (yGR ps) q vs.length->P (.done (.ret .none)) { s with heap:=sortedHeap s.heap a vs (toArray (q.toList.map fun i=>vs.getD i Value.none)) }) :
  wpAny (model prog w) A (Builtin.«list.sort» ⟨[.ref a],[]⟩) P E s:=by
 have ha:a<s.heap.objs.size:=Heap.lt_size ho
 have z64:vs.length<=sizeLine:=by rw [sizeLine_eq];omega
 rw [list_sort_plain]
 obtain ⟨e1,ho1⟩:∃ e1,(s.heap.update a (Obj.mapSeq fun _=>(#[]:Array Value))).get? a=some (seqObj "list" #[] e1):=⟨_,get?_update_seq ho _⟩
 refine wpAny_bind (listItems_at ho rfl (wpAny_bind (listUpdate_at ho rfl (wpAny_bind (seqEpoch_at ho1 rfl (wpAny_bind (wpAny_newTuple (wpAny_bind (wpAny_newList (wpAny_holding ?_) (zero_le _))) (by simpa using z64))))) (by simpa using z64) (zero_le _))))
 generalize hH:((s.heap.update a (Obj.mapSeq fun _=>(#[]:Array Value))).push (seqObj "tuple" vs.toArray 0)).push (seqObj "list" #[] 0)=H6
 have keep:∀ b o,b≠a->s.heap.get? b=some o->H6.get? b=some o:=fun b o hb e=>by
  rw [<- hH]
  exact Heap.get?_push_of_some _ (Heap.get?_push_of_some _ ((Heap.get?_update_other _ _ (Ne.symm hb)).trans e))
 have ho6:H6.get? a=some (seqObj "list" #[] e1):=by rw [<- hH];exact Heap.get?_push_of_some _ (Heap.get?_push_of_some _ ho1)
 have tp6:Tps H6 vs ps:=tp.mono fun b o hb e=>keep b o (fun z=>na (z ▸ hb)) e
 show wpAny (model prog w) A _ P E { s with heap:=H6 }
 dsimp only
 have fin:∀ q:Array Nat,q.Perm (toArray (List.range vs.length))->Up (yGR ps) q vs.length->P (.done (.ret .none)) { s with heap:=H6.update a (Obj.mapSeq fun _=>toArray (q.toList.map fun i=>vs.getD i Value.none)) }:=fun q h1 h2=>by
  have:=h q h1 h2
  unfold sortedHeap at this
  rw [show ((s.heap.update a (Obj.mapSeq fun _=>(#[]:Array Value))).push (seqObj "tuple" vs.toArray 0)).push (seqObj "list" #[] 0)=H6 from hH] at this
  exact this
 by_cases h2:vs.toArray.size<2
 .rw [if_pos h2,if_pos h2]
  refine wpAny_bind (wpAny_pure ?_)
  rw [StateT.run_pure]
  have hz:((arrOf (SortSt.mk' general' (vs.toArray.zip vs.toArray) #[] 7 none)).map (·.2))=toArray ((toArray (List.range vs.length)).toList.map fun i=>vs.getD i Value.none):=by
   show (vs.toArray.zip vs.toArray).map (·.2)=_
   apply Array.toList_inj.mp
   simp only [Array.toList_map,Array.toList_zip,List.map_snd_zip (Nat.le_refl _)]
   apply List.ext_getElem
   .simp
   .intro i h3 h4
    simp
    rw [List.getElem?_eq_getElem (by simpa using h3)];rfl
  refine wpAny_bind (wpAny_pure (wpAny_bind (seqEpoch_at ho6 rfl (wpAny_bind (listUpdate_at ho6 rfl ?_ (zero_le _) ?_)))))
  .dsimp only
   rw [hz]
   simp only [bne_self_eq_false,Bool.false_eq_true,if_false]
   exact wpAny_pure (fin _ (Array.Perm.refl _) fun i j hij hj=>by rw [show i=j by (simp at h2);omega];exact Int.le_refl _)
  .rw [hz];simp;omega
 .rw [if_neg h2,if_neg h2]
  have hv2:2<=vs.length:=by simp at h2;omega
  exact absurd hv2 (by omega)
end
end KasS
namespace PXS
open PySem L2 PySem.Spec PyProof.Rows KasS PX
theorem yGT {P:Program}{w:World}{H:Hp}{h:Heap}{a:Addr}{o:HO}(x:ObjOk P w H h a o):∃ u,h.get? a=some u:=by
 cases o with
 | lst xs=>obtain ⟨_,_,_,_,e⟩:=x;exact ⟨_,e⟩
 | tup xs=>obtain ⟨_,_,_,ob,e,_⟩:=x;exact ⟨_,e⟩
 | dK kvs=>obtain ⟨_,_,_,_,o,_,_,e,_⟩:=x;exact ⟨_,e⟩
 | dT kvs=>obtain ⟨_,_,_,_,o,_,_,e,_⟩:=x;exact ⟨_,e⟩
 | set S n=>obtain ⟨o,_,_,_,e,_⟩:=x;exact ⟨_,e⟩
 | ins C dx fs=>obtain ⟨_,_,_,e,_⟩:=x;exact ⟨_,e⟩
 | own y=>obtain ⟨_,e⟩:=x;exact ⟨_,e⟩
 | xd fs=>obtain ⟨_,⟨_,_,_,e,_⟩,_⟩:=x;exact ⟨_,e⟩
 | rng lo hi=>obtain ⟨_,_,_,e⟩:=x;exact ⟨_,e⟩
 | frz ob u=>obtain ⟨e,_⟩:=x;exact ⟨_,e⟩
 | tbl ps=>exact ⟨_,show h.get? a=some _ from x⟩
 | met f y=>exact ⟨_,show h.get? a=some _ from x⟩
 | ext φ=>obtain ⟨_,⟨_,e⟩,_⟩:=x;exact ⟨_,e⟩
section
variable {X:Cx}
theorem yGU:MtM X "dict.items" yIF:=by
 intro pins s σ H x vs v us Q I rx rv h
 obtain ⟨d,kvs,rfl,rfl,hH,q⟩:=h
 cases rx
 have hus:=rv.zero
 subst hus
 obtain ⟨z,sy,ws,kv,hD⟩:=I.hok d _ hH
 refine call_meetsIn PySem.F.slot_dict_items hD.typeIs PySem.F.entry_dict_items (PySem.F.args_dict_items_1 _) (meets_dict_items _ d sy) ⟨⟨ws,hD⟩,?_⟩
 refine ⟨.ref _,_,I.laid (t':=s.toks) (o:=yyI s.heap.objs.size d) (fun _ _ q=>Heap.get?_push_of_some _ q) (Nat.le_refl _) ⟨Heap.get?_push_size _ rfl,⟨_,Heap.get?_push_size _ rfl⟩,fun h1 h2 e k=>k _ e⟩,rfl,q _ I.fresh⟩
theorem yKD {pins:List (Addr×Obj)}{σ:L2.St}{H H':Hp}{s:Shared}{h':Heap}{t':Nat}(I:Inv X pins σ H s) (k:∀ b u,s.heap.get? b=some u->h'.get? b=some u) (sub:∀ b o,H b=some o->H' b=some o)
  (nw:∀ b o,H b=none->H' b=some o->s.heap.get? b=none/\ObjOk X.prog X.w H' h' b o):Inv X pins σ H' { s with heap:=h',toks:=t' }:=by
 refine I.un ⟨fun b u q _ _ _=>k b u q,fun b u q _ _ _=>⟨u.slots,k b u q⟩,fun b u q n _=>?_,fun b u q _=>⟨u,k b u q⟩,fun b xs q=>sub _ _ q,fun b u xs q=>sub _ _ q,fun b ps q=>⟨#[],by rw [sub _ _ q];simp⟩⟩ fun b o e=>?_
 .cases e:H' b with
  | none=>rfl
  | some o=>rw [(nw b o n e).1] at q;cases q
 .cases e2:H b with
  | none=>exact (nw b o e2 e).2
  | some u =>
   have:=sub _ _ e2
   rw [e] at this
   cases this
   exact (I.hok b o e2).stay (fun c v _ q=>k c v q) (fun c q=>sub _ _ q) fun c xs q=>sub _ _ q
theorem yIJ {h:Heap}:∀ (as:List Addr) (ws:List (Key×Value)) (ns:List Int),as.length=ws.length->ws.map (·.1)=ns.map Sum.inl ->
  (∀ (j:Nat) (a:Addr),as[j]?=some a->∃ key k x,ws[j]?=some (k,x)/\yxV k key=true/\h.get? a=some { cls:=.type "tuple",data:=.seq #[key,x] }) ->
  ∃ ps,Tps h (as.map Value.ref) ps/\ps.map (·.1)=ns/\ps.map (·.2.2)=ws.map (·.2)
 | [],[],ns,_,e,_=>⟨[],trivial,by cases ns with|nil=>rfl|cons=>simp at e,rfl⟩
 | [],_::_,_,hl,_,_=>by simp at hl
 | _::_,[],_,hl,_,_=>by simp at hl
 | a::as,(k,x)::ws,ns,hl,e,hp=>by
  cases ns with
  | nil=>simp at e
  | cons n ns =>
   simp only [map_cons,List.cons.injEq] at e
   obtain ⟨ps,t,e1,e2⟩:=yIJ as ws ns (by simpa using hl) e.2 fun j b hb=>by
    obtain ⟨key,k',x',f1,f2,f3⟩:=hp (j+1) b (by simpa using hb)
    exact ⟨key,k',x',by simpa using f1,f2,f3⟩
   obtain ⟨key,k',x',f1,f2,f3⟩:=hp 0 a rfl
   simp at f1
   obtain ⟨rfl,rfl⟩:=f1
   obtain ⟨j,tk,g1,rfl⟩:∃ j tk,k=Sum.inl j/\key=Value.int j tk:=by
    rcases ybD f2 with ⟨j,tk,g1,g2⟩|⟨y,tk,g1,g2⟩
    .exact ⟨j,tk,g1,g2⟩
    .rw [g1] at e;cases e.1
   rw [g1] at e
   obtain rfl:j=n:=by injection e.1
   exact ⟨(j,tk,x)::ps,⟨⟨a,_,_,rfl,f3,rfl,rfl⟩,t⟩,by rw [map_cons,e1],by rw [map_cons,e2];rfl⟩
theorem yiG {α:Type}:∀ {as:List Addr}{ts:List α}{b:Addr}{t:α},(as.zip ts).lookup b=some t->∃ j:Nat,as[j]?=some b/\ts[j]?=some t
 | [],_,_,_,h=>by simp at h
 | _::_,[],_,_,h=>by simp at h
 | a::as,u::ts,b,t,h=>by
  rw [zip_cons_cons,lookup_cons] at h
  split at h
  .rename_i hb
   cases h
   exact ⟨0,by rw [eq_of_beq hb];rfl,rfl⟩
  .obtain ⟨j,h1,h2⟩:=yiG h
   exact ⟨j+1,by simpa using h1,by simpa using h2⟩
theorem yAt:∀ {kvs:List (Key×V)}{ws:List (Key×Value)},KV kvs ws->ws.map (·.1)=kvs.map (·.1)/\∀ i:Nat,i<kvs.length->RelV ((kvs.map (·.2)).getD i .non) ((ws.map (·.2)).getD i .none):=by
 intro kvs ws h
 induction h with
 | nil=>exact ⟨rfl,fun i hi=>by simp at hi⟩
 | @cons p q _ _ h1 _ ih =>
  refine ⟨by rw [map_cons,map_cons,ih.1,h1.1],fun i hi=>?_⟩
  cases i with
  | zero=>exact h1.2
  | succ i=>simpa using ih.2 i (by simpa using hi)
theorem yAu {α:Type}{f:α->V}{g:α->Value}:∀ {l:List α},(∀ i∈l,RelV (f i) (g i))->Vals (l.map f) (l.map g)
 | [],_=>.nil
 | i::l,h=>.cons (h i mem_cons_self) (yAu fun j hj=>h j (mem_cons_of_mem _ hj))
theorem yqa (hc:X.calm=true):ylQ X (.builtin "sorted") rSI:=by
 intro pins s σ H xs us Q I rr hh
 obtain ⟨r,d,kvs,ns,rfl,hr,hd,hk,h64,q⟩:=hh
 obtain ⟨u,rfl,rx⟩:=vals1 rr
 cases rx
 obtain ⟨hview,_,_⟩:=I.hok r _ hr
 obtain ⟨z,sy,ws,kv,hD⟩:=I.hok d _ hd
 obtain ⟨ep,hat⟩:=hD.dictAt
 obtain ⟨kv1,kv2⟩:=yAt kv
 have lw:ws.length=kvs.length:=by have:=congrArg length kv1;simpa using this
 have ln:ns.length=kvs.length:=by have:=congrArg length hk;simpa using this.symm
 have nd:ns.Nodup:=by
  obtain ⟨_,_,_,_,_,_,_,_,n⟩:=hD
  rw [kv1,hk] at n
  exact (List.pairwise_map.mp n).imp fun h e=>h (by rw [e])
 refine Calls.call_function_entry kind_sorted plain_sorted entry_sorted (args_sorted1 _) ?_
 unfold Builtin.«sorted»
 refine wpAny_bind (m:=checkCount "sorted" 1 1 _) (wpAny_pure ?_)
 refine wpAny_bind (PySem.W.kdx_collect (A:=X.A.in1) (knd:=ydK X.prog X.w) (kvs:=ws) (ep:=ep) (I.ok.hd hc) ⟨_,hview,rfl,rfl⟩ hat (by rw [lw];exact z) fun h' tk as keep hl hG=>wpAny_bind (wpAny_newList ?_ (by rw [length_map,hl,lw];exact z)))
 obtain ⟨ps,tp,e1,e2⟩:=yIJ (h:=h') as ws ns hl (by rw [kv1,hk]) fun j a ha=>hG.pairs j a ha
 have la:as.length=ns.length:=by omega
 have above:∀ a∈as,s.heap.objs.size<a:=hG.above
 have there:∀ a∈as,a<h'.objs.size:=fun a ha=>hG.there ha
 generalize hB:h'.objs.size=B at *
 have noB:s.heap.get? B=none:=by
  cases e:s.heap.get? B with
  | none=>rfl
  | some o=>exact absurd (Heap.lt_size (keep B o e)) (by rw [hB];exact lt_irrefl _)
 have noA:∀ a∈as,s.heap.get? a=none:=fun a ha=>Heap.get?_none_of_le (le_of_lt (above a ha))
 have free:∀ b,s.heap.get? b=none->H b=none:=fun b e=>by
  cases e2:H b with
  | none=>rfl
  | some o=>obtain ⟨u,hu⟩:=yGT (I.hok b o e2);rw [e] at hu;cases hu
 have hoL:(h'.push { cls:=.type "list",data:=.seq (as.map Value.ref).toArray }).get? B=some (seqObj "list" (as.map Value.ref).toArray 0):=by rw [<- hB];exact Heap.get?_push_size _ rfl
 refine wpAny_bind (wpAny_holding (wpAny_call_entry PySem.F.slot_list_sort ⟨_,hoL,rfl⟩ PySem.F.entry_list_sort ?body (PySem.F.args_list_sort_1 _)))
 case body =>
  refine yGS (s:={ s with heap:=h'.push { cls:=.type "list",data:=.seq (as.map Value.ref).toArray },toks:=tk }) (ps:=ps) hoL (tp.mono fun b o _ e=>Heap.get?_push_of_some _ e) (fun z=>?_) (by rw [e1];exact nd) (by rw [length_map];omega) fun qa z1 z2=>?_
  .obtain ⟨a,ha,e⟩:=List.mem_map.mp z
   cases e
   exact absurd (there B ha) (lt_irrefl _)
  refine ⟨_,rfl,wpAny_pure ⟨_,rfl,?_⟩⟩
  have lq:qa.toList.length=ns.length:=by have:=z1.size_eq;simpa [la] using this
  have pq:qa.toList.Perm (List.range ns.length):=by have:=Array.perm_iff_toList_perm.mp z1;simpa [la] using this
  have inq:∀ i∈qa.toList,i<ns.length:=fun i hi=>by have:=pq.mem_iff.mp hi;simpa using this
  have nda:as.Nodup:=hG.rise.imp fun h=>ne_of_lt h
  have ndq:qa.toList.Nodup:=pq.nodup_iff.mpr List.nodup_range
  generalize hS:sortedHeap (h'.push { cls:=.type "list",data:=.seq (as.map Value.ref).toArray }) B (as.map Value.ref) (toArray (qa.toList.map fun i=>(as.map Value.ref).getD i Value.none))=S
  have hFa:∀ b o,b≠B->h'.get? b=some o->S.get? b=some o:=fun b o hb e=>by
   rw [<- hS]
   unfold sortedHeap
   exact (Heap.get?_update_other _ _ (Ne.symm hb)).trans (Heap.get?_push_of_some _ (Heap.get?_push_of_some _ ((Heap.get?_update_other _ _ (Ne.symm hb)).trans (Heap.get?_push_of_some _ e))))
  have hFB:∃ c,S.get? B=some (seqObj "list" (toArray (qa.toList.map fun i=>(as.map Value.ref).getD i Value.none)) c):=by
   rw [<- hS]
   unfold sortedHeap
   exact ⟨_,get?_update_seq (Heap.get?_push_of_some _ (Heap.get?_push_of_some _ (get?_update_seq hoL _))) _⟩
  have hF:∀ b o,s.heap.get? b=some o->S.get? b=some o:=fun b o e=>hFa b o (fun z=>by rw [z,noB] at e;cases e) (keep b o e)
  have aget:∀ i,i<ns.length->∃ a,as[i]?=some a/\as.getD i 0=a/\a∈as:=fun i hi=>by
   have h1:i<as.length:=by omega
   exact ⟨as[i],List.getElem?_eq_getElem h1,by simp [getD,List.getElem?_eq_getElem h1],getElem_mem h1⟩
  have mem:∀ a∈(qa.toList.map fun i=>as.getD i 0),a∈as:=fun a ha=>by
   obtain ⟨i,hi,rfl⟩:=List.mem_map.mp ha
   obtain ⟨a,_,e,m⟩:=aget i (inq i hi)
   rw [e];exact m
  have neB:∀ a∈as,a≠B:=fun a ha=>ne_of_lt (there a ha)
  have kat:∀ i,yGR ps i=ns.getD i 0:=fun i=>by
   unfold yGR
   rw [<- e1]
   simp [getD]
  refine ⟨.ref B,yOC H B (qa.toList.map fun i=>as.getD i 0) (qa.toList.map fun i=>[V.int (ns.getD i 0),(kvs.map (·.2)).getD i .non]),?_,rfl,q B _ qa.toList pq ?_ nd (by simp) ?_ ?_⟩
  .show L2.Inv X pins σ _ { s with heap:=S,toks:=tk }
   refine yKD I hF (fun b o e=>?_) fun b o e e2=>?_
   .unfold yOC upd yAk
    rw [if_neg fun z=>by rw [z,free _ noB] at e;cases e]
    cases e3:List.lookup b ((qa.toList.map fun i=>as.getD i 0).zip (qa.toList.map fun i=>[V.int (ns.getD i 0),(kvs.map (·.2)).getD i .non])) with
    | none=>exact e
    | some t =>
     obtain ⟨j,g1,_⟩:=yiG e3
     rw [free _ (noA b (mem b (mem_of_getElem? g1)))] at e
     cases e
   .unfold yOC upd yAk at e2
    split at e2
    .rename_i hb
     subst hb
     cases e2
     obtain ⟨c,hc⟩:=hFB
     refine ⟨noB,by simp [lq];rw [ln];exact z,_,c,?_,hc⟩
     rw [map_map]
     refine yAu fun i hi=>?_
     obtain ⟨a,f1,f2,_⟩:=aget i (inq i hi)
     show RelV (V.ref (as.getD i 0)) _
     rw [f2]
     simp [getD,f1]
     rfl
    .split at e2
     .rename_i t e3
      cases e2
      obtain ⟨j,g1,g2⟩:=yiG e3
      rw [getElem?_map] at g1 g2
      cases e4:qa.toList[j]? with
      | none=>rw [e4] at g1;cases g1
      | some i =>
       rw [e4] at g1 g2
       have hi:=inq i (mem_of_getElem? e4)
       obtain ⟨a,f1,f2,f3⟩:=aget i hi
       simp only [map_some,Option.some.injEq] at g1 g2
       rw [f2] at g1
       subst g1
       subst g2
       obtain ⟨key,k,x,w1,w2,w3⟩:=hG.pairs i a f1
       have wk:k=Sum.inl (ns.getD i 0):=by
        have h1:(ws.map (·.1))[i]?=some k:=by rw [getElem?_map,w1];rfl
        rw [kv1,hk,getElem?_map] at h1
        rw [List.getElem?_eq_getElem hi] at h1
        simp [getD,List.getElem?_eq_getElem hi] at h1 ⊢
        exact h1.symm
       obtain ⟨tk2,rfl⟩:∃ tk,key=Value.int (ns.getD i 0) tk:=by
        rcases ybD w2 with ⟨j,tk,g1,g2⟩|⟨y,tk,g1,g2⟩
        .rw [wk] at g1;cases g1;exact ⟨tk,g2⟩
        .rw [wk] at g1;cases g1
       have wx:(ws.map (·.2)).getD i .none=x:=by simp [getD,w1]
       refine ⟨noA a f3,by simp [sizeLine_eq],[_,x],.cons ⟨_,rfl⟩ (.cons ?_ .nil),_,hFa a _ (neB a f3) w3,rfl,_,rfl⟩
       rw [<- wx]
       exact kv2 i (by omega)
     .rw [e] at e2;cases e2
  .refine List.pairwise_iff_getElem.mpr fun i j hi hj hij=>?_
   have:=z2 i j (le_of_lt hij) (by simpa [la,lq] using hj)
   unfold Kp at this
   rw [kat,kat] at this
   have hi':i<qa.size:=by simpa using hi
   have hj':j<qa.size:=by simpa using hj
   rw [Array.getElem?_eq_getElem hi',Array.getElem?_eq_getElem hj'] at this
   simpa using this
  .intro a ha
   rcases mem_cons.mp ha with rfl|ha
   .exact free _ noB
   .exact free _ (noA a (mem a ha))
  .refine List.nodup_cons.mpr ⟨fun h=>neB _ (mem _ h) rfl,?_⟩
   refine List.pairwise_map.mpr (ndq.imp_of_mem fun {i j} hi hj hij e=>hij ?_)
   obtain ⟨a,f1,f2,_⟩:=aget i (inq i hi)
   obtain ⟨b,g1,g2,_⟩:=aget j (inq j hj)
   rw [f2,g2] at e
   subst e
   exact (List.getElem?_inj (by have:=inq i hi;omega) nda).mp (f1.trans g1.symm)
variable {A:Nat->Addr}{o:Expr}{xa:XE}{pos p apos cpos:Pos}{x:Str}
theorem z_sortI (hc:X.calm=true) (ho:ZE X A o xa) (m:Nm x) (hg:Gl X x) (hm:X.mg x=none) (hv:bootBuiltins x=some (.builtin "sorted"))
  (hbase:attributeBase o "items" X.env (eval o X.env)=eval o X.env) (hline:(apos.endLine == cpos.line)=true)
  (he:starEach [.Call (.Attribute o "items" apos) [] [] cpos] X.env=(false,eval (.Call (.Attribute o "items" apos) [] [] cpos) X.env)::starEach [] X.env) (hpl:(backTo pos (starEach [] X.env)).any (·.1)=false) :
  ZO X A (.Call (.Name x p) [.Call (.Attribute o "items" apos) [] [] cpos] [] pos) (ytD xa) :=
 wO (yun (yqa hc) hg hm hv (yot (yIj PySem.F.plainAttrs_dict PySem.F.slot_dict_items PySem.F.type_dict_items yGU ho.of hbase hline) yvM he) m.n m.d he hpl) (yDs (K:=ckX X A) sE)
end
end PXS
namespace PX
open PySem L2 PySem.Spec PyProof.Rows
section
variable {X:Cx}{A:Nat->Addr}{tg a:Expr}{p pos:Pos}{xa:XE}
theorem yKE {rest:List Stmt}{s:XS}{y:XG}(hp:PassesOwn (model X.prog X.w) X.A X.env X.xe) (hc:X.calm=true) (hi:ZE X A a xa) (hg:ZG X A tg y) (hb:ZSs X A rest s) (hs:∀ x,foldedSetIterable a X.env x=pure x):ZS X A (.For tg a rest [] pos) (yDt false xa y s) :=
 wS (yIa hp hc (yxZ hi.of) hg.of hb.of hs) (yGL (K:=ckX X A) sE sG sS)
end
end PX
namespace PX
open PySem L2 PySem.Spec PyProof.Rows
section
variable {X:Cx}{A:Nat->Addr}{a o:Expr}{xa xb:XE}{pos apos cpos:Pos}
theorem yNE:MtM X "dict.update" yRG:=by
 intro pins s σ H x vs v us Q I rx rv h
 obtain ⟨d,b,kvs,more,rfl,rfl,hne,hH,hB,hz,q⟩:=h
 cases rx
 obtain ⟨u,rfl,ru⟩:=rv.one
 cases ru
 obtain ⟨z,hd,vs,rel,dd⟩:=yKm I.hok hH
 obtain ⟨z2,hd2,vs2,rel2,dd2⟩:=yKm I.hok hB
 refine call_meetsIn PySem.F.slot_dict_update dd.typeIs PySem.F.entry_dict_update (PySem.F.args_dict_update_2 _ _) (meets_dict_update (ydK X.prog X.w) d b hne hd2) ⟨vs,vs2,dd,dd2,by rw [<- rel.length,<- rel2.length];exact hz,fun h' dd' _ hs=>?_⟩
 have he:∃ q,h'.get? d=some q:=let ⟨q,_,_,hq,_⟩:=dd';⟨q,hq⟩
 refine ⟨.non,_,yyE (t':=s.toks) I (by rw [hH];exact True.intro) hs he (yIB ?_ hd (rel2.merge rel) dd'),rfl,q⟩
 exact Nat.le_trans (ynr more kvs) hz
end
end PX
namespace L2
open PySem PySem.Spec PyProof.Rows PX
end L2
namespace PX
open PySem L2 PySem.Spec PyProof.Rows
variable {X:Cx}{A:Nat->Addr}{x:Str}
end PX
namespace L2
open PySem PySem.Spec PyProof.Rows PX
theorem yKF {y:Str}{py spos:Pos}{iy:Nat}{X:Cx}{elt iter:Expr}{x:Str}{px:Pos}{scope:Scope}{cpos:Pos}{wi:TI}{te:TE}(ix:List Nat) (fr:List Str) (hc:X.calm=true) (hi:PI X (.Name x px) iter wi) (hfr:FrOk X scope ix fr)
  (he:∀ (cl:List (Str×Addr)) (C:Addr) (s₃:Shared) (H₃:Hp) (fp:List Addr) (pins:List (Addr×Obj)),PE (cxC X scope cl C (x::fr) s₃ H₃ fp pins) elt te)
  (hnd:(x::fr).Nodup) (hkind:scope.kind=.function) (hcell:∀ y∈scope.names,y.2≠.cell)
  (hnames:∀ y∈scope.names,y.2=.local->scope.names.lookup y.1=some .local) (hfree0:∀ y∈scope.names,y.2=.free->y.1∈fr) (hx:scope.names.lookup x=some .local)
  (hs:∀ v,foldedSetIterable iter X.env v=pure v)
  (hN:X.N.Nodup) (hyi:X.N[iy]?=some y) (hyx:Loc X.env.scope y) (hyf:X.fn y=true\/X.env.scope.names.lookup y=some .local) (hsw:swapsWith (.ListComp elt [⟨.Name x px,iter,[],0⟩] scope cpos) (some (.Name y py)) spos.line X.env=pure true) :
  PS X (.Assign [.Name y py] (.ListComp elt [⟨.Name x px,iter,[],0⟩] scope cpos) spos) (yLC (yFH wi ix te) (yAS iy)):=by
 intro pins s σ H D0 I h
 have hfn:X.env.scope.kind=.function:=I.ok.kind
 have hfree:∀ y∈scope.names,y.2=.free->X.env.kindOf y.1=some .cell/\scope.names.lookup y.1=some .free:=fun y hy e=>by
  obtain ⟨j,hj,ej⟩:=getElem_of_mem (hfree0 y hy e)
  obtain ⟨i,_,_,h3,h4⟩:=hfr.get (j:=j) (y:=y.1) (by rw [List.getElem?_eq_getElem hj,ej])
  exact ⟨h4,h3⟩
 obtain ⟨cl,ecl,hcl1,hcl2⟩:=ygX (env:=X.env) scope.names [] fun n hn=>I.ok.has n (.inl (hfree _ hn rfl).1)
 have hclos:closureFor scope X.env=pure cl:=by
  unfold closureFor
  have:(forIn scope.names ([]:List (Str×Addr)) (fun (x:Str×NameKind) (r:List (Str×Addr))=>if (x.2 == NameKind.free)=true then do let c <- cellOf X.env x.1;pure (ForInStep.yield ((x.1,c)::r)) else pure (ForInStep.yield r)):Sem (List (Str×Addr)))=pure cl:=ecl
  first
   | exact (by simpa using congrArg (· >>= fun r=>pure r) this)
   | (rw [show (pure cl:Sem (List (Str×Addr)))=(pure cl >>= fun r=>pure r) from rfl,<- this];rfl)
 have hcle:∀ y c,cl.lookup y=some c->X.env.cells.lookup y=some c/\(y,NameKind.free)∈scope.names:=fun y c e=>by
  by_cases hy:(y,NameKind.free)∈scope.names
  .exact ⟨by rw [<- hcl1 y hy];exact e,hy⟩
  .rw [hcl2 y hy] at e;simp at e
 rw [exec_Assign_Name_used _ _ _ _ hsw]
 refine wpAny_bind (wpAny_standAt (wpAny_bind ?_))
 show wpAny _ X.A (do let _ <- comprehension (.ListComp elt [⟨.Name x px,iter,[],0⟩] scope cpos) scope X.env _ (newList []) false (eval iter X.env) (some (assign (.Name y py) X.env))) _ _ s
 refine wpAny_bind (wpAny_mono (wpAny_comprehension_free (use:=some (assign (.Name y py) X.env)) (Q:=fun _ s'=>SP X pins D0 .next s') rfl hs hclos hkind hnames ?_) (fun _ s' hq=>wpAny_pure (wpAny_pure hq)) fun _ _ e=>e)
 refine thn (hi pins s σ H _ I h) fun v s1 h1=>thn h1 fun itv s2 h2=>?_
 obtain ⟨it,fp,tn,J,H2,e,I2,T,st2,f2,q2⟩:=h2
 subst e
 refine wpAny_newObj_type ?_
 generalize hs3:({ s2 with heap:=s2.heap.push { cls:=.type "list",dict:=none,data:=.seq ([]:List Value).toArray } }:Shared)=s3
 generalize hD:s2.heap.objs.size=D
 have hDn:H2 D=none:=by rw [<- hD];exact I2.hok.fresh (Nat.le_refl _)
 have I3:Inv X pins σ (upd H2 D (.lst [])) s3:=by
  rw [<- hs3,<- hD]
  exact I2.lnew (t':=s2.toks) (ys:=[]) (its:=[]) .nil (zero_le _)
 have k3:∀ b o,s2.heap.get? b=some o->s3.heap.get? b=some o:=fun b o e=>by rw [<- hs3];exact Heap.get?_push_of_some _ e
 have st3:tn 0 s3.heap:=T.keep _ _ _ st2 fun b _ o e=>k3 b o e
 have fne:∀ b∈fp,b≠D:=fun b hb=>by
  obtain ⟨o,e,_⟩:=T.obj _ _ st2 b hb
  rw [<- hD]
  exact ne_of_lt (Heap.lt_size e)
 have f3:∀ b∈fp,yCg X pins (upd H2 D (.lst [])) b:=fun b hb=>⟨by rw [yL (fne b hb)];exact (f2 b hb).1,(f2 b hb).2⟩
 have q3:=q2 D hDn
 generalize upd H2 D (.lst [])=H3 at I3 f3 q3
 obtain ⟨W,⟨m0,w0⟩,turn⟩:=q3
 refine wpAny_newFunctionEnv hcell (by intro y hy;simp at hy) (fun h4 hns hsb=>?_) hkind
 try dsimp only at hns hsb ⊢
 generalize hC:s3.heap.objs.size=C at hns hsb ⊢
 have k4:∀ b o,s3.heap.get? b=some o->h4.get? b=some o:=fun b o e=>(hsb.2 b (by rw [<- hC];exact ne_of_lt (Heap.lt_size e))).trans (Heap.get?_push_of_some _ e)
 have Cne:∀ b o,s3.heap.get? b=some o->b≠C:=fun b o e=>by rw [<- hC];exact ne_of_lt (Heap.lt_size e)
 have stk:=I3.stkSub
 have pinF:∀ p∈X.pn++pins,p.1∉frs X.stack:=fun p hp z=>by
  obtain ⟨_,_,n1,n2,_⟩:=I3.pin p hp
  rcases mem_cons.mp (stk _ z) with z|z
  .exact n1 z
  .exact n2 z
 have okC:(cxC X scope cl C (x::fr) s3 H3 fp pins).Ok:=by
  refine ⟨I3.ok.mod,by show (relabel scope X.env).kind=_;exact hkind,I3.ok.glob,I3.ok.blt,le_of_eq hC,fun y z c h1 h2=>I3.ok.inj y z c (hcle y c h1).1 (hcle z c h2).1,fun y hy=>?_,fun y c hf _=>(by cases hf),I3.ok.hd,I3.ok.frames,.inl rfl,fun b hb=>⟨?_,fun y c e z=>?_⟩,I3.bs,?_,fun b o e hb=>?_,fun b hb z=>?_,I3.stack,I3.stkFree⟩
  .have hy:((relabel scope X.env).names.lookup y=some .cell)\/((relabel scope X.env).names.lookup y=some .free):=hy
   rw [show (relabel scope X.env).names.lookup y=_ from ydA y scope.names] at hy
   cases e:scope.names.lookup y with
   | none=>rw [e] at hy;simp at hy
   | some k =>
    have hm:(y,k)∈scope.names:=PySem.mem_of_lookup e
    have hkf:k=.free:=by
     rw [e] at hy
     cases k<;>simp at hy ⊢
     exact absurd rfl (hcell _ hm)
    subst hkf
    obtain ⟨c,hc'⟩:=I3.ok.has y (.inl (hfree _ hm rfl).1)
    exact ⟨c,by show cl.lookup y=_;rw [hcl1 y hm];exact hc'⟩
  .obtain ⟨o,e,_⟩:=T.obj _ _ st3 b hb
   exact Cne b o e
  .exact (f3 b hb).2.2.2.2.1 y c (hcle y c e).1 z
  .exact Nat.le_trans I3.ok.bsz I3.sz
  .rcases (f3 b hb).2.2.2.1 with z|z
   .exact I3.ok.noex b o e z
   .exact absurd (lt_of_lt_of_le (Heap.lt_size e) (Nat.le_trans I3.ok.bsz z)) (lt_irrefl _)
  .rcases mem_cons.mp (stk _ z) with z|z
   .exact (f3 b hb).2.1 z
   .exact (f3 b hb).2.2.1 z
 have inn:∀ v,(inner ix σ v)=some v::ix.map fun i=>(σ[i]?).getD none:=fun _=>rfl
 have I4:Inv (cxC X scope cl C (x::fr) s3 H3 fp pins) [] (none::ix.map fun i=>(σ[i]?).getD none) H3 { s3 with heap:=h4,toks:=s3.toks+([]:List (Str×Value)).length }:=by
  refine ⟨okC,rfl,I3.bare,Un.kept k4,⟨_,hns,fun j y v e1 e2 e3=>?_⟩,fun y c e=>?_,I3.hok.fresh (le_of_eq hC),fun y c e=>I3.freeC y c (hcle y c e).1,fun p hp=>?_,I3.hok.kept k4,?_⟩
  .match j,e1,e2 with
   | 0,e1,e2=>simp at e2
   | j+1,e1,e2 =>
    obtain ⟨i,hi1,hi2,hi3,hi4⟩:=hfr.get (j:=j) (y:=y) (by have e1':(x::fr)[j+1]?=some y:=e1;simpa using e1')
    have e2':σ[i]?=some (some v):=by
     have e2:(ix.map fun i=>(σ[i]?).getD none)[j]?=some (some v):=by simpa using e2
     rw [getElem?_map,hi1] at e2
     simp at e2
     cases z:σ[i]? with
     | none=>rw [z] at e2;simp at e2
     | some o=>rw [z] at e2;simp at e2;rw [e2]
    obtain ⟨m,_,hl⟩:=I3.loc
    obtain ⟨u,r,l⟩:=hl i y v hi2 e2' (.inr (.inl hi4))
    refine ⟨u,r,?_⟩
    rcases l with ⟨k,_⟩|⟨k,c,ec,z⟩
    .rw [hi4] at k;cases k
    .have hm:(y,NameKind.free)∈scope.names:=PySem.mem_of_lookup hi3
     refine .inr ⟨.inl ?_,c,by show cl.lookup y=_;rw [hcl1 y hm];exact ec,?_⟩
     .show (relabel scope X.env).names.lookup y=_
      rw [show (relabel scope X.env).names.lookup y=_ from ydA y scope.names,hi3]
      simp [hfn,hi4]
     .obtain ⟨o,ho,hd⟩:=z
      exact ⟨o,k4 _ _ ho,hd⟩
  .obtain ⟨v,o,ho,hd⟩:=I3.cell y c (hcle y c e).1
   exact ⟨v,o,k4 _ _ ho,hd⟩
  .have hp:p∈X.pn++pins:=by simpa [cxC] using hp
   obtain ⟨e,n,ne,nf,d⟩:=I3.pin p hp
   exact ⟨k4 _ _ e,n,Cne _ _ e,pinF p hp,d⟩
  .show (none::ix.map fun i=>(σ[i]?).getD none).length=(x::fr).length
   rw [length_cons,length_cons,length_map,hfr.len]
 have st4:tn 0 h4:=T.keep _ _ _ st3 fun b _ o e=>k4 b o e
 have f4:∀ b∈fp,b≠C/\b∉frs X.stack/\(∀ y c,cl.lookup y=some c->c≠b)/\∀ p∈(X.pn++pins)++([]:List (Addr×Obj)),p.1≠b:=fun b hb=>by
  obtain ⟨o,e,_⟩:=T.obj _ _ st3 b hb
  refine ⟨Cne b o e,fun z=>?_,fun y c e=>(f3 b hb).2.2.2.2.1 y c (hcle y c e).1,fun p hp=>(f3 b hb).2.2.2.2.2 p (by simpa using hp)⟩
  rcases mem_cons.mp (stk _ z) with z|z
  .exact (f3 b hb).2.1 z
  .exact (f3 b hb).2.2.1 z
 have stat:∀ {H':Hp},(∀ b∈fp,H' b=none)->∀ b∈fp,yCg (cxC X scope cl C (x::fr) s3 H3 fp pins) [] H' b:=fun hn b hb=>⟨hn b hb,(f4 b hb).1,(f4 b hb).2.1,.inl hb,(f4 b hb).2.2.1,(f4 b hb).2.2.2⟩
 have fin:∀ {σ':St}{H':Hp}{s':Shared},Inv (cxC X scope cl C (x::fr) s3 H3 fp pins) [] σ' H' s'->yAS iy (.ref D) σ H' D0.nx->compPost (model X.prog X.w) X.A X.xe (some (assign (.Name y py) X.env)) (fun _ s'=>SP X pins D0 .next s') (.ref D) C (.ok .next) s':=fun {σ' H' s'} I' q'=>by
  obtain ⟨m,hn,_⟩:=I'.loc
  have hCn:H' C=none:=I'.free
  have U:=I'.base
  have U':Un (frs X.stack) fp H3 H' s3.heap s'.heap:=⟨U.keep,U.slot,U.free,U.there,U.tups,U.frzs,U.tbls⟩
  have IX:Inv X pins σ H' s':=I3.call' (s':=s') (by show s'.os=s3.os;exact I'.os) U' I'.hok I'.bare fun b hb=>⟨(f3 b hb).2.2.2.1,(f3 b hb).2.1,(f3 b hb).2.2.2.2.1,(f3 b hb).2.2.2.2.2⟩
  have hCf:yCg X pins H' C:=I3.fpOk (le_of_eq hC) hCn
  obtain ⟨o,es,ep,eo,r1,r2,r3⟩:=hn
  have IP:=IX.pinned (fp:=[C]) (fun b hb=>by have e:b=C:=(by simpa using hb);subst e;exact hCf) (fun b hb=>by have e:b=C:=(by simpa using hb);subst e;exact ⟨o,eo,fun v z=>by rw [r1] at z;cases z⟩)
  refine thn (yul hN hyi hyx hyf _ s' σ H' (.ref D) (.ref D) D0.nx IP rfl q') fun _ s2 ⟨σ2,H2',I2',q2'⟩=>?_
  have pc:=I2'.pin (C,o) (mem_append_right _ (mem_append_right _ (yeI (by simp) eo)))
  exact ⟨m,⟨o,es,ep,pc.1,r1,r2,r3⟩,fun h' sb=>⟨σ2,H2',I2'.unpinned.turned (t':=s2.toks) (fun b ob hb e=>(sb.2 b hb).trans e) pc.2.1 hCf.2.1 hCf.2.2.2.1 hCf.2.2.2.2.1 hCf.2.2.2.2.2,q2'⟩⟩
 have loop:∀ s5:Shared,s5={ s3 with heap:=h4,toks:=s3.toks+([]:List (Str×Value)).length } ->
   codeAny (model X.prog X.w) X.A (.compLoop (.ListComp elt [⟨.Name x px,iter,[],0⟩] scope cpos) 0 (.ref it) (.ref D) (compEnvC scope cl C X.env)) (compPost (model X.prog X.w) X.A X.xe (some (assign (.Name y py) X.env)) (fun _ s'=>SP X pins D0 .next s') (.ref D) C) s5:=by
  rintro s5 rfl
  refine codeAny_loop rfl (fun n s'=>∃ i o H',Inv (cxC X scope cl C (x::fr) s3 H3 fp pins) [] (o::ix.map fun i=>(σ[i]?).getD none) H' s'/\tn i s'.heap/\(∀ b∈fp,H' b=none)/\W i n H') ?_ m0 ⟨0,none,H3,I4,st4,fun b hb=>(f3 b hb).1,w0⟩
  rintro n s6 ⟨i,o,H6,I6,st6,fr6,w6⟩
  show wpAny _ _ ((compTurn (.ListComp elt [⟨.Name x px,iter,[],0⟩] scope cpos) 0 (.ref it) (.ref D) (compEnvC scope cl C X.env)).onRaise (fun x=>do noteFrame x (compEnvC scope cl C X.env);theTreesLotGoes x)) _ _ s6
  refine wpAny_noted ?_
  rw [compTurn_list1]
  rcases turn i n H6 w6 with ⟨stop,qn⟩|⟨go,step⟩
  .refine wpAny_bind (wpAny_standAt (wpAny_bind (thn (T.done (cxC X scope cl C (x::fr) s3 H3 fp pins) rfl rfl rfl hc i [] s6 _ H6 _ I6 (stat fr6) st6 stop) fun r s7 ⟨hr,I7⟩=>?_)))
   subst hr
   exact wpAny_pure (fin I7 qn)
  .refine wpAny_bind (wpAny_standAt (wpAny_bind (thn (T.item (cxC X scope cl C (x::fr) s3 H3 fp pins) rfl rfl rfl hc i [] s6 _ H6 _ I6 (stat fr6) st6 go) fun r s7 ⟨u,hr,h7⟩=>?_)))
   subst hr
   refine wpAny_bind (thn h7 fun _ s8 ⟨y,H8,I8,r8,y8,st8,fr8⟩=>?_)
   have I8':=I8.pinned (stat fr8) (T.obj _ _ st8)
   have hx':Loc (cxC X scope cl C (x::fr) s3 H3 fp pins).env.scope x:=.inl (lookup_relabel_local hx)
   refine wpAny_bind (wpAny_mono (yul (X:=cxC X scope cl C (x::fr) s3 H3 fp pins) (i:=0) (x:=x) (pos:=px) hnd rfl hx' (.inr (lookup_relabel_local hx)) _ s8 _ H8 y u (fun σ9 H9=>σ9=inner ix σ y/\H9=H8) I8' r8 ⟨rfl,rfl⟩) (fun _ s9 ⟨σ9,H9,I9,e9,e9'⟩=>?_) fun _ _ f=>f.elim)
   subst e9 e9'
   refine wpAny_bind (wpAny_bind (wpAny_mono (he cl C s3 H3 fp pins _ s9 _ _ _ I9 (step y _ y8)) (fun v s10 ⟨z,H10,I10,r10,acc,a10,l10,m',hm',w10⟩=>?_) fun _ _ f=>f.elim))
   refine wpAny_bind (wpAny_mono (yid (X:=cxC X scope cl C (x::fr) s3 H3 fp pins) _ s10 _ H10 (.ref D) [z] (.ref D) [v] (fun _ H11=>H11=upd H10 D (.lst (acc++[z]))) I10 rfl (.cons r10 .nil) ⟨D,acc,z,rfl,rfl,a10,l10,rfl⟩) (fun _ s11 ⟨_,H11,I11,_,e11⟩=>?_) fun _ _ f=>f.elim)
   subst e11
   refine wpAny_pure (wpAny_pure ⟨rfl,m',hm',i+1,some y,_,I11.unpinned,T.keep _ _ _ st8 fun b hb o e=>(I11.pin (b,o) (mem_append_right _ (mem_append_right _ (yeI hb e)))).1,fun b hb=>?_,w10⟩)
   obtain ⟨o,e,d⟩:=T.obj _ _ st8 b hb
   exact (I11.pin (b,o) (mem_append_right _ (mem_append_right _ (yeI hb e)))).2.1
 exact codeAny_compStart_list (loop _ rfl) (T.self X.A 0 _ _ _ st4 (loop _ rfl))
end L2
namespace PX
open PySem L2 PySem.Spec PyProof.Rows
variable {X:Cx}{A:Nat->Addr}{x y:Str}{py spos:Pos}{iy:Nat}
theorem yGV {elt iter:Expr}{px:Pos}{scope:Scope}{cpos:Pos}{it:XA}{xe:XE}(ix:List Nat) (fr:List Str) (hc:X.calm=true) (hi:ZI X A (.Name x px) iter it) (hfr:FrOk X scope ix fr)
  (he:∀ (cl:List (Str×Addr)) (C:Addr) (s₃:Shared) (H₃:Hp) (fp:List Addr) (pins:List (Addr×Obj)),ZE (cxC X scope cl C (x::fr) s₃ H₃ fp pins) A elt xe)
  (hnd:(x::fr).Nodup) (hkind:scope.kind=.function) (hcell:∀ y∈scope.names,y.2≠.cell) (hnames:∀ y∈scope.names,y.2=.local->scope.names.lookup y.1=some .local) (hfree0:∀ y∈scope.names,y.2=.free->y.1∈fr) (hx:scope.names.lookup x=some .local) (hs:∀ v,foldedSetIterable iter X.env v=pure v)
  (hN:X.N.Nodup) (hyi:X.N[iy]?=some y) (hyx:Loc X.env.scope y) (hyf:X.fn y=true\/X.env.scope.names.lookup y=some .local) (hsw:swapsWith (.ListComp elt [⟨.Name x px,iter,[],0⟩] scope cpos) (some (.Name y py)) spos.line X.env=pure true):ZS X A (.Assign [.Name y py] (.ListComp elt [⟨.Name x px,iter,[],0⟩] scope cpos) spos) (ybI (xFz (ylk it ix xe)) (yr iy)) :=
 wS (yKF ix fr hc hi.of hfr (te:=cE (ckX X A) xe) (fun cl C s₃ H₃ fp pins=>(he cl C s₃ H₃ fp pins).of) hnd hkind hcell hnames hfree0 hx hs hN hyi hyx hyf hsw) (yCT (yIp (yzS (K:=ckX X A) ix sI sE)) (yqH iy))
theorem yKG {k lv:Nat}{f:Addr}{fd:FuncData}{ps:List Str}{p pos:Pos}{fi} (M:Mk X.K (A k) f) (F:FnOk X.prog X.w X.K X.mg X.base CX0 lv f fd ps (spI (ckX X A) 0 k fi)) (hr:Room (lv+1) X.A) (m:Nm x) (hg:Gl X x) (hm:X.mg x=some (.ref (A k))) (hb:Binds X.K fd ps []):ZO X A (.Call (.Name x p) [] [] pos) (ylU fi yj) :=
 wO (yFD M F hr hg hm hb .nil yvU m.d) (yzX (K:=ckX X A) (k:=k) yuA yyy)
end PX
namespace PX
open PySem L2 PySem.Spec PyProof.Rows KasS PXS
section
variable {X:Cx}{A:Nat->Addr}
theorem yqE {vs:List Value}{ns:List Int}(h:IntsAre vs ns):Vals (ns.map V.int) vs:=by
 induction h with
 | nil=>exact .nil
 | cons n t _ ih=>exact .cons ⟨t,rfl⟩ ih
variable {a:Expr}{xa:XE}{aa:XA}{pos p:Pos}{x:Str}{n:Nat}
end
end PX
namespace PX
open PySem L2 PySem.Spec PyProof.Rows KasS PXS
section
def NF (X:Cx) (a:Addr):Prop:=∀ o u,X.H₀ a≠some (.frz o u)
theorem ySf {X:Cx}{pins:List (Addr×Obj)}{σ:L2.St}{H:Hp}{s:Shared}{d:Addr}{u0 u1:HO}(I:L2.Inv X pins σ H s) (hd:H d=some u0) (nt:∀ xs,u0≠.tup xs) (no:∀ y,u0≠.own y) (nb:∀ ps,u0≠.tbl ps) (nf:NF X d)
  (ok:ObjOk X.prog X.w H s.heap d u0->ObjOk X.prog X.w H s.heap d u1):L2.Inv X pins σ (upd H d u1) s:=by
 have ne:∀ {b:Addr},H b=none->upd H d u1 b=none:=fun {b} e=>(yL fun z=>by subst z;rw [hd] at e;cases e).trans e
 refine ⟨I.ok,I.os,I.bare,⟨I.base.keep,I.base.slot,fun b o e n hx=>ne (I.base.free b o e n hx),I.base.there,fun b xs e=>?_,fun b o u e=>?_,fun b ps e=>?_⟩,I.loc,I.cell,ne I.free,fun x c e=>ne (I.freeC x c e),fun p hp=>?_,fun b u e=>?_,I.len⟩
 .have:=I.base.tups b xs e
  exact (yL fun z=>by subst z;rw [hd] at this;cases this;exact nt _ rfl).trans this
 .have:=I.base.frzs b o u e
  exact (yL fun z=>by subst z;exact nf o u e).trans this
 .obtain ⟨more,this⟩:=I.base.tbls b ps e
  exact ⟨more,(yL fun z=>by subst z;rw [hd] at this;cases this;exact nb _ rfl).trans this⟩
 .obtain ⟨h1,h2,h3⟩:=I.pin p hp
  exact ⟨h1,ne h2,h3⟩
 .have ho:∀ c y,H c=some (.own y)->upd H d u1 c=some (.own y):=fun c y q=>(yL fun z=>by subst z;rw [hd] at q;cases q;exact no _ rfl).trans q
  have ht:∀ c xs,H c=some (.tup xs)->upd H d u1 c=some (.tup xs):=fun c xs q=>(yL fun z=>by subst z;rw [hd] at q;cases q;exact nt _ rfl).trans q
  by_cases hb:b=d
  .subst hb
   rw [yF] at e
   cases e
   exact (ok (I.hok b u0 hd)).stay (fun _ _ _ q=>q) (fun c q=>ho c b q) ht
  .rw [yL hb] at e
   exact (I.hok b u e).stay (fun _ _ _ q=>q) (fun c q=>ho c b q) ht
theorem yDH {P:Program}{w:World}{K:PySem.W.Frag}{tg:Expr}(d it:Addr) (ob:Obj) (kvs:List (Key×V)) {es:Array DictEntry}{ep:Nat}(hdat:ob.data=.dict es ep):Turn P w K tg (ItD d ob kvs) [it] it (fun i h=>h.IsKeyIter it d i kvs.length ep) where
 mem:=by simp
 obj:=fun i h st b hb=>by
  have e:b=it:=by simpa using hb
  subst e
  obtain ⟨o,e,c,q⟩:=st
  exact ⟨o,e,fun v z=>by rw [q] at z;cases z⟩
 keep:=fun i h h' st k=>st.at fun o e=>k it (by simp) o e
 item:=by
  intro X hP hw hK hc i pins s σ H E I hf st hg
  subst hP hw hK
  obtain ⟨hi,hH⟩:=hg
  obtain ⟨hob,z,sy,ws,kv,hD⟩:=I.hok d _ hH
  obtain ⟨ep',hat⟩:=hD.dictAt
  obtain ⟨o',es',ho',hx1,hx2,hx3⟩:=id hat
  rw [hob] at ho';cases ho'
  rw [hdat] at hx2;cases hx2
  obtain ⟨kv1,kv2⟩:=yAt kv
  have lw:ws.length=kvs.length:=by have:=congrArg length kv1;simpa using this
  have hiw:i<ws.length:=by omega
  obtain ⟨f0,f1,f2,f3,f4,f5⟩:=hf it (by simp)
  rw [<- lw] at st
  refine wpAny_pyNext_dict_item st hat (k:=ws[i].1) (v:=ws[i].2) (List.getElem?_eq_getElem hiw) fun key h' hkey st' sb=>?_
  have I1:L2.Inv X pins σ H { s with heap:=h' }:=I.turned (t':=s.toks) (fun b o hb e=>(sb.2 b hb).trans e) f0 f1 f3 f4 f5
  obtain ⟨o,e,c,q⟩:=id st'
  rw [lw] at st'
  have hk:(kvs[i]'hi).1=ws[i].1:=by
   have h1:(ws.map (·.1))[i]?=(kvs.map (·.1))[i]?:=by rw [kv1]
   rw [getElem?_map,getElem?_map,List.getElem?_eq_getElem hiw,List.getElem?_eq_getElem hi] at h1
   exact (Option.some.inj h1).symm
  have rel:RelV (kV (kvs[i]'hi).1) key:=by
   rw [hk]
   rcases ybD hkey with ⟨i,tk,g1,g2⟩|⟨y,tk,g1,g2⟩
   .rw [g1,g2];exact ⟨tk,rfl⟩
   .rw [g1,g2];exact ⟨tk,rfl⟩
  exact ⟨key,rfl,yFr (s:={ s with heap:=h' }) e c q (by decide) ⟨kV (kvs[i]'hi).1,H,I1,rel,⟨rfl,_,List.getElem?_eq_getElem hi,rfl⟩,st',fun b hb=>(hf b hb).1⟩⟩
 done:=by
  intro X hP hw hK hc i pins s σ H E I hf st hg
  subst hP hw hK
  obtain ⟨hi,hH⟩:=hg
  subst hi
  obtain ⟨hob,z,sy,ws,kv,hD⟩:=I.hok d _ hH
  obtain ⟨ep',hat⟩:=hD.dictAt
  obtain ⟨o',es',ho',hx1,hx2,hx3⟩:=id hat
  rw [hob] at ho';cases ho'
  rw [hdat] at hx2;cases hx2
  obtain ⟨kv1,kv2⟩:=yAt kv
  have lw:ws.length=kvs.length:=by have:=congrArg length kv1;simpa using this
  obtain ⟨f0,f1,f2,f3,f4,f5⟩:=hf it (by simp)
  rw [<- lw] at st
  exact wpAny_pyNext_dict_end (I.ok.hd hc) st hat (by simp) fun h' eb=>⟨rfl,I.turned (t':=s.toks) (fun b o hb e=>eb b o hb e) f0 f1 f3 f4 f5⟩
 self:=fun _ _ _ _ _ st h=>wpAny_pyIter_keyiter st h
variable {X:Cx}{A:Nat->Addr}{tg a:Expr}{p pos:Pos}{xa:XE}
theorem yKH {ta:TE}(ha:PE X a ta):PI X tg a (yNt (NF X) ta):=by
 intro pins s σ H R I h
 refine thn (ha pins s σ H _ I h) fun v s1 ⟨x,H1,I1,r1,q1⟩=>?_
 obtain ⟨d,kvs,e,hd,q⟩:=q1
 subst e
 cases r1
 have nf:NF X d:=fun o u z=>by have:=I1.base.frzs d o u z;rw [hd] at this;cases this
 obtain ⟨z,sy,ws,kv,hD⟩:=id (I1.hok d _ hd)
 obtain ⟨ep,hat⟩:=hD.dictAt
 obtain ⟨ob,es,ho,hx1,hx2,hx3⟩:=id hat
 obtain ⟨kv1,kv2⟩:=yAt kv
 have lw:ws.length=kvs.length:=by have:=congrArg length kv1;simpa using this
 have I2:=ySf (u1:=.frz ob (.dK kvs)) I1 hd (fun _ z=>by cases z) (fun _ z=>by cases z) (fun _ z=>by cases z) nf fun x=>⟨ho,x⟩
 refine wpAny_pyIter_dict sy hat ?_
 refine ⟨s1.heap.objs.size,[s1.heap.objs.size],_,_,_,rfl,I2.kept (t':=s1.toks) fun b o e=>Heap.get?_push_of_some _ e,yDH d _ ob kvs hx2,⟨_,Heap.get?_push_size _ rfl,rfl,by rw [lw];rfl⟩,fun b hb=>?_,q ob nf⟩
 have e:b=s1.heap.objs.size:=by simpa using hb
 subst e
 exact I2.fpOk (Nat.le_refl _) (I2.hok.fresh (Nat.le_refl _))
end
end PX
namespace PX
open PySem L2 PySem.Spec PyProof.Rows
section
variable {X:Cx}{A:Nat->Addr}
theorem yKI:MtR X "str.find" yCG:=by
 intro pins s σ H x xs v us Q I rx rv h
 obtain ⟨z,c,rfl,rfl,hz,hm,q⟩:=h
 obtain ⟨t,rfl⟩:=rx
 obtain ⟨u,rfl,tu,rfl⟩:=vals1 rv
 rcases yCH z c with ⟨_,h2⟩|⟨r,h1,_⟩
 .exact absurd hm h2
 .refine SC.find ?_
  have e:(Txt.find z ⟨#[c]⟩:Int)=((z.cps.toList.idxOf c:Nat):Int):=by
   unfold Txt.find
   rw [h1]
  rw [e]
  exact ⟨.int _,H,I.tok _,⟨_,rfl⟩,q⟩
variable {pos p apos:Pos}{x m:Str}{e:Expr}{es:List Expr}{aa:XA}{n:Nat}
theorem yNF {a:Addr}{ss:List Str}(nm:Nm x) (hg:Gl X x) (hm:X.mg x=some (.ref a)) (hk:KTp X.K a (ss.map V.str)):ZE X A (.Name x pos) (xC (.tup (ss.map PV.str))):=wE (yyl hg hm nm.d) (yGO (K:=ckX X A) hk)
structure yGW (K:PySem.W.Frag) (C:Addr) (m:Str) (f:Addr):Prop where
 rd:PySem.W.readsIn K C (.type "type")=true
 fc:PySem.W.findCls K (.ref C) (.type "type") m=some (.val (.ref f))
 sp:PySem.W.specialIn K (.ref C) "__getattribute__" = some (some (.builtin "type.__getattribute__"))
 kp:keepIn K (.ref f)=true
theorem yKJ {C f:Addr}{k:Nat}{fd:FuncData}{ps:List Str}{sp:Sp}{E:XK}{t:TA}{pl:Sem Bool}{CX:CXT}(c:yGW X.K C m f) (hg:Gl X x) (hm:X.mg x=some (.ref C)) (F:FnOk X.prog X.w X.K X.mg X.base CX k f fd ps sp) (hr:Room k X.A) (hb:Binds X.K fd ps []) (hx:ynm CX X E) (ha:PA X (e::es) t)
  (hd:(x == ("__debug__":Str))=false)
  (hst:starEach (e::es) X.env=(false,eval e X.env)::starEach es X.env) (hpl:(backTo pos (starEach es X.env)).any (·.1)=false)
  (ht:eval (.Call (.Attribute (.Name x p) m apos) (e::es) [] pos) X.env=(do
   let ov <- eval (.Name x p) X.env
   standAt apos.atName
   let (f,first) <- holding [ov] (getMethod ov m pl)
   callWith pos f first (backTo pos (starEach (e::es) X.env)) (backToKw pos (keywordEach [] X.env)))) :
  PE X (.Call (.Attribute (.Name x p) m apos) (e::es) [] pos) (yFA sp [] E t):=by
 intro pins s σ H Q I h
 refine PySem.W.methodCall_KW (pl:=pl) (thn (yyl (X:=X) hg hm hd pins s σ H (fun v H1=>v=.ref C/\H1=H) I ⟨rfl,rfl⟩) fun u s1 ⟨v,H1,I1,rx,ex,eh⟩=>?_) ht
 subst ex eh
 obtain rfl:u=Value.ref C:=rx
 refine PySem.W.method_cls I1.kIn c.sp (PySem.W.cls_value I1.kIn c.rd c.fc rfl ?_)
 have I1:=I1.tok (s1.toks+1)
 refine PySem.W.callWith_K (first:=[]) (h₀:=X.base) I.ok.mod.kin c.kp (thn (ha pos pins _ σ H1 _ I1 h) fun us s2 ⟨vs,H2,I2,r,q2⟩=>⟨I2.kIn,?_⟩) hst hpl
 exact yvN (us:=us) (vs:=vs) F hr hb .nil hx I2 r q2
theorem yKK {C f:Addr}{lv k:Nat}{fd:FuncData}{ps:List Str}{fi} {pl:Sem Bool}{o:Expr}{sp:Pos}(c:yGW X.K C m f) (nm:Nm x) (hg:Gl X x) (hm:X.mg x=some (.ref C)) (F:FnOk X.prog X.w X.K X.mg X.base CX0 lv f fd ps (spJ (ckX X A) n k fi)) (hr:Room lv X.A) (hb:Binds X.K fd ps [])
  (ho:PE X o (yBW 0)) (ha:ZA X A es n aa) (hst:starEach (o::es) X.env=(false,eval o X.env)::starEach es X.env) (hpl:(backTo pos (starEach es X.env)).any (·.1)=false)
  (ht:eval (.Call (.Attribute (.Name x p) m apos) (o::es) [] pos) X.env=(do
   let ov <- eval (.Name x p) X.env
   standAt apos.atName
   let (f,first) <- holding [ov] (getMethod ov m pl)
   callWith pos f first (backTo pos (starEach (o::es) X.env)) (backToKw pos (keywordEach [] X.env))))
  (hq:swapsWith (.Call (.Attribute (.Name x p) m apos) (o::es) [] pos) none sp.line X.env=pure false):ZF X A (.Expr (.Call (.Attribute (.Name x p) m apos) (o::es) [] pos) sp) (xBI k fi aa) :=
 wF (yuk (yKJ (E:=fun _ _ _=>False) c hg hm F hr hb yvU (yot ho ha.of hst) nm.d hst hpl ht) hq) (yKw (K:=ckX X A) sA ha.len)
end
section
variable {P:Program}{w:World}{K:PySem.W.Frag}{mg:Str->Option Value}{base:Heap}{A:Nat->Addr}
theorem ySg {x qual:Str}{st:Stmt}{f:Addr}{fd:FuncData}{N ps:List Str}{k kc n:Nat}{s:XS}(F:Fun K x qual st f fd) (S:yi N ps (yh st)) (hn:ps.length=n+1) (hN:n+1<=N.length)
  (h:∀ (cdv:Value) (Ar:Around) (outer:List Env) (sh:Shared) (H:Hp) (E:XK),Room k (Ar.deeper (envOfC qual (yh st) sh.heap.objs.size f cdv))->ZFs (yFE CX0 P w K mg base N qual (yh st) f cdv Ar outer sh H E).nox A (ylR st) s) :
  FnOk P w K mg base CX0 (k+1) f fd ps (spJ ⟨K,A⟩ n kc (yxS N.length kc s)) :=
 F.ok S (fun _ _ _ _ h=>(yKv h).trans hn.symm) fun cdv Ar outer sh H vs Q E hr hq=>⟨_,(h cdv Ar outer sh H E hr).of,yDx (K:=⟨K,A⟩) hN sF hq⟩
end
end PX
namespace PX
open PySem L2 PySem.Spec PyProof.Rows
section
variable {X:Cx}{A:Nat->Addr}
end
end PX
namespace PX
open PySem L2 PySem.Spec PyProof.Rows
section
variable {prog:Program}{w:World}{A:Around}{E:Value->Shared->Prop}{s:Shared}
end
section
variable {X:Cx}{A:Nat->Addr}
end
end PX
namespace PX
open PySem L2 PySem.Spec PyProof.Rows
open Builtin Builtin.Str in
section
variable {prog:Program}{w:World}{A:Around}{E:Value->Shared->Prop}{s:Shared}
theorem yBo {x y:Str}{t u:Tok}{Q:Value->Shared->Prop}(hy:(y.length == 0)=false) (hz:x.length+2<=sizeLine)
  (h:∀ (l:List (Str×Tok)) (k:Nat),l.map (·.1)=Txt.split x y->Q (.ref s.heap.objs.size) { s with heap:=s.heap.push { cls:=.type "list",data:=.seq (strValues l).toArray },toks:=k }) :
  wpAny (model prog w) A (call (.builtin "str.split") [.str x t,.str y u]) Q E s:=by
 have h2:(partsBetween x (occurrences x y 0 x.length (x.length+1)) y.length).length<=sizeLine:=by
  have:=StrLaws.occ_length_le x y 0 x.length (x.length+1)
  rw [length_partsBetween]
  omega
 by_cases c1:(decide (x.length<y.length) || decide (strKind x<strKind y))=true
 .exact call_meets F.slot_str_split (typeIs_str _ _ _) F.entry_str_split (F.args_str_split_2 _ _) (meets_str_split_cannot_occur x y t u c1) (h [(x,t)] s.toks (if_pos c1).symm)
 .have c1':(decide (x.length<y.length) || decide (strKind x<strKind y))=false:=by simpa using c1
  by_cases c2:(occurrences x y 0 x.length (x.length+1)).isEmpty=true
  .exact call_meets F.slot_str_split (typeIs_str _ _ _) F.entry_str_split (F.args_str_split_2 _ _) (meets_str_split_not_found x y t u c1' hy c2) (h [(x,t)] s.toks ((if_neg c1).trans (if_pos c2)).symm)
  .refine call_meets F.slot_str_split (typeIs_str _ _ _) F.entry_str_split (F.args_str_split_2 _ _) (meets_str_split_sep x y t u c1' hy (by simpa using c2) (by omega) h2) ?_
   show wants Q E _ { s with toks:=_,heap:=s.heap.push { cls:=.type "list",data:=.seq (strsFrom s.toks (partsBetween x (occurrences x y 0 x.length (x.length+1)) y.length)).toArray } }
   rw [strsFrom_eq]
   exact h _ _ ((numbered_texts _ _).trans ((if_neg c1).trans (if_neg c2)).symm)
end
theorem yAv (z:Str):Txt.split z " " = yDz z:=by
 have e:(" ":Str)=⟨#[32]⟩:=by rfl'
 have h:=yqN (Txt.split z " ") (fun q=>by have:=split_pos z " ";rw [q] at this;simp at this) (by rw [e];exact StrLaws.split_free z 32)
 rw [StrLaws.join_split] at h
 exact h.symm
theorem ywG:∀ (l:List (Str×Tok)),Vals ((l.map (·.1)).map V.str) (strValues l)
 | []=>.nil
 | (_,t)::l=>.cons ⟨t,rfl⟩ (ywG l)
section
variable {X:Cx}{A:Nat->Addr}
theorem yGX:MtR X "str.split" yIH:=by
 intro pins s σ H x xs v us Q I rx rv h
 obtain ⟨z,rfl,rfl,hz,q⟩:=h
 obtain ⟨t,rfl⟩:=rx
 obtain ⟨u,rfl,ru⟩:=vals1 rv
 obtain ⟨t',rfl⟩:=ru
 have hs:z.length+2<=sizeLine:=by simp only [PySem.sizeLine_eq];omega
 refine yBo (by decide) hs fun l k e=>?_
 have e2:l.map (·.1)=yDz z:=e.trans (yAv z)
 have e3:=split_le z " "
 rw [yAv] at e3
 refine ⟨.ref s.heap.objs.size,_,I.laid (t':=k) (o:=.lst ((yDz z).map V.str)) (fun b o e=>Heap.get?_push_of_some _ e) (Nat.le_refl _) ?_,rfl,q _ (I.hok.fresh (Nat.le_refl _))⟩
 exact ⟨by rw [length_map];exact Nat.le_trans e3 hs,strValues l,0,e2 ▸ ywG l,Heap.get?_push_size _ rfl⟩
end
section
variable {X:Cx}{pins:List (Addr×Obj)}{σ:L2.St}{H:Hp}{s:Shared}{h':Heap}
end
section
variable {X:Cx}{A:Nat->Addr}{elts:List Expr}{x1:Nat}{tp p pos:Pos}{a b:Expr}{aa:XA}{n:Nat}
end
section
variable {X:Cx}{A:Nat->Addr}{pos:Pos}
end
end PX
namespace PX
open PySem L2 PySem.Spec PyProof.Rows
section
variable {X:Cx}{A:Nat->Addr}{a:Expr}{es:List Expr}{p pos:Pos}{x:Str}{aa:XA}{n lv:Nat}{f:Addr}{fd:FuncData}{ps:List Str}{fn:Fn}
end
end PX
namespace PX
open PySem L2 PySem.Spec PyProof.Rows
section
variable {X:Cx}{A:Nat->Addr}{tg a b c:Expr}{p pos:Pos}{aa:XA}{n:Nat}
end
end PX
namespace PX
open PySem L2 PySem.Spec PyProof.Rows
section
variable {X:Cx}{A:Nat->Addr}{tg a:Expr}{p pos:Pos}{xa:XE}{x:Str}{es:List Expr}{aa:XA}{n:Nat}
theorem yKL (h:ZE X A a xa):ZI X A tg a (xID xa):=wI (yKH h.of) (yDC (K:=ckX X A) sE)
theorem yDI {f:Addr}{fd:FuncData}{ps:List Str}{lv k:Nat}{fn:Fn}(M:Mk X.K (A k) f) (F:FnOk X.prog X.w X.K X.mg X.base CX0 lv f fd ps (spE (ckX X A) (n+1+1) fn)) (hr:Room (lv+1) X.A) (m:Nm x) (hg:Gl X x) (hm:X.mg x=some (.ref (A k))) (hb:Binds X.K fd ps [])
  (ha:ZA X A (a::es) (n+1) aa) (he:starEach (a::es) X.env=(false,eval a X.env)::starEach es X.env) (hpl:(backTo pos (starEach es X.env)).any (·.1)=false):ZE X A (.Call (.Name x p) (a::es) [] pos) (ypk k fn aa) :=
 wE (yCv M F hr hg hm hb .nil yvU ha.of m.d he hpl) (yDB (K:=ckX X A) (k:=k) sA ha.len)
theorem yAw (hc:X.calm=true):ylQ X (.builtin "any") yRH:=by
 intro pins s σ H xs us Q I r h
 obtain ⟨p,bs,rfl,hp,q⟩:=h
 obtain ⟨u,rfl,rx⟩:=vals1 r
 cases rx
 obtain ⟨its,n,rv,e,hz⟩:=I.lst hp
 have eb:=yuq rv
 subst eb
 have hl:s.heap.IsList p (bs.map Value.bool).toArray:=⟨_,e,rfl,n,rfl⟩
 have hlt:p<s.heap.objs.size:=Heap.lt_size e
 refine call_any_walk (wpAny_pyIter_list hl ?_)
 refine ⟨s.heap.objs.size,[s.heap.objs.size,p],[s.heap.objs.size],(bs.map Value.bool).toArray.size,_,_,fun i=>(bs[i]?).getD false,rfl,Walks.list (A:=X.A.in1) (I.ok.hd hc) _ p (ne_of_lt hlt) _,
  ⟨⟨_,Heap.get?_push_size _ rfl,rfl,rfl⟩,hl.push _⟩,fun i v s' Q' E' hP hQ=>?_,fun h' tk hk=>?_⟩
 .have hP:(bs.map Value.bool)[i]?=some v:=by simpa using hP
  rw [getElem?_map] at hP
  cases eb:bs[i]? with
  | none=>rw [eb] at hP;cases hP
  | some b =>
   rw [eb] at hP
   cases hP
   simp only [eb,Option.getD_some] at hQ
   exact wpAny_truthy_bool hQ
 .have ea:((List.range (bs.map Value.bool).toArray.size).any fun i=>(bs[i]?).getD false)=bs.any id:=by
   rw [size_toArray,length_map]
   exact LSm.range_any bs
  rw [ea]
  exact ⟨.bl _,H,I.kept (t':=tk) fun b o eo=>hk b o (fun hm=>by rw [List.mem_singleton.mp hm] at eo;exact absurd (Heap.lt_size eo) (lt_irrefl _)) (Heap.get?_push_of_some _ eo),rfl,q⟩
theorem yKM {elt iter:Expr}{px:Pos}{scope:Scope}{cpos:Pos}{xe:XE}(ix:List Nat) (fr:List Str) (hc:X.calm=true) (hi:ZE X A iter xa) (hfr:FrOk X scope ix fr)
  (he:∀ (cl:List (Str×Addr)) (C:Addr) (s₃:Shared) (H₃:Hp) (fp:List Addr) (pins:List (Addr×Obj)),ZE (cxC X scope cl C (x::fr) s₃ H₃ fp pins) A elt xe)
  (hnd:(x::fr).Nodup) (hkind:scope.kind=.function) (hcell:∀ y∈scope.names,y.2≠.cell)
  (hnames:∀ y∈scope.names,y.2=.local->scope.names.lookup y.1=some .local) (hfree0:∀ y∈scope.names,y.2=.free->y.1∈fr) (hx:scope.names.lookup x=some .local)
  (hs:∀ v,foldedSetIterable iter X.env v=pure v):ZO X A (.ListComp elt [⟨.Name x px,iter,[],0⟩] scope cpos) (ywB xa ix xe) :=
 wO (yCI ix fr hc (yxZ hi.of) hfr (te:=cE (ckX X A) xe) (fun cl C s₃ H₃ fp pins=>(he cl C s₃ H₃ fp pins).of) hnd hkind hcell hnames hfree0 hx hs) (yDD (K:=ckX X A) ix sE sE)
theorem yIK:bootBuiltins "any" = some (.builtin "any"):=by rfl'
end
end PX
namespace My
open PySem L2 PX
theorem yRI:("":Str).length=0:=by rfl'
theorem yRJ:(" ":Str).length=1:=by rfl'
theorem yRK:("(":Str).length=1:=by rfl'
theorem yRL:(")":Str).length=1:=by rfl'
theorem yNG:("abcdefgh":Str).length=8:=by rfl'
theorem yQq:("either ( throw low b ) or ( )":Str).length=29:=by rfl'
theorem yQr:("ended":Str).length=5:=by rfl'
theorem yQs:("lay":Str).length=3:=by rfl'
theorem yQt:("low":Str).length=3:=by rfl'
theorem yQu:("plus":Str).length=4:=by rfl'
theorem yQv:("put":Str).length=3:=by rfl'
theorem yQw:("settle":Str).length=6:=by rfl'
theorem yQx:("times":Str).length=5:=by rfl'
theorem yQy:("try":Str).length=3:=by rfl'
theorem yQz:("try ( let b 8 ; throw low a ) on high c ( )":Str).length=43:=by rfl'
theorem yIL {f:Nat->Fn}{h:AH}:yox "long" f (.ins 0 [] []) h=f 0 [.ins 0 [] []] h:=yek (by rfl')
theorem yKN {v0 v1:PV}{f:Nat->Fn}{h:AH}:yox "long" f (.ins 1 ["slot","number"] [v0,v1]) h=f 1 [.ins 1 ["slot","number"] [v0,v1]] h:=yek (by rfl')
theorem yFi {v0 v1 v2 v3:PV}{f:Nat->Fn}{h:AH}:yox "long" f (.ins 2 ["word","slot","one","other"] [v0,v1,v2,v3]) h=f 2 [.ins 2 ["word","slot","one","other"] [v0,v1,v2,v3]] h:=yek (by rfl')
theorem yIM {v0 v1:PV}{f:Nat->Fn}{h:AH}:yox "long" f (.ins 3 ["slot","place"] [v0,v1]) h=f 3 [.ins 3 ["slot","place"] [v0,v1]] h:=yek (by rfl')
theorem yKO {v0 v1:PV}{f:Nat->Fn}{h:AH}:yox "long" f (.ins 4 ["place","slot"] [v0,v1]) h=f 4 [.ins 4 ["place","slot"] [v0,v1]] h:=yek (by rfl')
theorem yyO {v0 v1 v2:PV}{h:AH}:yib [5,6,7] "parts" (.ins 5 ["slot","parts","others"] [v0,v1,v2]) h=some (v1,h):=yjC (by decide) (by rfl') (by rw [show idxOf ("parts":Str) ["slot","parts","others"]=1 by rfl'];rfl)
theorem ywH {v0 v1 v2:PV}{h:AH}:yib [5,6,7] "others" (.ins 5 ["slot","parts","others"] [v0,v1,v2]) h=some (v2,h):=yjC (by decide) (by rfl') (by rw [show idxOf ("others":Str) ["slot","parts","others"]=2 by rfl'];rfl)
theorem yLM {v0 v1 v2:PV}{f:Nat->Fn}{h:AH}:yox "long" f (.ins 5 ["slot","parts","others"] [v0,v1,v2]) h=f 5 [.ins 5 ["slot","parts","others"] [v0,v1,v2]] h:=yek (by rfl')
theorem yqQ {v0 v1:PV}{h:AH}:yib [5,6,7] "parts" (.ins 6 ["parts","others"] [v0,v1]) h=some (v0,h):=yjC (by decide) (by rfl') (by rw [show idxOf ("parts":Str) ["parts","others"]=0 by rfl'];rfl)
theorem yqb {v0 v1:PV}{h:AH}:yib [5,6,7] "others" (.ins 6 ["parts","others"] [v0,v1]) h=some (v1,h):=yjC (by decide) (by rfl') (by rw [show idxOf ("others":Str) ["parts","others"]=1 by rfl'];rfl)
theorem yFj {v0 v1:PV}{f:Nat->Fn}{h:AH}:yox "long" f (.ins 6 ["parts","others"] [v0,v1]) h=f 6 [.ins 6 ["parts","others"] [v0,v1]] h:=yek (by rfl')
theorem ywI {v0 v1 v2 v3:PV}{h:AH}:yib [5,6,7] "parts" (.ins 7 ["parts","name","slot","others"] [v0,v1,v2,v3]) h=some (v0,h):=yjC (by decide) (by rfl') (by rw [show idxOf ("parts":Str) ["parts","name","slot","others"]=0 by rfl'];rfl)
theorem yuO {v0 v1 v2 v3:PV}{h:AH}:yib [5,6,7] "others" (.ins 7 ["parts","name","slot","others"] [v0,v1,v2,v3]) h=some (v3,h):=yjC (by decide) (by rfl') (by rw [show idxOf ("others":Str) ["parts","name","slot","others"]=3 by rfl'];rfl)
theorem yKP {v0 v1 v2 v3:PV}{f:Nat->Fn}{h:AH}:yox "long" f (.ins 7 ["parts","name","slot","others"] [v0,v1,v2,v3]) h=f 7 [.ins 7 ["parts","name","slot","others"] [v0,v1,v2,v3]] h:=yek (by rfl')
theorem yGY {v0 v1:PV}{f:Nat->Fn}{h:AH}:yox "long" f (.ins 8 ["name","slot"] [v0,v1]) h=f 8 [.ins 8 ["name","slot"] [v0,v1]] h:=yek (by rfl')
theorem yDJ {v0 v1:PV}{h:AH}:yib [10] "words" (.ins 10 ["words","at"] [v0,v1]) h=some (v0,h):=yjC (by decide) (by rfl') (by rw [show idxOf ("words":Str) ["words","at"]=0 by rfl'];rfl)
theorem yIN {v0 v1:PV}{h:AH}:yib [10,12] "at" (.ins 10 ["words","at"] [v0,v1]) h=some (v1,h):=yjC (by decide) (by rfl') (by rw [show idxOf ("at":Str) ["words","at"]=1 by rfl'];rfl)
section
def sl_ (s:String):Array (Lean.TSyntax `Lean.Parser.Tactic.simpLemma):=(s.splitOn " ").toArray.map fun s=>⟨Lean.mkNode `Lean.Parser.Tactic.simpLemma #[Lean.mkNullNode,Lean.mkNullNode,Lean.mkIdent s.toName]⟩
local macro_rules | `(tactic| simp_all? only [$ls,*])=>`(tactic| simp only [$(sl_ "ycU yPl yPm yIx yMY x_c yPo yPp yRX yRY yKe yMZ yNa yPq yRZ yPr ySa yKf yNb yPs yPt yPu yPv yPw yPx x_call ySb yPy yNc yKg yNd yKh yNe yDe yPz yPA yzZ yKi yPB yGq yNf yNg yPC yPD yPE yPF yPG yPH yPI yPJ x_i ySc yyD yIy yDf yNi yPK yPL yPM yPN yPO yPP yNj yIz yPQ yPR yPS yPT yPU yPV yPW yPX yPY yNk yGr yNl yNm yNn yIA yKj yNo yPn bind_some Option.bind_none List.set_cons_zero List.set_cons_succ length_cons length_nil decide_eq_true_eq Bool.not_eq_true' decide_eq_false_iff_not if_true if_false ite_true ite_false and_self Int.reducePow Int.reduceToNat Int.reduceLT Int.reduceLE Int.reduceNeg Int.reduceAdd Int.reduceSub Nat.reduceLT Nat.reduceLeDiff Nat.reduceAdd true_and and_true reduceIte Nat.reduceEqDiff eq_self yQi yRB yRC yQe yQf yQg yQh Int.reduceEq Bool.not_true Bool.not_false yNG yyO ywH yqQ yqb ywI yuO"),*,$ls,*])
local macro_rules | `(tactic| grind)=>`(tactic| simp_all? only [ycU])
def tbO (cs:List Nat):List (Nat×Nat×Bool):=cs.flatMap fun i=>cs.map fun j=>(i,j,i == j)
def ylY:List (Nat×Nat×Bool):=tbO [1,2,3,4,5,6,7,8,9]
structure Fa (ck:Ck):Prop where
 fl_stack:∀ k∈([11]:List Nat),Cls ck.K (ck.A k)/\NoAttr ck.K (ck.A k) "stack"
 fl_last_seen:∀ k∈([11]:List Nat),Cls ck.K (ck.A k)/\NoAttr ck.K (ck.A k) "last_seen"
 fl_held:∀ k∈([12]:List Nat),Cls ck.K (ck.A k)/\NoAttr ck.K (ck.A k) "held"
 fl_width:∀ k∈([12,14]:List Nat),Cls ck.K (ck.A k)/\NoAttr ck.K (ck.A k) "width"
 fl_log:∀ k∈([12]:List Nat),Cls ck.K (ck.A k)/\NoAttr ck.K (ck.A k) "log"
 fl_rows:∀ k∈([12]:List Nat),Cls ck.K (ck.A k)/\NoAttr ck.K (ck.A k) "rows"
 fl_at:∀ k∈([10,12]:List Nat),Cls ck.K (ck.A k)/\NoAttr ck.K (ck.A k) "at"
 fl_seen_stamps:∀ k∈([12]:List Nat),Cls ck.K (ck.A k)/\NoAttr ck.K (ck.A k) "seen_stamps"
 fl_sides:∀ k∈([12]:List Nat),Cls ck.K (ck.A k)/\NoAttr ck.K (ck.A k) "sides"
 fl_deeds:∀ k∈([14]:List Nat),Cls ck.K (ck.A k)/\NoAttr ck.K (ck.A k) "deeds"
 fl_nth:∀ k∈([14]:List Nat),Cls ck.K (ck.A k)/\NoAttr ck.K (ck.A k) "nth"
 fl_sleeps:∀ k∈([14]:List Nat),Cls ck.K (ck.A k)/\NoAttr ck.K (ck.A k) "sleeps"
 fl_before:∀ k∈([14]:List Nat),Cls ck.K (ck.A k)/\NoAttr ck.K (ck.A k) "before"
 fl_run:∀ k∈([14]:List Nat),Cls ck.K (ck.A k)/\NoAttr ck.K (ck.A k) "run"
 fl_numbers:∀ k∈([15]:List Nat),Cls ck.K (ck.A k)/\NoAttr ck.K (ck.A k) "numbers"
 fl_marks:∀ k∈([15]:List Nat),Cls ck.K (ck.A k)/\NoAttr ck.K (ck.A k) "marks"
 fl_crew:∀ k∈([15]:List Nat),Cls ck.K (ck.A k)/\NoAttr ck.K (ck.A k) "crew"
 fl_entries:∀ k∈([15]:List Nat),Cls ck.K (ck.A k)/\NoAttr ck.K (ck.A k) "entries"
 fl_words:∀ k∈([10]:List Nat),Cls ck.K (ck.A k)/\NoAttr ck.K (ck.A k) "words"
 fl_slot:∀ k∈([1,2,3,4,5,7,8]:List Nat),Cls ck.K (ck.A k)/\NoAttr ck.K (ck.A k) "slot"
 fl_number:∀ k∈([1]:List Nat),Cls ck.K (ck.A k)/\NoAttr ck.K (ck.A k) "number"
 fl_word:∀ k∈([2]:List Nat),Cls ck.K (ck.A k)/\NoAttr ck.K (ck.A k) "word"
 fl_one:∀ k∈([2]:List Nat),Cls ck.K (ck.A k)/\NoAttr ck.K (ck.A k) "one"
 fl_other:∀ k∈([2]:List Nat),Cls ck.K (ck.A k)/\NoAttr ck.K (ck.A k) "other"
 fl_place:∀ k∈([3,4]:List Nat),Cls ck.K (ck.A k)/\NoAttr ck.K (ck.A k) "place"
 fl_parts:∀ k∈([5,6,7]:List Nat),Cls ck.K (ck.A k)/\NoAttr ck.K (ck.A k) "parts"
 fl_others:∀ k∈([5,6,7]:List Nat),Cls ck.K (ck.A k)/\NoAttr ck.K (ck.A k) "others"
 fl_name:∀ k∈([7,8]:List Nat),Cls ck.K (ck.A k)/\NoAttr ck.K (ck.A k) "name"
 isa:∀ r∈ylY,∀ (H:Hp) (a dx:Addr) (fs:List (Str×V)),H a=some (.ins (ck.A r.1) dx fs)->IsI ck.K H (.ref a) (.ref (ck.A r.2.1)) r.2.2
def ylr:List PV->AH->Option (Nd×AH):=yxS 1 11 (yn (ydq [11] 0 "stack" (yor (yeG (yb (yor (yBk)) (yj))))) (ydq [11] 0 "last_seen" (yor (yBk))))
def yiH:Fn:=ybX 4 (yn (ybI (xOp (ybC) (ybk [11] "stack" (yf 0)) (xUn yMK (xC (.int 1)))) (yr 3)) (yBj (yf 3) (yf 1) (yf 2)))
def yeK:Fn:=ybX 1 (ybv (xBM yjw (yqJ) (ybk [11] "stack" (yf 0)) (yb (yor (yBk)) (yj))))
def yec:Fn:=ybX 3 (yn (ybI (xBM yjw (ylX) (ybk [11] "stack" (yf 0)) (yj)) (yr 1)) (yn (ybI (xOp (ybC) (ybk [11] "stack" (yf 0)) (xUn yMK (xC (.int 1)))) (yr 2)) (ybv (xBM yBm (yLJ) (yf 2) (yb (yf 1) (yj))))))
def yih:Fn:=ybX 1 (ybv (xBM yjw (ylX) (ybk [11] "stack" (yf 0)) (yj)))
def ynx:Fn:=ybX 1 (yS (xFz (ytD (ybk [11] "last_seen" (yf 0)))))
def ygi:Fn:=ybX 2 (yn (ybI (xOp (ybC) (ybk [11] "stack" (yf 0)) (xC (.int 0))) (yr 1)) (yS (xFz (ytD (yf 1)))))
def yii:Fn:=ybX 1 (yS (ypY (xCB (yxT ylY) (yb (yf 0) (yb (xC (.ty "int")) (yj)))) (yJC (xCB (yxT ylY) (yb (yf 0) (yb (xC (.ty "bool")) (yj)))))))
def yeL:Fn:=ybX 1 (yS (ypY (yU yii (yb (yf 0) (yj))) (yln (oLe) (oLt) (xC (.int 0)) (yf 0) (xC (.int 18446744073709551616)))))
def yfk:Fn:=ybX 2 (yS (xCB (yIw) (yb (xFz (ylk (xIS (yf 0)) [1] (xOp (yMP) (yf 0) (yf 1)))) (yj))))
def yiI:Fn:=ybX 2 (yn (yca (xOr (yuw (yo (yln (oLe) (oLe) (xC (.int 1)) (xCB (yyB) (yb (yf 0) (yj))) (xC (.int 20))))) (yuw (yo (yU yfk (yb (yf 0) (yb (xC (.str "0123456789")) (yj))))))) (yS (xC .non)) (yP)) (yn (yca (yJD (yo (xOp (oEq) (xOp (yMR) (yf 0) (xC (.int 0))) (xC (.str "0")))) (yo (xOp (oNe) (yf 0) (xC (.str "0"))))) (yS (xC .non)) (yP)) (yn (ybI (xCB (yDc) (yb (yf 0) (yj))) (yr 1)) (yS (xIf (yo (xOp (oLt) (yf 1) (xC (.int 18446744073709551616)))) (yf 1) (xC .non))))))
def yqR:Fn:=ybX 1 (yS (xOp (yQc false) (yf 0) (xC (.tup [.str "plus",.str "minus",.str "times",.str "less",.str "same"]))))
def yny:Fn:=ybX 1 (yS (ypY (xOp (oEq) (xCB (yyB) (yb (yf 0) (yj))) (xC (.int 1))) (xOp (yMP) (yf 0) (xC (.str "abcdefgh")))))
def ygY:Fn:=ybX 1 (yS (xBM isStr (yyC) (xC (.str "abcdefgh")) (yb (yf 0) (yj))))
def ynz:Fn:=ybX 1 (yS (ypY (yln (oLe) (oLe) (xC (.int 1)) (xCB (yyB) (yb (yf 0) (yj))) (xC (.int 8))) (yU yfk (yb (yf 0) (yb (xC (.str "abcdefghijklmnopqrstuvwxyz")) (yj))))))
def yjG:List PV->AH->Option (Nd×AH):=yxS 3 12 (yn (ydq [12] 0 "held" (yor (ynk (yT) (yb (yf 1) (yj))))) (yn (ydq [12,14] 0 "width" (yf 2)) (ydq [12] 0 "log" (yor (ylU ylr (yj))))))
def ybK:Fn:=ybX 2 (yS (xOp (ybC) (ybk [12] "held" (yf 0)) (yU ygY (yb (yf 1) (yj)))))
def yeM:Fn:=ybX 3 (yjD (ybk [12] "held" (yf 0)) (yU ygY (yb (yf 1) (yj))) (yf 2))
def yfX:Fn:=ybX 2 (yS (xOp oMod (yk 12 "held_in" ybK (yf 0) (yb (yf 1) (yj))) (ybk [12,14] "width" (yf 0))))
def yel:Fn:=ybX 3 (ybv (yk 11 "write" yiH (ybk [12] "log" (yf 0)) (yb (yk 12 "box_at" yfX (yf 0) (yb (yf 1) (yj))) (yb (yk 12 "held_in" ybK (yf 0) (yb (yf 2) (yj))) (yj)))))
def yqS:Fn:=ybX 2 (yn (yca (yo (xOp (oEq) (xOp (ybl) (yf 1) (xC (.int 0))) (xC (.str "wait")))) (yS (xOp (oEq) (xOp (ybl) (yf 0) (xC (.int 0))) (xC (.str "either")))) (yP)) (yS (ypY (xOp (oEq) (xOp (ybl) (yf 0) (xC (.int 0))) (xC (.str "guard"))) (xOp (oEq) (xOp (ybl) (yf 0) (xC (.int 1))) (xOp (ybl) (yf 1) (xC (.int 1)))))))
def yhn:List PV->AH->Option (Nd×AH):=yxS 4 12 (yn (xBI 12 yjG (yb (yf 2) (yb (yf 3) (yj)))) (yn (ydq [12] 0 "rows" (yf 1)) (yn (ydq [10,12] 0 "at" (xC (.int 0))) (yn (ydq [12] 0 "seen_stamps" (yor (yBk))) (ydq [12] 0 "sides" (yor (yeG (yj))))))))
def yij:Fn:=ybX 1 (yS (xOp (ybC) (ybk [12] "rows" (yf 0)) (ybk [10,12] "at" (yf 0))))
def ydC:Fn:=ybX 2 (yS (xCB (yNv) (yb (xFz (ylk (xID (ybk [12] "seen_stamps" (yf 0))) [1,0] (xOp (oNe) (xOp (ybC) (yf 1) (yf 0)) (yKr (ybk [12] "seen_stamps" (yf 2)) (yf 0))))) (yj))))
def ybi:Fn:=ybX 3 (yn (ybI (xCB (yej) (yb (ybk [12] "sides" (yf 0)) (yj))) (yr 2)) (yn (ylo 1000 (yJD (yo (xOp (oGt) (yf 2) (xC (.int 0)))) (yuw (yo (yU yqS (yb (xOp (ybl) (xOp (ybC) (ybk [12] "sides" (yf 0)) (xOp yGf (yf 2) (xC (.int 1)))) (xC (.int 0))) (yb (yf 1) (yj))))))) (ybI (xOp yGf (yf 2) (xC (.int 1))) (yr 2))) (yS (yf 2))))
def ybH:Fn:=ybX 2 (yn (ybI (yk 12 "row" yij (yf 0) (yj)) (yr 1)) (yn (yca (yo (xOp (oEq) (xOp (ybl) (yf 1) (xC (.int 0))) (xC (.str "take")))) (yeE) (yP)) (yn (yca (xOr (yo (xOp (oEq) (xOp (ybl) (yf 1) (xC (.int 0))) (xC (.str "wait")))) (yo (xOp (oEq) (xOp (ybl) (yf 1) (xC (.int 0))) (xC (.str "throw"))))) (yS (xOp (oEq) (yk 12 "taker_layer" ybi (yf 0) (yb (yf 1) (yj))) (xC (.int 0)))) (yP)) (yS (xOp (oEq) (xOp (ybl) (yf 1) (xC (.int 0))) (xC (.str "lay")))))))
def yba:Fn:=ybX 2 (yca (yo (xOp (oEq) (xOp (ybl) (yf 1) (xC (.int 0))) (xC (.str "let")))) (ybv (yk 12 "hold" yeM (yf 0) (yb (xOp (ybl) (yf 1) (xC (.int 1))) (yb (xOp (ybl) (yf 1) (xC (.int 2))) (yj))))) (yca (yo (xOp (oEq) (xOp (ybl) (yf 1) (xC (.int 0))) (xC (.str "take")))) (yeE) (yca (yo (xOp (oEq) (xOp (ybl) (yf 1) (xC (.int 0))) (xC (.str "put")))) (ybv (yk 12 "do_put" yel (yf 0) (yb (xOp (ybl) (yf 1) (xC (.int 1))) (yb (xOp (ybl) (yf 1) (xC (.int 2))) (yj))))) (yeE))))
def yeN:Fn:=ybX 2 (yca (yo (xOp (oEq) (xOp (ybl) (yf 1) (xC (.int 0))) (xC (.str "jump")))) (yfV [10,12] "at" (yf 0) (xOp (ybl) (yf 1) (xC (.int 1)))) (yca (yo (xOp (oEq) (yk 12 "held_in" ybK (yf 0) (yb (xOp (ybl) (yf 1) (xC (.int 1))) (yj))) (xC (.int 0)))) (yfV [10,12] "at" (yf 0) (xOp (ybl) (yf 1) (xC (.int 2)))) (yP)))
def ycy:Fn:=ybX 5 (yn (ybI (yk 12 "taker_layer" ybi (yf 0) (yb (yf 1) (yj))) (yr 2)) (yn (ybI (xOp (ybC) (ybk [12] "sides" (yf 0)) (xOp yGf (yf 2) (xC (.int 1)))) (yr 3)) (yn (ylo 1000 (yo (xOp (oGe) (xCB (yej) (yb (ybk [12] "sides" (yf 0)) (yj))) (yf 2))) (yn (ybv (xBM yjw (ylX) (ybk [12] "sides" (yf 0)) (yj))) (ybv (yk 11 "drop" yih (ybk [12] "log" (yf 0)) (yj))))) (yn (ybI (xOp (ybl) (yf 3) (xC (.int 0))) (yr 4)) (yn (yfV [12] "held" (yf 0) (yor (ynk (yT) (yb (xOp (ybl) (yf 3) (xC (.int 1))) (yj))))) (yn (yfV [10,12] "at" (yf 0) (xOp (ybl) (yf 4) (xUn yMK (xC (.int 1))))) (yS (yf 4))))))))
def ycW:Fn:=ybX 4 (yn (ybI (yk 12 "held_in" ybK (yf 0) (yb (xOp (ybl) (yf 1) (xC (.int 2))) (yj))) (yr 2)) (yn (ybI (yk 12 "leave" ycy (yf 0) (yb (yf 1) (yj))) (yr 3)) (ybv (yk 12 "hold" yeM (yf 0) (yb (xOp (ybl) (yf 3) (xC (.int 2))) (yb (yf 2) (yj)))))))
def yem:Fn:=ybX 2 (yn (ybI (yk 12 "row" yij (yf 0) (yj)) (yr 1)) (yn (yfV [10,12] "at" (yf 0) (xOp yno (ybk [10,12] "at" (yf 0)) (xC (.int 1)))) (yca (yo (xOp (oEq) (xOp (ybl) (yf 1) (xC (.int 0))) (xC (.str "wait")))) (ybv (yk 12 "leave" ycy (yf 0) (yb (yf 1) (yj)))) (yca (yo (xOp (oEq) (xOp (ybl) (yf 1) (xC (.int 0))) (xC (.str "throw")))) (ybv (yk 12 "throw" ycW (yf 0) (yb (yf 1) (yj)))) (yca (xOr (yo (xOp (oEq) (xOp (ybl) (yf 1) (xC (.int 0))) (xC (.str "jump")))) (yo (xOp (oEq) (xOp (ybl) (yf 1) (xC (.int 0))) (xC (.str "unless"))))) (ybv (yk 12 "lead" yeN (yf 0) (yb (yf 1) (yj)))) (yca (xOr (yo (xOp (oEq) (xOp (ybl) (yf 1) (xC (.int 0))) (xC (.str "either")))) (yo (xOp (oEq) (xOp (ybl) (yf 1) (xC (.int 0))) (xC (.str "guard"))))) (yn (ybv (xBM yjw (yqJ) (ybk [12] "sides" (yf 0)) (yb (yfj (yb (yf 1) (yb (xFz (ynk (yT) (yb (ybk [12] "held" (yf 0)) (yj)))) (yj)))) (yj)))) (ybv (yk 11 "begin" yeK (ybk [12] "log" (yf 0)) (yj)))) (yca (yo (xOp (oEq) (xOp (ybl) (yf 1) (xC (.int 0))) (xC (.str "settle")))) (yn (ybv (xBM yjw (ylX) (ybk [12] "sides" (yf 0)) (yj))) (ybv (yk 11 "settle" yec (ybk [12] "log" (yf 0)) (yj)))) (ybv (yk 12 "go_plain" yba (yf 0) (yb (yf 1) (yj)))))))))))
def yed:Fn:=ybX 1 (yn (yca (yo (xOp (oEq) (ybk [14] "nth" (yf 0)) (xCB (yej) (yb (ybk [14] "deeds" (yf 0)) (yj))))) (yS (xC (.str "ended"))) (yP)) (yS (xIf (yo (ybk [14] "sleeps" (yf 0))) (xC (.str "asleep")) (xC (.str "awake")))))
def ydD:Fn:=ybX 2 (yn (ybI (xIf (yo (xOp (oLt) (ybk [14] "nth" (yf 0)) (xCB (yej) (yb (ybk [14] "deeds" (yf 0)) (yj))))) (xOp (ybC) (ybk [14] "deeds" (yf 0)) (ybk [14] "nth" (yf 0))) (xFz (yeG (yj)))) (yr 1)) (yS (yor (ylU yhn (yb (yf 1) (yb (ybk [14] "before" (yf 0)) (yb (ybk [12,14] "width" (yf 0)) (yj))))))))
def ygZ:Fn:=ybX 2 (yn (yfV [14] "nth" (yf 0) (xOp yno (ybk [14] "nth" (yf 0)) (xC (.int 1)))) (yn (yfV [14] "before" (yf 0) (xFz (ynk (yT) (yb (yf 1) (yj))))) (yfV [14] "run" (yf 0) (yk 14 "new_run" ydD (yf 0) (yj)))))
def ycq:Fn:=ybX 3 (yn (yfV [14] "deeds" (yf 0) (xFz (ynk (yT) (yb (yf 1) (yj))))) (yn (yfV [12,14] "width" (yf 0) (yf 2)) (yn (yfV [14] "nth" (yf 0) (xC (.int 0))) (yn (yfV [14] "sleeps" (yf 0) (xC (.bl false))) (yn (yfV [14] "before" (yf 0) (xFz (ytz yGj (xFz (yeG (yb (xC (.int 0)) (yj)))) (xCB (yyB) (yb (xC (.str "abcdefgh")) (yj)))))) (yfV [14] "run" (yf 0) (yk 14 "new_run" ydD (yf 0) (yj))))))))
def yho:List PV->AH->Option (Nd×AH):=yxS 3 1 (yn (ydq [1,2,3,4,5,7,8] 0 "slot" (yf 1)) (ydq [1] 0 "number" (yf 2)))
def yeO:List PV->AH->Option (Nd×AH):=yxS 5 2 (yn (ydq [2] 0 "word" (yf 1)) (yn (ydq [1,2,3,4,5,7,8] 0 "slot" (yf 2)) (yn (ydq [2] 0 "one" (yf 3)) (ydq [2] 0 "other" (yf 4)))))
def ygj:List PV->AH->Option (Nd×AH):=yxS 3 3 (yn (ydq [1,2,3,4,5,7,8] 0 "slot" (yf 1)) (ydq [3,4] 0 "place" (yf 2)))
def yhp:List PV->AH->Option (Nd×AH):=yxS 3 4 (yn (ydq [3,4] 0 "place" (yf 1)) (ydq [1,2,3,4,5,7,8] 0 "slot" (yf 2)))
def yiJ:List PV->AH->Option (Nd×AH):=yxS 4 5 (yn (ydq [1,2,3,4,5,7,8] 0 "slot" (yf 1)) (yn (ydq [5,6,7] 0 "parts" (xFz (ynk (yT) (yb (yf 2) (yj))))) (ydq [5,6,7] 0 "others" (xFz (ynk (yT) (yb (yf 3) (yj)))))))
def yeP:List PV->AH->Option (Nd×AH):=yxS 3 6 (yn (ydq [5,6,7] 0 "parts" (xFz (ynk (yT) (yb (yf 1) (yj))))) (ydq [5,6,7] 0 "others" (xFz (ynk (yT) (yb (yf 2) (yj))))))
def yhq:List PV->AH->Option (Nd×AH):=yxS 5 7 (yn (ydq [5,6,7] 0 "parts" (xFz (ynk (yT) (yb (yf 1) (yj))))) (yn (ydq [7,8] 0 "name" (yf 2)) (yn (ydq [1,2,3,4,5,7,8] 0 "slot" (yf 3)) (ydq [5,6,7] 0 "others" (xFz (ynk (yT) (yb (yf 4) (yj))))))))
def yfA:List PV->AH->Option (Nd×AH):=yxS 3 8 (yn (ydq [7,8] 0 "name" (yf 1)) (ydq [1,2,3,4,5,7,8] 0 "slot" (yf 2)))
def yqT:Fn:=ybX 1 (yS (xC (.int 0)))
def ytF:Fn:=ybX 1 (yS (xC (.int 1)))
def ynA:Fn:=ybX 1 (yS (xC (.int 1)))
def yqU:Fn:=ybX 1 (yS (xC (.int 1)))
def ytG:Fn:=ybX 1 (yS (xC (.int 1)))
def ypl:Fn:=ybX 1 (yS (xC (.int 1)))
def yqV:Fn:=ybX 1 (yS (xC (.int 1)))
mutual
noncomputable def ynB:Nat->Nat->Fn
 | 0,_=>fun _ _=>none
 | n+1,k=>match k with|0=>yqT|1=>ytF|2=>ynA|3=>yqU|4=>ytG|5=>ynC n|6=>yfY n|7=>ylb n|8=>ypl|9=>yqV|_=>fun _ _=>none
noncomputable def ybP:Nat->Fn
 | 0=>fun _ _=>none
 | n+1=>ybX 1 (yS (xCB (yMV) (yb (xFz (ylk (xIL (yf 0)) [] (ysZ "long" (ynB n) (yf 0)))) (yj))))
noncomputable def ynC:Nat->Fn
 | 0=>fun _ _=>none
 | n+1=>ybX 1 (yS (xOp yno (xOp yno (xC (.int 2)) (yU (ybP n) (yb (ybk [5,6,7] "parts" (yf 0)) (yj)))) (yU (ybP n) (yb (ybk [5,6,7] "others" (yf 0)) (yj)))))
noncomputable def yfY:Nat->Fn
 | 0=>fun _ _=>none
 | n+1=>ybX 1 (yS (xOp yno (xOp yno (xC (.int 3)) (yU (ybP n) (yb (ybk [5,6,7] "parts" (yf 0)) (yj)))) (yU (ybP n) (yb (ybk [5,6,7] "others" (yf 0)) (yj)))))
noncomputable def ylb:Nat->Fn
 | 0=>fun _ _=>none
 | n+1=>ybX 1 (yS (xOp yno (xOp yno (xC (.int 3)) (yU (ybP n) (yb (ybk [5,6,7] "parts" (yf 0)) (yj)))) (yU (ybP n) (yb (ybk [5,6,7] "others" (yf 0)) (yj)))))
end
def ypm:Fn:=ybX 1 (yn (yca (yo (xCB (yxT ylY) (yb (yf 0) (yb (xC (.cls 1)) (yj))))) (yS (xFz (yeG (yb (yfj (yb (xC (.str "let")) (yb (ybk [1,2,3,4,5,7,8] "slot" (yf 0)) (yb (ybk [1] "number" (yf 0)) (yj))))) (yj))))) (yP)) (yn (yca (yo (xCB (yxT ylY) (yb (yf 0) (yb (xC (.cls 2)) (yj))))) (yS (xFz (yeG (yb (yfj (yb (ybk [2] "word" (yf 0)) (yb (ybk [1,2,3,4,5,7,8] "slot" (yf 0)) (yb (ybk [2] "one" (yf 0)) (yb (ybk [2] "other" (yf 0)) (yj)))))) (yj))))) (yP)) (yn (yca (yo (xCB (yxT ylY) (yb (yf 0) (yb (xC (.cls 3)) (yj))))) (yS (xFz (yeG (yb (yfj (yb (xC (.str "take")) (yb (ybk [1,2,3,4,5,7,8] "slot" (yf 0)) (yb (ybk [3,4] "place" (yf 0)) (yj))))) (yj))))) (yP)) (yn (yca (yo (xCB (yxT ylY) (yb (yf 0) (yb (xC (.cls 4)) (yj))))) (yS (xFz (yeG (yb (yfj (yb (xC (.str "put")) (yb (ybk [3,4] "place" (yf 0)) (yb (ybk [1,2,3,4,5,7,8] "slot" (yf 0)) (yj))))) (yj))))) (yP)) (yn (yca (yo (xCB (yxT ylY) (yb (yf 0) (yb (xC (.cls 8)) (yj))))) (yS (xFz (yeG (yb (yfj (yb (xC (.str "throw")) (yb (ybk [7,8] "name" (yf 0)) (yb (ybk [1,2,3,4,5,7,8] "slot" (yf 0)) (yj))))) (yj))))) (yP)) (yn (yca (yo (xCB (yxT ylY) (yb (yf 0) (yb (xC (.cls 9)) (yj))))) (yS (xFz (yeG (yb (yfj (yb (xC (.str "wait")) (yj))) (yj))))) (yP)) (yS (xFz (yeG (yj))))))))))
def yqW:Fn:=ybX 2 (yn (yca (yo (xCB (yxT ylY) (yb (yf 0) (yb (xC (.cls 5)) (yj))))) (yS (yfj (yb (xC (.str "unless")) (yb (ybk [1,2,3,4,5,7,8] "slot" (yf 0)) (yb (yf 1) (yj)))))) (yP)) (yn (yca (yo (xCB (yxT ylY) (yb (yf 0) (yb (xC (.cls 6)) (yj))))) (yS (yfj (yb (xC (.str "either")) (yb (yf 1) (yj))))) (yP)) (yS (yfj (yb (xC (.str "guard")) (yb (ybk [7,8] "name" (yf 0)) (yb (ybk [1,2,3,4,5,7,8] "slot" (yf 0)) (yb (yf 1) (yj)))))))))
def yls:Fn:=ybX 2 (yn (yca (yo (xCB (yxT ylY) (yb (yf 0) (yb (xC (.cls 5)) (yj))))) (yS (xFz (yeG (yb (yfj (yb (xC (.str "jump")) (yb (yf 1) (yj)))) (yj))))) (yP)) (yS (xFz (yeG (yb (yfj (yb (xC (.str "settle")) (yj))) (yb (yfj (yb (xC (.str "jump")) (yb (yf 1) (yj)))) (yj)))))))
mutual
noncomputable def yiK:Nat->Fn
 | 0=>fun _ _=>none
 | n+1=>ybX 4 (yn (yBg (yeG (yj)) 2) (yn (yzQ (xIL (yf 0)) (yr 3) (yGC 2 (yU (yqX n) (yb (yf 3) (yb (xOp yno (yf 1) (yGE 2)) (yj)))))) (yCQ 2 (yS (yf 2)))))
noncomputable def yqX:Nat->Fn
 | 0=>fun _ _=>none
 | n+1=>ybX 2 (yn (yca (xOr (yo (xCB (yxT ylY) (yb (yf 0) (yb (xC (.cls 5)) (yj))))) (xOr (yo (xCB (yxT ylY) (yb (yf 0) (yb (xC (.cls 6)) (yj))))) (yo (xCB (yxT ylY) (yb (yf 0) (yb (xC (.cls 7)) (yj))))))) (yS (yU (ypn n) (yb (yf 0) (yb (yf 1) (yj))))) (yP)) (yS (yU ypm (yb (yf 0) (yj)))))
noncomputable def ypn:Nat->Fn
 | 0=>fun _ _=>none
 | n+1=>ybX 6 (yn (ybI (xOp yno (yf 1) (ysZ "long" (ynB 45) (yf 0))) (yr 2)) (yn (ybI (xOp yGf (yf 2) (yU (ybP 45) (yb (ybk [5,6,7] "others" (yf 0)) (yj)))) (yr 3)) (yn (ybI (yU (yiK n) (yb (ybk [5,6,7] "parts" (yf 0)) (yb (xOp yno (yf 1) (xC (.int 1))) (yj)))) (yr 4)) (yn (ybI (yU (yiK n) (yb (ybk [5,6,7] "others" (yf 0)) (yb (yf 3) (yj)))) (yr 5)) (yS (xFz (ytz yzT (xFz (ytz yzT (xFz (ytz yzT (xFz (yeG (yb (yU yqW (yb (yf 0) (yb (yf 3) (yj)))) (yj)))) (yf 4))) (yU yls (yb (yf 0) (yb (yf 2) (yj)))))) (yf 5))))))))
end
def yik:Fn:=ybX 1 (yS (xFz (ytz yzT (yU (yiK 45) (yb (yf 0) (yb (xC (.int 0)) (yj)))) (xFz (yeG (yb (yfj (yb (xC (.str "lay")) (yj))) (yj)))))))
def yeQ:List PV->AH->Option (Nd×AH):=yxS 2 10 (yn (ydq [10] 0 "words" (xFz (ynk (yT) (yb (yf 1) (yj))))) (ydq [10,12] 0 "at" (xC (.int 0))))
def ylc:Fn:=ybX 1 (yn (yca (yo (xOp (oEq) (yf 0) (xC (.str "")))) (yS (xFz (yeG (yj)))) (yP)) (yS (xBM isStr (ywA) (yf 0) (yb (xC (.str " ")) (yj)))))
def ybb:Fn:=ybX 1 (yn (yca (yo (xOp (oLt) (ybk [10,12] "at" (yf 0)) (xCB (yej) (yb (ybk [10] "words" (yf 0)) (yj))))) (yS (xOp (ybC) (ybk [10] "words" (yf 0)) (ybk [10,12] "at" (yf 0)))) (yP)) (yS (xC .non)))
def ybL:Fn:=ybX 2 (yn (ybI (yk 10 "ahead" ybb (yf 0) (yj)) (yr 1)) (yn (yca (yo (xOp (yLG) (yf 1) (xC .non))) (yeE) (yP)) (yn (yfV [10,12] "at" (yf 0) (xOp yno (ybk [10,12] "at" (yf 0)) (xC (.int 1)))) (yS (yf 1)))))
def yI:Fn:=ybX 3 (yn (ybI (yk 10 "taken" ybL (yf 0) (yj)) (yr 2)) (yca (yo (xOp (oNe) (yf 2) (yf 1))) (yeE) (yP)))
def yv:Fn:=ybX 2 (yn (ybI (yk 10 "taken" ybL (yf 0) (yj)) (yr 1)) (yn (yca (yuw (yo (yU yny (yb (yf 1) (yj))))) (yeE) (yP)) (yS (yf 1))))
def ybQ:Fn:=ybX 2 (yn (ybI (yk 10 "taken" ybL (yf 0) (yj)) (yr 1)) (yn (yca (yuw (yo (yU ynz (yb (yf 1) (yj))))) (yeE) (yP)) (yS (yf 1))))
def ycf:Fn:=ybX 3 (yn (ybI (yk 10 "taken" ybL (yf 0) (yj)) (yr 1)) (yn (ybI (yU yiI (yb (yf 1) (yj))) (yr 2)) (yn (yca (yo (xOp (yLG) (yf 2) (xC .non))) (yeE) (yP)) (yS (yf 2)))))
def ycg:Fn:=ybX 5 (yn (ybI (yk 10 "slot_taken" yv (yf 0) (yj)) (yr 2)) (yn (ybI (yk 10 "slot_taken" yv (yf 0) (yj)) (yr 3)) (yn (ybI (yk 10 "slot_taken" yv (yf 0) (yj)) (yr 4)) (yS (xFz (ylU yeO (yb (yf 1) (yb (yf 2) (yb (yf 3) (yb (yf 4) (yj)))))))))))
def ycp:Fn:=ybX 5 (yn (yca (yo (xOp (oEq) (yf 1) (xC (.str "let")))) (yn (ybI (yk 10 "slot_taken" yv (yf 0) (yj)) (yr 2)) (yS (xFz (ylU yho (yb (yf 2) (yb (yk 10 "number_taken" ycf (yf 0) (yj)) (yj))))))) (yP)) (yn (yca (yo (xOp (oEq) (yf 1) (xC (.str "take")))) (yn (ybI (yk 10 "slot_taken" yv (yf 0) (yj)) (yr 2)) (yS (xFz (ylU ygj (yb (yf 2) (yb (yk 10 "slot_taken" yv (yf 0) (yj)) (yj))))))) (yP)) (yn (yca (yo (xOp (oEq) (yf 1) (xC (.str "put")))) (yn (ybI (yk 10 "slot_taken" yv (yf 0) (yj)) (yr 3)) (yS (xFz (ylU yhp (yb (yf 3) (yb (yk 10 "slot_taken" yv (yf 0) (yj)) (yj))))))) (yP)) (yn (yca (yo (xOp (oEq) (yf 1) (xC (.str "throw")))) (yn (ybI (yk 10 "name_taken" ybQ (yf 0) (yj)) (yr 4)) (yS (xFz (ylU yfA (yb (yf 4) (yb (yk 10 "slot_taken" yv (yf 0) (yj)) (yj))))))) (yP)) (yn (yca (yo (xOp (oEq) (yf 1) (xC (.str "wait")))) (yS (xFz (yzY 9))) (yP)) (yn (yca (yo (yU yqR (yb (yf 1) (yj)))) (yS (yk 10 "reckon_taken" ycg (yf 0) (yb (yf 1) (yj)))) (yP)) (yeE)))))))
mutual
noncomputable def ybR:Nat->Fn
 | 0=>fun _ _=>none
 | n+1=>ybX 3 (yn (yca (xOr (yo (xOp (yLG) (yk 10 "ahead" ybb (yf 0) (yj)) (xC .non))) (yo (xOp (oEq) (yk 10 "ahead" ybb (yf 0) (yj)) (xC (.str ")"))))) (yS (xFz (yeG (yj)))) (yP)) (yn (yBg (yeG (yb (yk 10 "part_taken" (yG n) (yf 0) (yb (yf 1) (yj))) (yj))) 2) (yn (ylo 100 (yo (xOp (oEq) (yk 10 "ahead" ybb (yf 0) (yj)) (xC (.str ";")))) (yn (ybv (yk 10 "pass_over" yI (yf 0) (yb (xC (.str ";")) (yj)))) (ysX 2 (yk 10 "part_taken" (yG n) (yf 0) (yb (yf 1) (yj)))))) (yCQ 2 (yS (yf 2))))))
noncomputable def yK:Nat->Fn
 | 0=>fun _ _=>none
 | n+1=>ybX 3 (yn (ybv (yk 10 "pass_over" yI (yf 0) (yb (xC (.str "(")) (yj)))) (yn (ybI (yk 10 "list_taken" (ybR n) (yf 0) (yb (yf 1) (yj))) (yr 2)) (yn (ybv (yk 10 "pass_over" yI (yf 0) (yb (xC (.str ")")) (yj)))) (yS (yf 2)))))
noncomputable def yG:Nat->Fn
 | 0=>fun _ _=>none
 | n+1=>ybX 3 (yn (yca (yo (xOp (oGt) (yf 1) (xC (.int 8)))) (yeE) (yP)) (yn (ybI (yk 10 "taken" ybL (yf 0) (yj)) (yr 2)) (yn (yca (yo (xOp (oEq) (yf 2) (xC (.str "if")))) (yS (yk 10 "if_taken" (ydr n) (yf 0) (yb (xOp yno (yf 1) (xC (.int 1))) (yj)))) (yP)) (yn (yca (yo (xOp (oEq) (yf 2) (xC (.str "either")))) (yS (yk 10 "either_taken" (ych n) (yf 0) (yb (xOp yno (yf 1) (xC (.int 1))) (yj)))) (yP)) (yn (yca (yo (xOp (oEq) (yf 2) (xC (.str "try")))) (yS (yk 10 "try_taken" (ycP n) (yf 0) (yb (xOp yno (yf 1) (xC (.int 1))) (yj)))) (yP)) (yS (yk 10 "plain_taken" ycp (yf 0) (yb (yf 2) (yj)))))))))
noncomputable def ydr:Nat->Fn
 | 0=>fun _ _=>none
 | n+1=>ybX 5 (yn (ybI (yk 10 "slot_taken" yv (yf 0) (yj)) (yr 2)) (yn (ybI (yk 10 "side_taken" (yK n) (yf 0) (yb (yf 1) (yj))) (yr 3)) (yn (ybv (yk 10 "pass_over" yI (yf 0) (yb (xC (.str "else")) (yj)))) (yn (ybI (yk 10 "side_taken" (yK n) (yf 0) (yb (yf 1) (yj))) (yr 4)) (yS (xFz (ylU yiJ (yb (yf 2) (yb (yf 3) (yb (yf 4) (yj)))))))))))
noncomputable def ych:Nat->Fn
 | 0=>fun _ _=>none
 | n+1=>ybX 4 (yn (ybI (yk 10 "side_taken" (yK n) (yf 0) (yb (yf 1) (yj))) (yr 2)) (yn (ybv (yk 10 "pass_over" yI (yf 0) (yb (xC (.str "or")) (yj)))) (yn (ybI (yk 10 "side_taken" (yK n) (yf 0) (yb (yf 1) (yj))) (yr 3)) (yS (xFz (ylU yeP (yb (yf 2) (yb (yf 3) (yj)))))))))
noncomputable def ycP:Nat->Fn
 | 0=>fun _ _=>none
 | n+1=>ybX 6 (yn (ybI (yk 10 "side_taken" (yK n) (yf 0) (yb (yf 1) (yj))) (yr 2)) (yn (ybv (yk 10 "pass_over" yI (yf 0) (yb (xC (.str "on")) (yj)))) (yn (ybI (yk 10 "name_taken" ybQ (yf 0) (yj)) (yr 3)) (yn (ybI (yk 10 "slot_taken" yv (yf 0) (yj)) (yr 4)) (yn (ybI (yk 10 "side_taken" (yK n) (yf 0) (yb (yf 1) (yj))) (yr 5)) (yS (xFz (ylU yhq (yb (yf 2) (yb (yf 3) (yb (yf 4) (yb (yf 5) (yj)))))))))))))
end
def yqY:Fn:=ybX 3 (yn (ybI (yor (ylU yeQ (yb (yU ylc (yb (yf 0) (yj))) (yj)))) (yr 1)) (yn (ybI (yk 10 "list_taken" (ybR 45) (yf 1) (yb (xC (.int 0)) (yj))) (yr 2)) (yn (yca (yo (xOp (yGh) (yk 10 "ahead" ybb (yf 1) (yj)) (xC .non))) (yeE) (yP)) (yn (yca (yo (xOp (oGt) (xOp yno (yU (ybP 45) (yb (yf 2) (yj))) (xC (.int 1))) (xC (.int 80)))) (yeE) (yP)) (yS (yf 2))))))
def yfZ:Fn:=ybX 1 (yn (yca (yuw (yo (yln (oLe) (oLe) (xC (.int 1)) (xCB (yej) (yb (yf 0) (yj))) (xC (.int 16))))) (yeE) (yP)) (yca (yuw (yo (xCB (yIw) (yb (xFz (ylk (xIL (yf 0)) [] (yU yeL (yb (yf 0) (yj))))) (yj))))) (yeE) (yP)))
def ycr:Fn:=ybX 1 (yS (xFz (ylk (xIL (yf 0)) [] (yU yik (yb (yU yqY (yb (yf 0) (yj))) (yj))))))
def ycX:Fn:=ybX 1 (yn (yca (yuw (yo (yln (oLe) (oLe) (xC (.int 1)) (xCB (yej) (yb (yf 0) (yj))) (xC (.int 8))))) (yeE) (yP)) (yn (yca (yo (xCB (yNv) (yb (xFz (ylk (xIL (yf 0)) [] (xOp (oGt) (xCB (yej) (yb (yf 0) (yj))) (xC (.int 6))))) (yj)))) (yeE) (yP)) (yS (xFz (ylk (xIL (yf 0)) [] (yU ycr (yb (yf 0) (yj))))))))
def ycY:Fn:=ybX 3 (yn (ybv (yU yfZ (yb (yf 1) (yj)))) (yn (yfV [15] "numbers" (yf 0) (yor (ynk (yT) (yb (yf 1) (yj))))) (yn (yfV [15] "marks" (yf 0) (yor (ytz yGj (xFz (yeG (yb (xC (.int 0)) (yj)))) (xCB (yej) (yb (yf 1) (yj)))))) (yn (yfV [15] "crew" (yf 0) (yor (ylk (xIL (yU ycX (yb (yf 2) (yj)))) [1] (ypk 14 ycq (yb (yf 0) (yb (xCB (yej) (yb (yf 1) (yj))) (yj))))))) (yfV [15] "entries" (yf 0) (yor (yeG (yj))))))))
def yci:Fn:=ybX 1 (yS (xFz (ynk (yT) (yb (ybk [15] "numbers" (yf 0)) (yj)))))
def ycz:Fn:=ybX 1 (yS (xFz (ynk (yT) (yb (ybk [15] "marks" (yf 0)) (yj)))))
def yck:Fn:=ybX 2 (yn (yca (xOr (yuw (yo (yU yii (yb (yf 1) (yj))))) (yuw (yo (yln (oLe) (oLt) (xC (.int 0)) (yf 1) (xCB (yej) (yb (ybk [15] "crew" (yf 0)) (yj))))))) (yeE) (yP)) (yS (xOp (ybC) (ybk [15] "crew" (yf 0)) (yf 1))))
def yfl:Fn:=ybX 2 (yS (yk 14 "state" yed (yk 15 "hand_at" yck (yf 0) (yb (yf 1) (yj))) (yj)))
def yfm:Fn:=ybX 2 (yS (ybk [14] "nth" (yk 15 "hand_at" yck (yf 0) (yb (yf 1) (yj)))))
def ycZ:Fn:=ybX 2 (yS (xFz (ynk (yT) (yb (ybk [12] "held" (ybk [14] "run" (yk 15 "hand_at" yck (yf 0) (yb (yf 1) (yj))))) (yj)))))
def ycl:Fn:=ybX 1 (yS (xFz (ywB (ybk [15] "entries" (yf 0)) [] (yfj (yb (xOp (ybl) (yf 0) (xC (.int 0))) (yb (xOp (ybl) (yf 0) (xC (.int 1))) (yb (xOp (ybl) (yf 0) (xC (.int 2))) (yb (xFz (ynk (yT) (yb (xOp (ybl) (yf 0) (xC (.int 3))) (yj)))) (yb (xFz (ynk (yT) (yb (xOp (ybl) (yf 0) (xC (.int 4))) (yj)))) (yb (xFz (ynk (yT) (yb (xOp (ybl) (yf 0) (xC (.int 5))) (yj)))) (yj)))))))))))
def yds:Fn:=ybX 2 (yDt false (ybk [15] "crew" (yf 0)) (yr 1) (yca (yJD (yo (xOp (oEq) (yk 14 "state" yed (yf 1) (yj)) (xC (.str "asleep")))) (yo (yk 12 "is_stale" ydC (ybk [14] "run" (yf 1)) (yb (ybk [15] "marks" (yf 0)) (yj))))) (yeE) (yP)))
def yda:Fn:=ybX 6 (yn (ybI (xOp (ybC) (ybk [15] "crew" (yf 0)) (yf 1)) (yr 5)) (yn (ybv (xBM yjw (yqJ) (ybk [15] "entries" (yf 0)) (yb (yfj (yb (yf 1) (yb (ybk [14] "nth" (yf 5)) (yb (yf 2) (yb (yk 11 "saw" ynx (ybk [12] "log" (ybk [14] "run" (yf 5))) (yj)) (yb (yf 3) (yb (xFz (ynk (yT) (yb (yf 4) (yj)))) (yj)))))))) (yj)))) (ybv (yk 14 "go_on" ygZ (yf 5) (yb (yf 4) (yj))))))
def yen:Fn:=ybX 6 (yn (ybI (ybk [14] "run" (xOp (ybC) (ybk [15] "crew" (yf 0)) (yf 1))) (yr 2)) (yn (ybI (yk 11 "wrote" ygi (ybk [12] "log" (yf 2)) (yj)) (yr 3)) (yn (yzQ (xIL (yf 3)) (yr 4) (yn (ybI (xOp (ybl) (yf 4) (xC (.int 0))) (yr 5)) (yn (yjD (ybk [15] "numbers" (yf 0)) (yf 5) (xOp (ybl) (yf 4) (xC (.int 1)))) (yjD (ybk [15] "marks" (yf 0)) (yf 5) (xOp yno (xOp (ybC) (ybk [15] "marks" (yf 0)) (yf 5)) (xC (.int 1))))))) (yn (ybv (yk 15 "end_deed" yda (yf 0) (yb (yf 1) (yb (yfj (yb (xC (.str "done")) (yj))) (yb (yf 3) (yb (ybk [12] "held" (yf 2)) (yj))))))) (ybv (yk 15 "wake_stale" yds (yf 0) (yj)))))))
def ybp:Fn:=ybX 6 (yn (ybI (xOp (ybC) (ybk [15] "crew" (yf 0)) (yf 1)) (yr 3)) (yn (ybI (yk 12 "row" yij (ybk [14] "run" (yf 3)) (yj)) (yr 4)) (yn (yca (yo (xOp (oEq) (xOp (ybl) (yf 4) (xC (.int 0))) (xC (.str "take")))) (yn (yeE) (yeE)) (yP)) (yn (yca (yo (xOp (oEq) (xOp (ybl) (yf 4) (xC (.int 0))) (xC (.str "wait")))) (yn (yeE) (yeE)) (yP)) (yn (yca (yo (xOp (oEq) (xOp (ybl) (yf 4) (xC (.int 0))) (xC (.str "throw")))) (yn (ybv (yk 15 "end_deed" yda (yf 0) (yb (yf 1) (yb (yfj (yb (xC (.str "fell")) (yb (xOp (ybl) (yf 4) (xC (.int 1))) (yb (yk 12 "held_in" ybK (ybk [14] "run" (yf 3)) (yb (xOp (ybl) (yf 4) (xC (.int 2))) (yj))) (yj))))) (yb (xFz (yeG (yj))) (yb (ybk [14] "before" (yf 3)) (yj))))))) (yS (yfj (yb (xC (.str "fell")) (yb (yf 2) (yj)))))) (yP)) (yn (ybv (yk 15 "lay_down" yen (yf 0) (yb (yf 1) (yj)))) (yS (yfj (yb (xC (.str "done")) (yb (yf 2) (yj)))))))))))
def ybS:Fn:=ybX 4 (yn (ybI (yk 15 "hand_at" yck (yf 0) (yb (yf 1) (yj))) (yr 2)) (yn (yca (yo (xOp (oNe) (yk 14 "state" yed (yf 2) (yj)) (xC (.str "awake")))) (yeE) (yP)) (yn (ybI (ybk [10,12] "at" (ybk [14] "run" (yf 2))) (yr 3)) (yn (yca (yuw (yo (yk 12 "is_looked_over" ybH (ybk [14] "run" (yf 2)) (yj)))) (yn (ybv (yk 12 "go" yem (ybk [14] "run" (yf 2)) (yj))) (yS (yfj (yb (xC (.str "gone")) (yb (yf 3) (yj)))))) (yP)) (yn (yca (yo (yk 12 "is_stale" ydC (ybk [14] "run" (yf 2)) (yb (ybk [15] "marks" (yf 0)) (yj)))) (yn (yeE) (yeE)) (yP)) (yS (yk 15 "looked_over_told" ybp (yf 0) (yb (yf 1) (yb (yf 3) (yj))))))))))
def ybc:Fn:=ybX 2 (yn (yca (yo (xOp (oLt) (yf 1) (xCB (yej) (yb (yf 0) (yj))))) (yS (xOp (ybC) (yf 0) (yf 1))) (yP)) (yS (xC (.int 0))))
def ybE:Fn:=ybX 2 (yn (ybI (xOp oDiv (yf 0) (xC (.int 3))) (yr 1)) (yn (yca (yo (xOp (oEq) (xOp oMod (yf 0) (xC (.int 3))) (xC (.int 1)))) (yS (xOp oMod (yf 1) (xC (.int 5)))) (yP)) (yn (yca (yo (xOp (oEq) (xOp oMod (yf 0) (xC (.int 3))) (xC (.int 2)))) (yS (xOp yGf (xOp yGf (xOp yPi (xC (.int 2)) (xC (.int 64))) (xC (.int 1))) (xOp oMod (yf 1) (xC (.int 5))))) (yP)) (yS (xOp oMod (yf 1) (xOp yPi (xC (.int 2)) (xC (.int 64))))))))
def yeR:Fn:=ybX 2 (yn (ybI (xFz (yeG (yb (yfj (yb (xC (.str "throw low b")) (yb (xC (.str "low")) (yb (xC (.int 1)) (yj))))) (yb (yfj (yb (xC (.str "either ( throw low b ) or ( )")) (yb (xC (.str "low")) (yb (xC (.int 1)) (yj))))) (yj))))) (yr 1)) (yn (ybI (xFz (ytz yzT (yf 1) (xFz (yeG (yb (yfj (yb (xC (.str "try ( let b 8 ; throw low a ) on high c ( )")) (yb (xC (.str "low")) (yb (xC (.int 0)) (yj))))) (yj)))))) (yr 1)) (yn (ybI (xFz (ytz yzT (yf 1) (xFz (yeG (yb (yfj (yb (xC (.str "try ( throw high a ) on high c ( throw low c )")) (yb (xC (.str "low")) (yb (xC (.int 0)) (yj))))) (yj)))))) (yr 1)) (yn (ybI (xFz (ytz yzT (yf 1) (xFz (yeG (yb (yfj (yb (xC (.str "try ( either ( wait ) or ( throw low b ) ) on lowly c ( )")) (yb (xC (.str "low")) (yb (xC (.int 1)) (yj))))) (yj)))))) (yr 1)) (yn (ybI (xFz (ytz yzT (yf 1) (xFz (yeG (yb (yfj (yb (xC (.str "try ( put a a ; throw lowly b ) on low c ( )")) (yb (xC (.str "lowly")) (yb (xC (.int 1)) (yj))))) (yj)))))) (yr 1)) (yn (ybI (xFz (ytz yzT (yf 1) (xFz (yeG (yb (yfj (yb (xC (.str "try ( try ( throw low a ) on low b ( throw high b ) ) on low c ( )")) (yb (xC (.str "high")) (yb (xC (.int 0)) (yj))))) (yj)))))) (yr 1)) (yS (xOp (ybC) (yf 1) (yf 0)))))))))
def ycm:Fn:=ybX 4 (yn (ybI (xOp (ybC) (yf 1) (xC (.int 0))) (yr 2)) (yn (ybI (xOp (ybC) (yf 1) (xC (.int 1))) (yr 3)) (yn (yca (yo (xOp (oEq) (yf 0) (xC (.int 7)))) (yS (yfj (yb (xC (.str "try ( throw low b ) on low c ( )")) (yb (xFz (yeG (yb (yfj (yb (xC (.int 2)) (yb (yf 3) (yj)))) (yj)))) (yj))))) (yP)) (yn (yca (yo (xOp (oEq) (yf 0) (xC (.int 8)))) (yS (yfj (yb (xC (.str "try ( try ( let b 3 ; let g 4 ; throw low b ) on high c ( ) ) on low d ( )")) (yb (xFz (yeG (yb (yfj (yb (xC (.int 3)) (yb (xC (.int 3)) (yj)))) (yj)))) (yj))))) (yP)) (yn (yca (yo (xOp (oEq) (yf 0) (xC (.int 9)))) (yS (yfj (yb (xC (.str "try ( either ( let e 4 ; put a e ; throw low e ) or ( ) ) on low f ( )")) (yb (xFz (yeG (yb (yfj (yb (xC (.int 5)) (yb (xC (.int 4)) (yj)))) (yj)))) (yj))))) (yP)) (yn (yca (yo (xOp (oEq) (yf 0) (xC (.int 10)))) (yS (yfj (yb (xC (.str "try ( let h 6 ; throw high a ) on high h ( let g 2 )")) (yb (xFz (yeG (yb (yfj (yb (xC (.int 7)) (yb (yf 2) (yj)))) (yb (yfj (yb (xC (.int 6)) (yb (xC (.int 2)) (yj)))) (yj))))) (yj))))) (yP)) (yS (yfj (yb (xC (.str "try ( let e 7 ) on low h ( let f 1 )")) (yb (xFz (yeG (yb (yfj (yb (xC (.int 4)) (yb (xC (.int 7)) (yj)))) (yj)))) (yj)))))))))))
def ygk:Fn:=ybX 5 (yn (yzQ (yFe (yb (xC (.int 80)) (yj))) (yr 3) (yn (ybI (yk 15 "turn" ybS (yf 0) (yb (xC (.int 0)) (yj))) (yr 4)) (yn (yca (yo (xOp (oNe) (xOp (ybl) (yf 4) (xC (.int 0))) (xC (.str "gone")))) (yS (xOp (ybl) (yf 4) (xC (.int 0)))) (yP)) (yca (xOr (yo (xOp (yAi) (yk 15 "boxes" yci (yf 0) (yj)) (yf 1))) (yo (xOp (yAi) (yk 15 "stamps" ycz (yf 0) (yj)) (yf 2)))) (yS (xC (.str "wrong"))) (yP))))) (yS (xC (.str "wrong"))))
def ygl:Fn:=ybX 7 (yn (yca (xOr (yo (xOp (oNe) (yU ygk (yb (yf 0) (yb (xOp (ybC) (yf 5) (xC (.int 0))) (yb (xOp (ybC) (yf 5) (xC (.int 1))) (yj))))) (xC (.str "fell")))) (yo (xOp (oNe) (xCB (yej) (yb (yk 15 "journal" ycl (yf 0) (yj)) (yj))) (xOp yno (yf 1) (xC (.int 1)))))) (yS (xC (.bl false))) (yP)) (yn (ybI (yfj (yb (xC (.str "fell")) (yb (xOp (ybl) (yf 2) (xC (.int 1))) (yb (xOp (ybC) (yf 4) (xOp (ybl) (yf 2) (xC (.int 2)))) (yj))))) (yr 6)) (yS (xOp (yBX) (xOp (ybC) (yk 15 "journal" ycl (yf 0) (yj)) (yf 1)) (yfj (yb (xC (.int 0)) (yb (yf 1) (yb (yf 6) (yb (xFz (yeG (yj))) (yb (xFz (yeG (yj))) (yb (yf 3) (yj))))))))))))
def ygm:Fn:=ybX 8 (yn (yca (xOr (yo (xOp (oNe) (yU ygk (yb (yf 0) (yb (xOp (ybC) (yf 5) (xC (.int 0))) (yb (xOp (ybC) (yf 5) (xC (.int 1))) (yj))))) (xC (.str "done")))) (yo (xOp (oNe) (xCB (yej) (yb (yk 15 "journal" ycl (yf 0) (yj)) (yj))) (xOp yno (yf 1) (xC (.int 1)))))) (yS (xC (.bl false))) (yP)) (yn (yjD (xOp (ybC) (yf 5) (xC (.int 0))) (xOp (ybl) (yf 4) (xC (.int 0))) (xOp (ybl) (yf 4) (xC (.int 1)))) (yn (yjD (xOp (ybC) (yf 5) (xC (.int 1))) (xOp (ybl) (yf 4) (xC (.int 0))) (xOp yno (xOp (ybC) (xOp (ybC) (yf 5) (xC (.int 1))) (xOp (ybl) (yf 4) (xC (.int 0)))) (xC (.int 1)))) (yn (yzQ (xIL (xOp (ybl) (yf 2) (xC (.int 1)))) (yMH 2 (yBf (yr 6) (yBf (yr 7) (yOA)))) (yjD (yf 3) (yf 6) (yf 7))) (yS (xOp (yBX) (xOp (ybC) (yk 15 "journal" ycl (yf 0) (yj)) (yf 1)) (yfj (yb (xC (.int 0)) (yb (yf 1) (yb (yfj (yb (xC (.str "done")) (yj))) (yb (xFz (yeG (yj))) (yb (xFz (yeG (yb (yf 4) (yj)))) (yb (yf 3) (yj))))))))))))))
def yGZ:Fn:=ybX 17 (yn (ybI (xOp yno (xC (.int 1)) (xOp oMod (yU ybc (yb (yf 0) (yb (xC (.int 0)) (yj)))) (xC (.int 16)))) (yr 1)) (yn (ybI (xFz (ylk (yFe (yb (yf 1) (yj))) [0] (yU ybE (yb (xOp yno (yU ybc (yb (yf 1) (yb (xC (.int 1)) (yj)))) (xOp yMJ (xOp yMJ (xC (.int 31)) (yf 0)) (yf 0))) (yj))))) (yr 2)) (yn (ybI (xFz (ynk (yT) (yb (xFz (yLD yIu (yf 0) (yyw (xC (.int 3))) (yyw (xC (.int 9))))) (yj)))) (yr 3)) (yn (yca (yo (xOp (oEq) (xCB (yej) (yb (yf 3) (yj))) (xC (.int 0)))) (ybI (xFz (yeG (yb (xC (.int 3)) (yb (xC (.int 10)) (yj))))) (yr 3)) (yP)) (yn (yBg (yeG (yj)) 4) (yn (yzQ (xIL (yf 3)) (yr 5) (yn (ybI (xOp oMod (xOp oDiv (yf 5) (xC (.int 12))) (yf 1)) (yr 6)) (yn (ybI (yU ybE (yb (xOp yno (yf 5) (yU ybc (yb (yf 0) (yb (xC (.int 2)) (yj))))) (yj))) (yr 7)) (yn (ybI (xOp oMod (yf 5) (xC (.int 12))) (yr 8)) (yn (yca (yo (xOp (oLt) (yf 8) (xC (.int 7)))) (ybI (xOp (ybl) (yU yeR (yb (yf 8) (yj))) (xC (.int 0))) (yr 9)) (ybI (xOp (ybl) (yU ycm (yb (yf 8) (yb (xFz (yeG (yb (yf 6) (yb (yf 7) (yj))))) (yj)))) (xC (.int 0))) (yr 9))) (yn (ybI (xOp yie (xOp yie (xOp yie (xOp yie (xC (.str "let a ")) (xCB (ywq) (yb (yf 6) (yj)))) (xC (.str " ; let b "))) (xCB (ywq) (yb (yf 7) (yj)))) (xC (.str " ; put a b ; "))) (yr 10)) (ysX 4 (yfj (yb (xOp yie (yf 10) (yf 9)) (yb (yf 8) (yb (yf 6) (yb (yf 7) (yj))))))))))))) (yCQ 4 (yn (ybI (ypk 15 ycY (yb (xFz (ynk (yT) (yb (yf 2) (yj)))) (yb (xFz (yeG (yb (xFz (ylk (xIL (yf 4)) [] (xOp (ybl) (yf 0) (xC (.int 0))))) (yj)))) (yj)))) (yr 11)) (yn (ybI (yor (yeG (yb (yor (ynk (yT) (yb (yf 2) (yj)))) (yb (yor (ytz yGj (xFz (yeG (yb (xC (.int 0)) (yj)))) (yf 1))) (yj))))) (yr 12)) (yn (ybI (yor (ytz yGj (xFz (yeG (yb (xC (.int 0)) (yj)))) (xC (.int 8)))) (yr 13)) (yCQ 4 (yn (yzQ (yFe (yb (xCB (yej) (yb (yf 4) (yj))) (yj))) (yr 14) (yCQ 4 (yn (ybI (xOp (ybC) (yf 4) (yf 14)) (yr 15)) (yn (yca (xOr (yo (xOp (yAi) (yk 15 "slots" ycZ (yf 11) (yb (xC (.int 0)) (yj))) (yf 13))) (xOr (yo (xOp (oNe) (yk 15 "which" yfm (yf 11) (yb (xC (.int 0)) (yj))) (yf 14))) (xOr (yo (xOp (yAi) (yk 15 "boxes" yci (yf 11) (yj)) (xOp (ybC) (yf 12) (xC (.int 0))))) (yo (xOp (yAi) (yk 15 "stamps" ycz (yf 11) (yj)) (xOp (ybC) (yf 12) (xC (.int 1)))))))) (yS (xC (.bl false))) (yP)) (yca (yo (xOp (oLt) (xOp (ybl) (yf 15) (xC (.int 1))) (xC (.int 7)))) (yca (yuw (yo (yU ygl (yb (yf 11) (yb (yf 14) (yb (yU yeR (yb (xOp (ybl) (yf 15) (xC (.int 1))) (yj))) (yb (yf 13) (yb (xFz (yeG (yb (xOp (ybl) (yf 15) (xC (.int 2))) (yb (xOp (ybl) (yf 15) (xC (.int 3))) (yj))))) (yb (yf 12) (yj)))))))))) (yS (xC (.bl false))) (yP)) (yn (ybI (yor (ytz yzT (xFz (yeG (yb (xOp (ybl) (yf 15) (xC (.int 2))) (yb (xOp (ybl) (yf 15) (xC (.int 3))) (yj))))) (xFz (yLD yIu (yf 13) (yyw (xC (.int 2))) (yqF))))) (yr 13)) (yn (ybI (yU ycm (yb (xOp (ybl) (yf 15) (xC (.int 1))) (yb (yf 13) (yj)))) (yr 16)) (yca (yuw (yo (yU ygm (yb (yf 11) (yb (yf 14) (yb (yf 16) (yb (yf 13) (yb (yfj (yb (xOp (ybl) (yf 15) (xC (.int 2))) (yb (xOp (ybl) (yf 15) (xC (.int 3))) (yj)))) (yb (yf 12) (yj)))))))))) (yS (xC (.bl false))) (yP))))))))) (yS (ypY (xOp (oEq) (yk 15 "state" yfl (yf 11) (yb (xC (.int 0)) (yj))) (xC (.str "ended"))) (ypY (xOp (yBX) (yk 15 "slots" ycZ (yf 11) (yb (xC (.int 0)) (yj))) (yf 13)) (xOp (yBX) (yk 15 "boxes" yci (yf 11) (yj)) (xOp (ybC) (yf 12) (xC (.int 0)))))))))))))))))))
abbrev B64:Int:=18446744073709551616
inductive T where
 | base
 | let_ (r:Str) (n:Int)
 | reckon (w r s t:Str)
 | take (r s:Str)
 | put (s t:Str)
 | if_ (r:Str) (a b:List T)
 | either (a b:List T)
 | try_ (a:List T) (nm r:Str) (b:List T)
 | throw (nm r:Str)
 | wait
noncomputable def kd:T->Nat
 | .base=>0|.let_ ..=>1|.reckon ..=>2|.take ..=>3|.put ..=>4|.if_ ..=>5|.either ..=>6|.try_ ..=>7|.throw ..=>8|.wait=>9
def yeF (inner:Str):Str:=if inner = "" then "( )" else Str.join " " ["(",inner,")"]
mutual
noncomputable def yfG:T->Str
 | .base=>""
 | .let_ r n=>Str.join " " ["let",r,(toString n:String)]
 | .reckon w r s t=>Str.join " " [w,r,s,t]
 | .take r s=>Str.join " " ["take",r,s]
 | .put s t=>Str.join " " ["put",s,t]
 | .if_ r a b=>Str.join " " ["if",r,yeF (Str.join " ; " (ybd a)),"else",yeF (Str.join " ; " (ybd b))]
 | .either a b=>Str.join " " ["either",yeF (Str.join " ; " (ybd a)),"or",yeF (Str.join " ; " (ybd b))]
 | .try_ a nm r b=>Str.join " " ["try",yeF (Str.join " ; " (ybd a)),"on",nm,r,yeF (Str.join " ; " (ybd b))]
 | .throw nm r=>Str.join " " ["throw",nm,r]
 | .wait=>"wait"
noncomputable def ybd:List T->List Str
 | []=>[]
 | t::r=>yfG t::ybd r
end
mutual
noncomputable def yqc:T->Int
 | .base=>0
 | .if_ _ a b=>2+(ycE a).sum+(ycE b).sum
 | .either a b=>3+(ycE a).sum+(ycE b).sum
 | .try_ a _ _ b=>3+(ycE a).sum+(ycE b).sum
 | _=>1
noncomputable def ycE:List T->List Int
 | []=>[]
 | t::r=>yqc t::ycE r
end
mutual
noncomputable def yBp:T->Nat
 | .if_ _ a b=>1+max (ygb a) (ygb b)
 | .either a b=>1+max (ygb a) (ygb b)
 | .try_ a _ _ b=>1+max (ygb a) (ygb b)
 | _=>0
noncomputable def ygb:List T->Nat
 | []=>0
 | t::r=>max (yBp t) (ygb r)
end
mutual
noncomputable def wT:T->Nat
 | .base=>0
 | .let_ r n=>10+r.length+(Str.ofString (toString n)).length
 | .reckon w r s t=>10+w.length+r.length+s.length+t.length
 | .take r s=>10+r.length+s.length
 | .put s t=>10+s.length+t.length
 | .if_ r a b=>40+r.length+wL a+wL b
 | .either a b=>40+wL a+wL b
 | .try_ a nm r b=>40+nm.length+r.length+wL a+wL b
 | .throw nm r=>10+nm.length+r.length
 | .wait=>10
noncomputable def wL:List T->Nat
 | []=>0
 | t::r=>5+wT t+wL r
end
theorem yqZ (a b:Str):(a++b).length=a.length+b.length:=by
 show (a.cps++b.cps).size=_
 simp [Str.length]
theorem yeo (sep:Str):∀ l:List Str,(Str.join sep l).length<=(l.map (·.length)).sum+sep.length*l.length
 | []=>zero_le _
 | [x]=>by simp [Str.join]
 | x::y::r=>by
  have ih:=yeo sep (y::r)
  show (x++sep++Str.join sep (y::r)).length<=_
  rw [yqZ,yqZ]
  simp only [map_cons,List.sum_cons,length_cons] at *
  have e:sep.length*(r.length+1+1)=sep.length*(r.length+1)+sep.length:=by rw [Nat.mul_succ]
  omega
theorem yle (x:Str):(yeF x).length<=x.length+10:=by
 unfold yeF
 split
 .exact Nat.le_trans (show ("( )":Str).length<=10 by rfl') (Nat.le_add_left _ _)
 .have:=yeo " " ["(",x,")"]
  have e1:(" ":Str).length=1:=by rfl'
  have e2:("(":Str).length=1:=by rfl'
  have e3:(")":Str).length=1:=by rfl'
  simp only [map_cons,map_nil,List.sum_cons,List.sum_nil,length_cons,length_nil,e1,e2,e3] at this
  omega
theorem l1:(" ":Str).length=1:=by rfl'
theorem l3:(" ; ":Str).length=3:=by rfl'
theorem lk (s:Str) (h:s.length<=6):s.length<=6:=h
theorem yQA:("let":Str).length=3:=by rfl'
theorem yNH:("take":Str).length=4:=by rfl'
theorem yQB:("put":Str).length=3:=by rfl'
theorem yQC:("if":Str).length=2:=by rfl'
theorem yNI:("else":Str).length=4:=by rfl'
theorem yHa:("either":Str).length=6:=by rfl'
theorem yQD:("or":Str).length=2:=by rfl'
theorem yQE:("try":Str).length=3:=by rfl'
theorem yQF:("on":Str).length=2:=by rfl'
theorem yKQ:("throw":Str).length=5:=by rfl'
theorem yNJ:("wait":Str).length=4:=by rfl'
theorem yIO:("":Str).length=0:=by rfl'
mutual
theorem yDK:∀ t:T,(yfG t).length<=wT t
 | .base=>by show ("":Str).length<=0;rw [yIO];omega
 | .let_ r n=>by
  have:=yeo " " ["let",r,(toString n:String)]
  simp only [map_cons,map_nil,List.sum_cons,List.sum_nil,length_cons,length_nil,l1,yQA] at this
  show (Str.join " " ["let",r,(toString n:String)]).length<=10+r.length+(Str.ofString (toString n)).length
  omega
 | .reckon w r s t=>by
  have:=yeo " " [w,r,s,t]
  simp only [map_cons,map_nil,List.sum_cons,List.sum_nil,length_cons,length_nil,l1] at this
  show (Str.join " " [w,r,s,t]).length<=10+w.length+r.length+s.length+t.length
  omega
 | .take r s=>by
  have:=yeo " " ["take",r,s]
  simp only [map_cons,map_nil,List.sum_cons,List.sum_nil,length_cons,length_nil,l1,yNH] at this
  show (Str.join " " ["take",r,s]).length<=10+r.length+s.length
  omega
 | .put s t=>by
  have:=yeo " " ["put",s,t]
  simp only [map_cons,map_nil,List.sum_cons,List.sum_nil,length_cons,length_nil,l1,yQB] at this
  show (Str.join " " ["put",s,t]).length<=10+s.length+t.length
  omega
 | .if_ r a b=>by
  have ha:=yeS a
  have hb:=yeS b
  have h1:=yle (Str.join " ; " (ybd a))
  have h2:=yle (Str.join " ; " (ybd b))
  have:=yeo " " ["if",r,yeF (Str.join " ; " (ybd a)),"else",yeF (Str.join " ; " (ybd b))]
  simp only [map_cons,map_nil,List.sum_cons,List.sum_nil,length_cons,length_nil,l1,yQC,yNI] at this
  show (Str.join " " ["if",r,yeF (Str.join " ; " (ybd a)),"else",yeF (Str.join " ; " (ybd b))]).length<=40+r.length+wL a+wL b
  omega
 | .either a b=>by
  have ha:=yeS a
  have hb:=yeS b
  have h1:=yle (Str.join " ; " (ybd a))
  have h2:=yle (Str.join " ; " (ybd b))
  have:=yeo " " ["either",yeF (Str.join " ; " (ybd a)),"or",yeF (Str.join " ; " (ybd b))]
  simp only [map_cons,map_nil,List.sum_cons,List.sum_nil,length_cons,length_nil,l1,yHa,yQD] at this
  show (Str.join " " ["either",yeF (Str.join " ; " (ybd a)),"or",yeF (Str.join " ; " (ybd b))]).length<=40+wL a+wL b
  omega
 | .try_ a nm r b=>by
  have ha:=yeS a
  have hb:=yeS b
  have h1:=yle (Str.join " ; " (ybd a))
  have h2:=yle (Str.join " ; " (ybd b))
  have:=yeo " " ["try",yeF (Str.join " ; " (ybd a)),"on",nm,r,yeF (Str.join " ; " (ybd b))]
  simp only [map_cons,map_nil,List.sum_cons,List.sum_nil,length_cons,length_nil,l1,yQE,yQF] at this
  show (Str.join " " ["try",yeF (Str.join " ; " (ybd a)),"on",nm,r,yeF (Str.join " ; " (ybd b))]).length<=40+nm.length+r.length+wL a+wL b
  omega
 | .throw nm r=>by
  have:=yeo " " ["throw",nm,r]
  simp only [map_cons,map_nil,List.sum_cons,List.sum_nil,length_cons,length_nil,l1,yKQ] at this
  show (Str.join " " ["throw",nm,r]).length<=10+nm.length+r.length
  omega
 | .wait=>by show ("wait":Str).length<=10;rw [yNJ];omega
theorem ytH:∀ ts:List T,((ybd ts).map (·.length)).sum+5*ts.length<=wL ts/\(ybd ts).length=ts.length
 | []=>⟨Nat.le_refl _,rfl⟩
 | t::r=>by
  have h1:=yDK t
  have h2:=ytH r
  refine ⟨?_,?_⟩
  .show ((yfG t).length::(ybd r).map (·.length)).sum+5*(t::r).length<=5+wT t+wL r
   simp only [List.sum_cons,length_cons]
   omega
  .show (yfG t::ybd r).length=_
   simp only [length_cons]
   omega
theorem yeS:∀ ts:List T,(Str.join " ; " (ybd ts)).length<=wL ts:=fun ts=>by
 have h:=ytH ts
 have j:=yeo " ; " (ybd ts)
 rw [l3,h.2] at j
 omega
end
theorem yDL:∀ {ts:List T}{t:T},t∈ts->yBp t<=ygb ts
 | u::r,t,h=>by
  show yBp t<=max (yBp u) (ygb r)
  rcases mem_cons.mp h with rfl|h
  .omega
  .have:=yDL h
   omega
theorem yNK:∀ {ts:List T}{t:T},t∈ts->wT t<=wL ts
 | u::r,t,h=>by
  show wT t<=5+wT u+wL r
  rcases mem_cons.mp h with rfl|h
  .omega
  .have:=yNK h
   omega
theorem w_count:∀ ts:List T,5*ts.length<=wL ts
 | []=>Nat.le_refl _
 | t::r=>by
  have:=w_count r
  show 5*(r.length+1)<=5+wT t+wL r
  omega
theorem ygn (a b c:Str):a++b++c=a++(b++c):=by
 show (⟨(a.cps++b.cps)++c.cps⟩:Str)=⟨a.cps++(b.cps++c.cps)⟩
 rw [Array.append_assoc]
theorem yDM:B64<10 ^ 20:=by decide
theorem j3 (a b c:Str):Str.join " " [a,b,c]=a++" "++b++" "++c:=by
 show a++" "++(b++" "++c)=_
 simp only [ygn]
def plain:T->Prop
 | .if_ ..=>False
 | .either ..=>False
 | .try_ ..=>False
 | _=>True
theorem yHb (sep x:Str) (r:List Str) (h:1<=x.length):1<=(Str.join sep (x::r)).length:=by
 cases r with
 | nil=>exact h
 | cons y r =>
  show 1<=(x++sep++Str.join sep (y::r)).length
  rw [yqZ,yqZ];omega
mutual
noncomputable def ydt:T->PV
 | .base=>.ins 0 [] []
 | .let_ r n=>.ins 1 ["slot","number"] [.str r,.int n]
 | .reckon w r s t=>.ins 2 ["word","slot","one","other"] [.str w,.str r,.str s,.str t]
 | .take r s=>.ins 3 ["slot","place"] [.str r,.str s]
 | .put s t=>.ins 4 ["place","slot"] [.str s,.str t]
 | .if_ r a b=>.ins 5 ["slot","parts","others"] [.str r,.lst (ycF a),.lst (ycF b)]
 | .either a b=>.ins 6 ["parts","others"] [.lst (ycF a),.lst (ycF b)]
 | .try_ a nm r b=>.ins 7 ["parts","name","slot","others"] [.lst (ycF a),.str nm,.str r,.lst (ycF b)]
 | .throw nm r=>.ins 8 ["name","slot"] [.str nm,.str r]
 | .wait=>.ins 9 [] []
noncomputable def ycF:List T->List PV
 | []=>[]
 | t::r=>ydt t::ycF r
end
theorem ytI:∀ ts:List T,ycF ts=ts.map ydt
 | []=>rfl
 | t::r=>by show ydt t::ycF r=_;rw [ytI r];rfl
section
variable {h:AH}
theorem j1:(" ":Str).length<=16:=by rfl'
theorem yDN {i:Nat}{ρ:PSt}{xs:List PV}(e:yf i ρ h=some (.lst xs,h)):xIL (yf i) ρ h=some (xs,h):=ySd e
theorem yBq (t:T):∃ ns xs,ydt t=.ins (kd t) ns xs/\("shown":Str)∉ns/\("long":Str)∉ns:=by
 cases t
 all_goals exact ⟨_,_,rfl,by rfl',by rfl'⟩
theorem yDO {m:Str}{f:Nat->Fn}(t:T) (hm:m = "shown"\/m = "long"):yox m f (ydt t) h=f (kd t) [ydt t] h:=by
 obtain ⟨ns,xs,e,h1,h2⟩:=yBq t
 rw [e]
 rcases hm with rfl|rfl
 .exact yek h1
 .exact yek h2
def ywJ (n:Nat):Prop:=∀ (h:AH) (t:T),3*yBp t+1<=n->wT t<=100000->ynB n (kd t) [ydt t] h=some (.int (yqc t),h)
theorem ydb {n:Nat}(G:ywJ n) {ts:List T}(hd:3*ygb ts+1<=n) (hw:wL ts<=100000):ybP (n+1) [.lst (ycF ts)] h=some (.int (ycE ts).sum,h):=by
 unfold ybP
 rw [yw]
 show ob (yS _ [.val (.lst (ycF ts))] h) fnK=_
 have wc:=w_count ts
 grind
 rw [yDN rfl,ycU,ytI]
 rw [if_pos (by rw [length_map];omega)]
 have e:yuB (ysZ "long" (ynB n) (yf 0)) (ypj [] [PVar.val (PV.lst (ts.map ydt))]) (ts.map ydt) h=some ((ycE ts).map PV.int,h):=by
  have:∀ us:List T,(∀ t∈us,t∈ts)->yuB (ysZ "long" (ynB n) (yf 0)) (ypj [] [PVar.val (PV.lst (ts.map ydt))]) (us.map ydt) h=some ((ycE us).map PV.int,h):=by
   intro us
   induction us with
   | nil=>intro _;rfl
   | cons t r ih =>
    intro hm
    have ht:=hm t mem_cons_self
    have e1:ysZ "long" (ynB n) (yf 0) (ypj [] [PVar.val (PV.lst (ts.map ydt))] (ydt t)) h=some (.int (yqc t),h):=by
     show ysZ "long" (ynB n) (yf 0) [.val (ydt t)] h=_
     rw [yIy,yIx,ycU,yDO t (.inr rfl)]
     have:=yDL ht
     have:=yNK ht
     exact G h t (by omega) (by omega)
    show ob (ysZ "long" (ynB n) (yf 0) (ypj [] [PVar.val (PV.lst (ts.map ydt))] (ydt t)) h) _=_
    rw [e1,ycU,ih fun u hu=>hm u (mem_cons_of_mem _ hu)]
    rfl
  exact this ts fun _ h=>h
 rw [e]
 grind
 show ob (yMV [.lst ((ycE ts).map PV.int)] h) _=_
 unfold yMV ycT
 simp only [ytA]
 rfl
theorem yKR {n:Nat}(G:ywJ n) {r:Str}{x y:List T}(hd:3*yBp (.if_ r x y)+1<=n+3) (hw:wT (.if_ r x y)<=100000):ynC (n+2) [ydt (.if_ r x y)] h=some (.int (yqc (.if_ r x y)),h):=by
 have hd:3*(1+max (ygb x) (ygb y))+1<=n+3:=hd
 have hw:40+r.length+wL x+wL y<=100000:=hw
 unfold ynC
 rw [yw]
 show ob (yS _ [.val (.ins 5 ["slot","parts","others"] [.str r,.lst (ycF x),.lst (ycF y)])] h) fnK=_
 grind
 rw [ydb G (ts:=x) (by omega) (by omega)]
 grind
 rw [ydb G (ts:=y) (by omega) (by omega)]
 grind
 rfl
theorem yyP {n:Nat}(G:ywJ n) {x y:List T}(hd:3*yBp (.either x y)+1<=n+3) (hw:wT (.either x y)<=100000):yfY (n+2) [ydt (.either x y)] h=some (.int (yqc (.either x y)),h):=by
 have hd:3*(1+max (ygb x) (ygb y))+1<=n+3:=hd
 have hw:40+wL x+wL y<=100000:=hw
 unfold yfY
 rw [yw]
 show ob (yS _ [.val (.ins 6 ["parts","others"] [.lst (ycF x),.lst (ycF y)])] h) fnK=_
 grind
 rw [ydb G (ts:=x) (by omega) (by omega)]
 grind
 rw [ydb G (ts:=y) (by omega) (by omega)]
 grind
 rfl
theorem yHc {n:Nat}(G:ywJ n) {nm r:Str}{x y:List T}(hd:3*yBp (.try_ x nm r y)+1<=n+3) (hw:wT (.try_ x nm r y)<=100000):ylb (n+2) [ydt (.try_ x nm r y)] h=some (.int (yqc (.try_ x nm r y)),h):=by
 have hd:3*(1+max (ygb x) (ygb y))+1<=n+3:=hd
 have hw:40+nm.length+r.length+wL x+wL y<=100000:=hw
 unfold ylb
 rw [yw]
 show ob (yS _ [.val (.ins 7 ["parts","name","slot","others"] [.lst (ycF x),.str nm,.str r,.lst (ycF y)])] h) fnK=_
 grind
 rw [ydb G (ts:=x) (by omega) (by omega)]
 grind
 rw [ydb G (ts:=y) (by omega) (by omega)]
 grind
 rfl
theorem yuP:∀ n:Nat,ywJ n
 | 0=>fun h t hd=>by omega
 | n+1=>fun h t hd hw=>by
  cases t with
  | base=>rfl
  | let_ r m=>rfl
  | reckon w r s u=>rfl
  | take r s=>rfl
  | put r s=>rfl
  | throw nm r=>rfl
  | wait=>rfl
  | if_ r x y =>
   have h1:3*(1+max (ygb x) (ygb y))+1<=n+1:=hd
   obtain ⟨m,rfl⟩:∃ m,n=m+2:=⟨n-2,by omega⟩
   exact yKR (yuP m) hd hw
  | either x y =>
   have h1:3*(1+max (ygb x) (ygb y))+1<=n+1:=hd
   obtain ⟨m,rfl⟩:∃ m,n=m+2:=⟨n-2,by omega⟩
   exact yyP (yuP m) hd hw
  | try_ x nm r y =>
   have h1:3*(1+max (ygb x) (ygb y))+1<=n+1:=hd
   obtain ⟨m,rfl⟩:∃ m,n=m+2:=⟨n-2,by omega⟩
   exact yHc (yuP m) hd hw
end
def yBZ (m:Nat):List Nat:=(Nat.toDigits 10 m).map Char.toNat
theorem yNL:∀ d:Nat,d<10->(Nat.digitChar d).toNat=48+d:=by
 intro d h
 have:d=0\/d=1\/d=2\/d=3\/d=4\/d=5\/d=6\/d=7\/d=8\/d=9:=by omega
 rcases this with rfl|rfl|rfl|rfl|rfl|rfl|rfl|rfl|rfl|rfl
 all_goals decide
theorem yHd (cs:List Nat) (c:Nat):yJx (cs++[c])=yJx cs*10+((c:Int)-48):=by
 unfold yJx
 rw [List.foldl_append];rfl
theorem yDP:∀ m:Nat,yBZ m≠[]/\(∀ c∈yBZ m,48<=c/\c<=57)/\yJx (yBZ m)=m/\(m≠0->(yBZ m)[0]?≠some 48)/\(m=0->yBZ m=[48]):=by
 intro m
 induction m using Nat.strongRecOn with
 | ind m ih =>
  unfold yBZ at *
  by_cases h:m<10
  .rw [Nat.toDigits_of_lt_base h,List.map_singleton,yNL m h]
   refine ⟨by simp,fun c hc=>?_,?_,fun hm e=>?_,fun e=>by subst e;rfl⟩
   .rw [List.mem_singleton.mp hc];omega
   .show (0:Int)*10+(((48+m:Nat):Int)-48)=m
    omega
   .have:48+m=48:=by simpa using e
    omega
  .rw [Nat.toDigits_of_base_le (by decide) (by omega),map_append,List.map_singleton,yNL (m%10) (by omega)]
   obtain ⟨h1,h2,h3,h4,h5⟩:=ih (m/10) (by omega)
   refine ⟨by simp,fun c hc=>?_,?_,fun _ e=>?_,fun e=>by omega⟩
   .rcases List.mem_append.mp hc with hc|hc
    .exact h2 c hc
    .rw [List.mem_singleton.mp hc];omega
   .rw [yHd,h3];omega
   .refine h4 (by omega) ?_
    generalize (Nat.toDigits 10 (m/10)).map Char.toNat=l at *
    cases l with
    | nil=>exact absurd rfl h1
    | cons a l=>simpa using e
theorem yDQ {n:Int}(h:0<=n):(Str.ofString (toString n)).cps.toList=yBZ n.toNat:=by
 obtain ⟨m,rfl⟩:∃ m:Nat,n=m:=⟨n.toNat,by omega⟩
 rw [Str.ofString_eq_toList]
 show (toString m).toList.map Char.toNat=_
 rw [Int.toNat_natCast,show (toString m)=m.repr from rfl,Nat.toList_repr];rfl
def yeH (r:Str):Prop:=∃ c:Nat,97<=c/\c<=104/\r=⟨#[c]⟩
def ytJ (z:Str):Prop:=1<=z.length/\z.length<=8/\∀ c∈z.cps.toList,97<=c/\c<=122
def yAx (w:Str):Prop:=w = "plus"\/w = "minus"\/w = "times"\/w = "less"\/w = "same"
mutual
noncomputable def gdT:T->Prop
 | .base=>False
 | .let_ r n=>yeH r/\0<=n/\n<B64
 | .reckon w r s t=>yAx w/\yeH r/\yeH s/\yeH t
 | .take r s=>yeH r/\yeH s
 | .put r s=>yeH r/\yeH s
 | .if_ r a b=>yeH r/\gdL a/\gdL b
 | .either a b=>gdL a/\gdL b
 | .try_ a nm r b=>ytJ nm/\yeH r/\gdL a/\gdL b
 | .throw nm r=>ytJ nm/\yeH r
 | .wait=>True
noncomputable def gdL:List T->Prop
 | []=>True
 | t::r=>gdT t/\gdL r
end
def wsd (l:List Str):List Str:=("(":Str)::(l++[(")":Str)])
mutual
noncomputable def wdT:T->List Str
 | .base=>[]
 | .let_ r n=>["let",r,(toString n:String)]
 | .reckon w r s t=>[w,r,s,t]
 | .take r s=>["take",r,s]
 | .put s t=>["put",s,t]
 | .if_ r a b=>("if":Str)::r::(wsd (wdL a)++("else":Str)::wsd (wdL b))
 | .either a b=>("either":Str)::(wsd (wdL a)++("or":Str)::wsd (wdL b))
 | .try_ a nm r b=>("try":Str)::(wsd (wdL a)++("on":Str)::nm::r::wsd (wdL b))
 | .throw nm r=>["throw",nm,r]
 | .wait=>["wait"]
noncomputable def wdL:List T->List Str
 | []=>[]
 | t::r=>wdT t++wdR r
noncomputable def wdR:List T->List Str
 | []=>[]
 | t::r=>";"::(wdT t++wdR r)
end
theorem yKS:∀ {t:T},gdT t->wdT t≠[]
 | .base,g=>g.elim
 | .let_ ..,_=>fun z=>by cases z
 | .reckon ..,_=>fun z=>by cases z
 | .take ..,_=>fun z=>by cases z
 | .put ..,_=>fun z=>by cases z
 | .if_ ..,_=>fun z=>by cases z
 | .either ..,_=>fun z=>by cases z
 | .try_ ..,_=>fun z=>by cases z
 | .throw ..,_=>fun z=>by cases z
 | .wait,_=>fun z=>by cases z
theorem ydu {sep:Str}:∀ {a b:List Str},a≠[]->b≠[]->Str.join sep (a++b)=Str.join sep a++sep++Str.join sep b
 | [],_,h,_=>absurd rfl h
 | [x],[],_,h=>absurd rfl h
 | [x],y::b,_,_=>rfl
 | x::y::a,b,_,hb=>by
  have ih:=ydu (sep:=sep) (a:=y::a) (b:=b) (fun z=>by cases z) hb
  show x++sep++Str.join sep ((y::a)++b)=x++sep++Str.join sep (y::a)++sep++Str.join sep b
  rw [ih];simp only [ygn]
theorem ywK {sep x:Str}{b:List Str}(h:b≠[]):Str.join sep (x::b)=x++sep++Str.join sep b:=ydu (a:=[x]) (fun z=>by cases z) h
theorem yNM:(" ; ":Str) = " "++";"++" ":=by rfl'
theorem yNN:("( )":Str) = "("++" "++")":=by rfl'
def fr (w:Str):Prop:=32∉w.cps.toList/\w.length≠0/\w.length<=20
theorem ycc {r:Str}(h:yeH r):fr r:=by
 obtain ⟨c,h1,h2,rfl⟩:=h
 refine ⟨fun z=>?_,(fun z:1=0=>by cases z),(show 1<=20 by decide)⟩
 have:32=c:=by simpa using z
 omega
theorem yuQ {r:Str}(h:ytJ r):fr r:=⟨fun z=>by have:=h.2.2 _ z;omega,by have:=h.1;omega,by have:=h.2.1;omega⟩
theorem yDR {n:Int}(h:0<=n) (h2:n<B64):fr (toString n:String):=by
 have e:=yDQ h
 obtain ⟨h3,h4,_⟩:=yDP n.toNat
 refine ⟨fun z=>?_,fun z=>h3 ?_,str_len h (by decide) (Int.lt_trans h2 yDM)⟩
 .rw [e] at z
  have:=h4 _ z
  omega
 .rw [<- e]
  have:(Str.ofString (toString n)).cps.size=0:=z
  exact List.eq_nil_of_length_eq_zero (by simpa using this)
theorem yDS {r:Str}(h:yAx r):fr r:=by
 rcases h with rfl|rfl|rfl|rfl|rfl
 all_goals exact ⟨by rfl',by rfl',by rfl'⟩
theorem yAy (s:Str) (h:decide (32∉s.cps.toList/\s.length≠0/\s.length<=20)=true):fr s:=(show 32∉s.cps.toList/\s.length≠0/\s.length<=20 from of_decide_eq_true h)
def frs (l:List Str):Prop:=∀ w∈l,fr w
theorem yiL:frs []:=fun _ h=>by cases h
theorem yQ {w:Str}{l:List Str}(h:fr w) (k:frs l):frs (w::l):=fun x hx=>(mem_cons.mp hx).elim (fun e=>e ▸ h) (k x)
theorem yoC {a b:List Str}(h:frs a) (k:frs b):frs (a++b):=fun x hx=>(List.mem_append.mp hx).elim (h x) (k x)
theorem yQG:fr "let":=yAy _ (by rfl')
theorem yNO:fr "take":=yAy _ (by rfl')
theorem yQH:fr "put":=yAy _ (by rfl')
theorem ySh:fr "if":=yAy _ (by rfl')
theorem yNP:fr "else":=yAy _ (by rfl')
theorem yHe:fr "either":=yAy _ (by rfl')
theorem ySi:fr "or":=yAy _ (by rfl')
theorem yQI:fr "try":=yAy _ (by rfl')
theorem ySj:fr "on":=yAy _ (by rfl')
theorem yKT:fr "throw":=yAy _ (by rfl')
theorem yNQ:fr "wait":=yAy _ (by rfl')
theorem ySk:fr "(":=yAy _ (by rfl')
theorem ySl:fr ")":=yAy _ (by rfl')
theorem ySm:fr ";":=yAy _ (by rfl')
theorem ytK {l:List Str}(h:frs l):frs (wsd l):=yQ ySk (yoC h (yQ ySl yiL))
mutual
theorem yNR:∀ {t:T},gdT t->frs (wdT t)
 | .base,g=>g.elim
 | .let_ r n,g=>yQ yQG (yQ (ycc g.1) (yQ (yDR g.2.1 g.2.2) yiL))
 | .reckon w r s t,g=>yQ (yDS g.1) (yQ (ycc g.2.1) (yQ (ycc g.2.2.1) (yQ (ycc g.2.2.2) yiL)))
 | .take r s,g=>yQ yNO (yQ (ycc g.1) (yQ (ycc g.2) yiL))
 | .put r s,g=>yQ yQH (yQ (ycc g.1) (yQ (ycc g.2) yiL))
 | .if_ r a b,g=>yQ ySh (yQ (ycc g.1) (yoC (ytK (ynD g.2.1)) (yQ yNP (ytK (ynD g.2.2)))))
 | .either a b,g=>yQ yHe (yoC (ytK (ynD g.1)) (yQ ySi (ytK (ynD g.2))))
 | .try_ a nm r b,g=>yQ yQI (yoC (ytK (ynD g.2.2.1)) (yQ ySj (yQ (yuQ g.1) (yQ (ycc g.2.1) (ytK (ynD g.2.2.2))))))
 | .throw nm r,g=>yQ yKT (yQ (yuQ g.1) (yQ (ycc g.2) yiL))
 | .wait,_=>yQ yNQ yiL
theorem ynD:∀ {ts:List T},gdL ts->frs (wdL ts)
 | [],_=>yiL
 | _::_,g=>yoC (yNR g.1) (yNS g.2)
theorem yNS:∀ {ts:List T},gdL ts->frs (wdR ts)
 | [],_=>yiL
 | _::_,g=>yQ ySm (yoC (yNR g.1) (yNS g.2))
end
theorem yDT {sep:Str}{l:List Str}(h:frs l) (hl:l≠[]):Str.join sep l≠"":=by
 cases l with
 | nil=>exact absurd rfl hl
 | cons x r =>
  intro e
  have h1:=(h x mem_cons_self).2.1
  have:=yHb sep x r (by omega)
  rw [e,yIO] at this
  omega
theorem yBr (l:List Str):wsd l≠[]:=fun z=>by cases z
theorem yil {l:List Str}(h:frs l):yeF (Str.join " " l)=Str.join " " (wsd l):=by
 unfold yeF
 by_cases e:l=[]
 .subst e
  rw [if_pos (by rfl')]
  exact yNN
 .rw [if_neg (yDT h e)]
  show "("++" "++(Str.join " " l++" "++")")=Str.join " " (("(":Str)::(l++[(")":Str)]))
  rw [ywK (by simp),ydu e (fun z=>by cases z)]
  rfl
theorem yAz:∀ (t:T) (r:List T),(∀ u∈t::r,yfG u=Str.join " " (wdT u))->gdL (t::r)->Str.join " ; " (ybd (t::r))=Str.join " " (wdT t++wdR r)
 | t,[],h,_=>by
  show yfG t=Str.join " " (wdT t++[])
  rw [append_nil];exact h t mem_cons_self
 | t,u::r,h,g=>by
  have ih:=yAz u r (fun v hv=>h v (mem_cons_of_mem _ hv)) g.2
  show yfG t++" ; "++Str.join " ; " (ybd (u::r))=Str.join " " (wdT t++(";":Str)::(wdT u++wdR r))
  have ne:wdT u++wdR r≠[]:=fun z=>yKS g.2.1 (List.append_eq_nil_iff.mp z).1
  rw [ih,h t mem_cons_self,ydu (yKS g.1) (fun z=>by cases z),ywK ne,yNM]
  simp only [ygn]
mutual
theorem yHf:∀ (t:T),gdT t->yfG t=Str.join " " (wdT t)
 | .base,g=>g.elim
 | .let_ ..,_=>rfl
 | .reckon ..,_=>rfl
 | .take ..,_=>rfl
 | .put ..,_=>rfl
 | .throw ..,_=>rfl
 | .wait,_=>rfl
 | .if_ r a b,g=>by
  show Str.join " " ["if",r,yeF (Str.join " ; " (ybd a)),"else",yeF (Str.join " ; " (ybd b))]=Str.join " " ((["if",r]:List Str)++(wsd (wdL a)++((["else"]:List Str)++wsd (wdL b))))
  rw [ygo a g.2.1,ygo b g.2.2,yil (ynD g.2.1),yil (ynD g.2.2),ydu (a:=["if",r]) (fun z=>by cases z) (fun z=>by cases z),ydu (yBr _) (fun z=>by cases z),ydu (a:=["else"]) (fun z=>by cases z) (yBr _)]
  simp only [Str.join,ygn]
 | .either a b,g=>by
  show Str.join " " ["either",yeF (Str.join " ; " (ybd a)),"or",yeF (Str.join " ; " (ybd b))]=Str.join " " ((["either"]:List Str)++(wsd (wdL a)++((["or"]:List Str)++wsd (wdL b))))
  rw [ygo a g.1,ygo b g.2,yil (ynD g.1),yil (ynD g.2),ydu (a:=["either"]) (fun z=>by cases z) (fun z=>by cases z),ydu (yBr _) (fun z=>by cases z),ydu (a:=["or"]) (fun z=>by cases z) (yBr _)]
  simp only [Str.join,ygn]
 | .try_ a nm r b,g=>by
  show Str.join " " ["try",yeF (Str.join " ; " (ybd a)),"on",nm,r,yeF (Str.join " ; " (ybd b))]=Str.join " " ((["try"]:List Str)++(wsd (wdL a)++((["on",nm,r]:List Str)++wsd (wdL b))))
  rw [ygo a g.2.2.1,ygo b g.2.2.2,yil (ynD g.2.2.1),yil (ynD g.2.2.2),ydu (a:=["try"]) (fun z=>by cases z) (fun z=>by cases z),ydu (yBr _) (fun z=>by cases z),ydu (a:=["on",nm,r]) (fun z=>by cases z) (yBr _)]
  simp only [Str.join,ygn]
theorem ygo:∀ (ts:List T),gdL ts->Str.join " ; " (ybd ts)=Str.join " " (wdL ts)
 | [],_=>rfl
 | t::r,g=>yAz t r (ywL (t::r) g) g
theorem ywL:∀ (ts:List T),gdL ts->∀ u∈ts,yfG u=Str.join " " (wdT u)
 | [],_,u,h=>by cases h
 | t::r,g,u,h=>by
  rcases mem_cons.mp h with e|h
  .rw [e];exact yHf t g.1
  .exact ywL r g.2 u h
end
section
variable {h:AH}
theorem yQJ {z:Str}{i:Nat}{ρ:PSt}(e:yf i ρ h=some (.str z,h)) (hl:z.length<=100000):xIS (yf i) ρ h=some (z.cps.toList.map sgn,h):=by
 unfold xIS
 rw [e,ycU]
 exact if_pos hl
theorem ytL {x y:Str}(hl:x.length<=1000):yfk [.str x,.str y] h=some (.bl (x.cps.toList.all fun c=>decide (c∈y.cps.toList)),h):=by
 unfold yfk
 rw [yw]
 show ob (yS _ [.val (.str x),.val (.str y)] h) fnK=_
 have hz:x.cps.toList.length=x.length:=by simp [Str.length]
 grind
 rw [yQJ rfl (by omega),ycU]
 rw [if_pos (by rw [length_map];omega)]
 rw [yuI (f:=sgn) (g:=fun c=>.bl (decide (c∈y.cps.toList))) fun c _=>rfl]
 grind
 show ob (yIw [.lst (x.cps.toList.map fun c=>PV.bl (decide (c∈y.cps.toList)))] h) _=_
 unfold yIw ycT
 rw [show (x.cps.toList.map fun c=>PV.bl (decide (c∈y.cps.toList)))=(x.cps.toList.map fun c=>decide (c∈y.cps.toList)).map PV.bl by rw [map_map];rfl]
 simp only [yws,List.all_map]
 rfl
theorem yDU {c:Nat}(h1:97<=c) (h2:c<=104):c∈("abcdefgh":Str).cps.toList:=by
 rw [show ("abcdefgh":Str).cps.toList=[97,98,99,100,101,102,103,104] by rfl']
 have:c=97\/c=98\/c=99\/c=100\/c=101\/c=102\/c=103\/c=104:=by omega
 rcases this with rfl|rfl|rfl|rfl|rfl|rfl|rfl|rfl
 all_goals decide
theorem yyQ {c:Nat}(h1:97<=c) (h2:c<=122):c∈("abcdefghijklmnopqrstuvwxyz":Str).cps.toList:=by
 rw [show ("abcdefghijklmnopqrstuvwxyz":Str).cps.toList=(List.range 26).map (· + 97) by rfl']
 exact List.mem_map.mpr ⟨c-97,List.mem_range.mpr (by omega),by omega⟩
theorem yHg {c:Nat}(h1:48<=c) (h2:c<=57):c∈("0123456789":Str).cps.toList:=by
 rw [show ("0123456789":Str).cps.toList=(List.range 10).map (· + 48) by rfl']
 exact List.mem_map.mpr ⟨c-48,List.mem_range.mpr (by omega),by omega⟩
theorem yBs {r:Str}(g:yeH r):yny [.str r] h=some (.bl true,h):=by
 obtain ⟨c,h1,h2,rfl⟩:=g
 unfold yny
 rw [yw]
 show ob (yS _ [.val (.str ⟨#[c]⟩)] h) fnK=_
 grind
 rw [show (⟨#[c]⟩:Str).length=1 from rfl]
 grind
 simp only [yDU h1 h2]
 rfl
theorem yBt {r:Str}(g:ytJ r):ynz [.str r] h=some (.bl true,h):=by
 obtain ⟨h1,h2,h3⟩:=g
 unfold ynz
 rw [yw]
 show ob (yS _ [.val (.str r)] h) fnK=_
 grind
 rw [ytL (by omega)]
 rw [List.all_eq_true.mpr fun c hc=>decide_eq_true (yyQ (h3 c hc).1 (h3 c hc).2)]
 simp only [show (1:Int)<=r.length by omega,show (r.length:Int)<=8 by omega]
 grind
 rw [if_pos (by omega)]
theorem yBu {r:Str}(g:yAx r):yqR [.str r] h=some (.bl true,h):=by
 rcases g with rfl|rfl|rfl|rfl|rfl
 all_goals rfl
theorem ywM {n:Int}(h0:0<=n) (h1:n<B64):yiI [.str (toString n:String)] h=some (.int n,h):=by
 obtain ⟨d1,d2,d3,d4,d5⟩:=yDP n.toNat
 have hl:=str_len h0 (k:=20) (by decide) (Int.lt_trans h1 yDM)
 have hn:(Str.ofString (toString n)).length≠0:=(yDR h0 h1).2.1
 have e:=yDQ h0
 have hz:n=0->Str.ofString (toString n) = "0":=fun z=>by subst z;rfl'
 have hat:atI (Str.ofString (toString n)).cps.toList 0=some ((yBZ n.toNat).headD 0):=by
  rw [e]
  cases q:yBZ n.toNat with
  | nil=>exact absurd q d1
  | cons a l=>exact yQi
 have hh:(yBZ n.toNat).headD 0=48->n=0:=fun q=>Classical.byContradiction fun z=>d4 (by omega) (by
  cases q2:yBZ n.toNat with
  | nil=>exact absurd q2 d1
  | cons a l=>rw [q2] at q;simpa using q)
 generalize hs:Str.ofString (toString n)=z at *
 unfold yiI
 rw [yw]
 show ob (yn _ _ [.val (.str z),.no] h) fnK=_
 have ml:z.cps.toList.all (fun c=>decide (c∈("0123456789":Str).cps.toList))=true:=List.all_eq_true.mpr fun c hc=>decide_eq_true (yHg (d2 c (e ▸ hc)).1 (d2 c (e ▸ hc)).2)
 grind
 rw [if_pos (by omega:z.length<=100000)]
 simp only [show (1:Int)<=z.length by omega,show (z.length:Int)<=20 by omega]
 grind
 rw [ytL (by omega),ml]
 grind
 rw [hat]
 grind
 have hb:∀ h:AH,yDc [.str z] h=some (.int n,h):=fun h=>by
  unfold yDc
  show (if _ then _ else _)=_
  rw [if_pos ⟨by rw [e];exact d1,by rw [e];exact d2,by omega⟩,e,d3,Int.toNat_of_nonneg h0]
 rw [if_neg (not_not_intro trivial),if_pos (by omega)]
 simp only [sgn,hb]
 grind
 rw [if_pos h1]
 split
 .rename_i q
  have q:(yBZ n.toNat).headD 0=48:=by
   have q2:=congrArg (fun s:Str=>s.cps.toList) q
   rw [show ("0":Str).cps.toList=[48] by rfl'] at q2
   simpa using q2
  rw [if_neg (not_not_intro (hz (hh q)))]
 .rfl
end
theorem yuR:(("let":Str) = "if")=False:=eq_false (by rfl')
theorem yjH:(("let":Str) = "either")=False:=eq_false (by rfl')
theorem yra:(("let":Str) = "try")=False:=eq_false (by rfl')
theorem ytM:(("take":Str) = "let")=False:=eq_false (by rfl')
theorem yrb:(("take":Str) = "if")=False:=eq_false (by rfl')
theorem yiM:(("take":Str) = "either")=False:=eq_false (by rfl')
theorem yoD:(("take":Str) = "try")=False:=eq_false (by rfl')
theorem ywN:(("put":Str) = "let")=False:=eq_false (by rfl')
theorem ytN:(("put":Str) = "take")=False:=eq_false (by rfl')
theorem yuS:(("put":Str) = "if")=False:=eq_false (by rfl')
theorem yjI:(("put":Str) = "either")=False:=eq_false (by rfl')
theorem yrc:(("put":Str) = "try")=False:=eq_false (by rfl')
theorem yrd:(("throw":Str) = "let")=False:=eq_false (by rfl')
theorem yjJ:(("throw":Str) = "take")=False:=eq_false (by rfl')
theorem yre:(("throw":Str) = "put")=False:=eq_false (by rfl')
theorem yha:(("throw":Str) = "wait")=False:=eq_false (by rfl')
theorem yoE:(("throw":Str) = "if")=False:=eq_false (by rfl')
theorem yhr:(("throw":Str) = "either")=False:=eq_false (by rfl')
theorem ylZ:(("throw":Str) = "try")=False:=eq_false (by rfl')
theorem ytO:(("wait":Str) = "let")=False:=eq_false (by rfl')
theorem yrf:(("wait":Str) = "take")=False:=eq_false (by rfl')
theorem ytP:(("wait":Str) = "put")=False:=eq_false (by rfl')
theorem ypo:(("wait":Str) = "throw")=False:=eq_false (by rfl')
theorem yrg:(("wait":Str) = "if")=False:=eq_false (by rfl')
theorem yiN:(("wait":Str) = "either")=False:=eq_false (by rfl')
theorem yoF:(("wait":Str) = "try")=False:=eq_false (by rfl')
theorem yma:(("either":Str) = "if")=False:=eq_false (by rfl')
theorem yuT:(("try":Str) = "if")=False:=eq_false (by rfl')
theorem yjK:(("try":Str) = "either")=False:=eq_false (by rfl')
theorem yDV {w:Str}(g:yAx w):(w = "let")=False/\(w = "take")=False/\(w = "put")=False/\(w = "throw")=False/\(w = "wait")=False/\(w = "if")=False/\(w = "either")=False/\(w = "try")=False:=by
 rcases g with rfl|rfl|rfl|rfl|rfl
 all_goals exact ⟨eq_false (by rfl'),eq_false (by rfl'),eq_false (by rfl'),eq_false (by rfl'),eq_false (by rfl'),eq_false (by rfl'),eq_false (by rfl'),eq_false (by rfl')⟩
local macro_rules | `(tactic| walk_at "qq")=>`(tactic| simp_all? only [$(sl_ "yuR yjH yra ytM yrb yiM yoD ywN ytN yuS yjI yrc yrd yjJ yre yha yoE yhr ylZ ytO yrf ytP ypo yrg yiN yoF yma yuT yjK"),*,↓reduceIte])
local macro_rules | `(tactic| walk_at "qt")=>`(tactic| simp_all? only [$(sl_ "yQi yRB yRC yuR yjH yra ytM yrb yiM yoD ywN ytN yuS yjI yrc yrd yjJ yre yha yoE yhr ylZ ytO yrf ytP ypo yrg yiN yoF yma yuT yjK"),*,↓reduceIte])
section
def rdr (ws:List Str) (k:Nat):Nd:=.ins 10 ["words","at"] [.lst (ws.map .str),.int k]
def hR (h:AH) (o:Nat) (ws:List Str) (k:Nat):AH:=h.set o (rdr ws k)
variable {h:AH}{o:Nat}{ws:List Str}{k:Nat}
theorem yHh (ho:o<h.length):(hR h o ws k)[o]?=some (.ins 10 ["words","at"] [.lst (ws.map .str),.int k]):=getElem?_set_self ho
theorem yNT {j:Nat}:(hR h o ws k).set o (.ins 10 ["words","at"] [.lst (ws.map .str),.int j])=hR h o ws j:=by unfold hR rdr;rw [List.set_set]
theorem yAA (ho:o<h.length):yib [10] "words" (.loc o) (hR h o ws k)=some (.lst (ws.map .str),hR h o ws k):=by
 unfold yib yjv
 simp only [yHh ho]
 rw [if_pos (by rfl'),show idxOf ("words":Str) ["words","at"]=0 by rfl']
 rfl
theorem yKU (ho:o<h.length):yib [10,12] "at" (.loc o) (hR h o ws k)=some (.int k,hR h o ws k):=by
 unfold yib yjv
 simp only [yHh ho]
 rw [if_pos (by rfl'),show idxOf ("at":Str) ["words","at"]=1 by rfl']
 rfl
theorem mR {m:Str}{f:Fn}{ys:List PV}{a:XE}{aa:XA}{ρ:PSt}{h0 h2:AH}(ho:o<h.length) (hm:m∉(["words","at"]:List Str)) (ea:a ρ h0=some (.loc o,hR h o ws k)) (eb:aa ρ (hR h o ws k)=some (ys,h2)):yk 10 m f a aa ρ h0=f (.loc o::ys) h2:=by
 unfold yk yjv
 rw [ea,ycU]
 simp only [yHh ho]
 rw [if_pos ⟨trivial,hm⟩,eb];rfl
theorem pR (ho:o<h.length) {j:Nat}{eo ev:XE}{ρ:PSt}(e1:ev ρ (hR h o ws k)=some (.int (j:Int),hR h o ws k)) (e2:eo ρ (hR h o ws k)=some (.loc o,hR h o ws k)):yfV [10,12] "at" eo ev ρ (hR h o ws k)=some (.nx ρ,hR h o ws j):=by
 unfold yfV
 rw [e1,ycU,e2,ycU]
 simp only [yHh ho]
 rw [if_pos ⟨by decide,by decide⟩]
 show some (Out.nx ρ,(hR h o ws k).set o (.ins 10 (putN "at" (.int j) ["words","at"] [.lst (ws.map .str),.int k]).1 (putN "at" (.int j) ["words","at"] [.lst (ws.map .str),.int k]).2))=_
 rw [show putN "at" (.int j) ["words","at"] [.lst (ws.map .str),.int k]=(([("words":Str),"at"]:List Str),[PV.lst (ws.map .str),.int j]) from rfl,yNT]
theorem yuU {w:Str}{r:List Str}(e:ws.drop k=w::r):ws[k]?=some w/\k<ws.length/\ws.drop (k+1)=r:=by
 have hk:k<ws.length:=Classical.byContradiction fun z=>by rw [List.drop_of_length_le (by omega)] at e;cases e
 rw [List.drop_eq_getElem_cons hk] at e
 cases e
 exact ⟨List.getElem?_eq_getElem hk,hk,rfl⟩
theorem yQK (e:ws.drop k=[]):ws.length<=k:=List.drop_eq_nil_iff.mp e
theorem yiO {w:Str}{r:List Str}(ho:o<h.length) (hl:ws.length<=100000) (e:ws.drop k=w::r):ybb [.loc o] (hR h o ws k)=some (.str w,hR h o ws k):=by
 obtain ⟨e1,e2,_⟩:=yuU e
 unfold ybb
 rw [yw]
 show ob (yn _ _ [.val (.loc o)] (hR h o ws k)) fnK=_
 have e3:atI (ws.map PV.str) (k:Int)=some (.str w):=ydL (by rw [getElem?_map,e1];rfl)
 simp_all? only [yAA ho,yKU ho,length_map,Int.ofNat_lt,e2,e3,↓reduceIte]
theorem yuV (ho:o<h.length) (hl:ws.length<=100000) (e:ws.drop k=[]):ybb [.loc o] (hR h o ws k)=some (.non,hR h o ws k):=by
 have e2:=yQK e
 unfold ybb
 rw [yw]
 show ob (yn _ _ [.val (.loc o)] (hR h o ws k)) fnK=_
 simp_all? only [yAA ho,yKU ho,length_map,Int.ofNat_lt,show ¬ k<ws.length by omega,↓reduceIte]
theorem yhb {w:Str}{r:List Str}(ho:o<h.length) (hl:ws.length<=100000) (e:ws.drop k=w::r):ybL [.loc o] (hR h o ws k)=some (.str w,hR h o ws (k+1)):=by
 unfold ybL
 rw [yw]
 show ob (yn _ _ [.val (.loc o),.no] (hR h o ws k)) fnK=_
 grind
 rw [mR ho (by rfl') rfl rfl,yiO ho hl e]
 grind
 rw [if_neg (by intro z;cases z),pR (j:=k+1) ho (by grind;simp only [yKU ho];grind;rfl) rfl]
 grind
theorem yoG {w:Str}{r:List Str}(ho:o<h.length) (hl:ws.length<=100000) (e:ws.drop k=w::r):yI [.loc o,.str w] (hR h o ws k)=some (.non,hR h o ws (k+1)):=by
 unfold yI
 rw [yw]
 show ob (yn _ _ [.val (.loc o),.val (.str w),.no] (hR h o ws k)) fnK=_
 grind
 rw [mR ho (by rfl') rfl rfl,yhb ho hl e]
 grind
theorem ybq {w:Str}{r:List Str}(g:yeH w) (ho:o<h.length) (hl:ws.length<=100000) (e:ws.drop k=w::r):yv [.loc o] (hR h o ws k)=some (.str w,hR h o ws (k+1)):=by
 unfold yv
 rw [yw]
 show ob (yn _ _ [.val (.loc o),.no] (hR h o ws k)) fnK=_
 grind
 rw [mR ho (by rfl') rfl rfl,yhb ho hl e]
 simp_all? only [yBs g]
theorem ynE {w:Str}{r:List Str}(g:ytJ w) (ho:o<h.length) (hl:ws.length<=100000) (e:ws.drop k=w::r):ybQ [.loc o] (hR h o ws k)=some (.str w,hR h o ws (k+1)):=by
 unfold ybQ
 rw [yw]
 show ob (yn _ _ [.val (.loc o),.no] (hR h o ws k)) fnK=_
 grind
 rw [mR ho (by rfl') rfl rfl,yhb ho hl e]
 simp_all? only [yBt g]
theorem yrh {n:Int}{r:List Str}(h0:0<=n) (h1:n<B64) (ho:o<h.length) (hl:ws.length<=100000) (e:ws.drop k=Str.ofString (toString n)::r):ycf [.loc o] (hR h o ws k)=some (.int n,hR h o ws (k+1)):=by
 unfold ycf
 rw [yw]
 show ob (yn _ _ [.val (.loc o),.no,.no] (hR h o ws k)) fnK=_
 grind
 rw [mR ho (by rfl') rfl rfl,yhb ho hl e]
 simp_all? only [ywM h0 h1]
 rw [if_neg (by intro z;cases z)]
theorem yQL {r:Str}{n:Int}{h:AH}:yho [.str r,.int n] h=some (.ins 1 ["slot","number"] [.str r,.int n],h):=rfl
theorem yHi {w r s t:Str}{h:AH}:yeO [.str w,.str r,.str s,.str t] h=some (.ins 2 ["word","slot","one","other"] [.str w,.str r,.str s,.str t],h):=rfl
theorem yNU {r s:Str}{h:AH}:ygj [.str r,.str s] h=some (.ins 3 ["slot","place"] [.str r,.str s],h):=rfl
theorem yQM {r s:Str}{h:AH}:yhp [.str r,.str s] h=some (.ins 4 ["place","slot"] [.str r,.str s],h):=rfl
theorem yKV {r s:Str}{h:AH}:yfA [.str r,.str s] h=some (.ins 8 ["name","slot"] [.str r,.str s],h):=rfl
theorem ySn {r:Str}{a b:List PV}{h:AH}:yiJ [.str r,.lst a,.lst b] h=some (.ins 5 ["slot","parts","others"] [.str r,.lst a,.lst b],h):=rfl
theorem yHj {a b:List PV}{h:AH}:yeP [.lst a,.lst b] h=some (.ins 6 ["parts","others"] [.lst a,.lst b],h):=rfl
theorem yQN {r s:Str}{a b:List PV}{h:AH}:yhq [.lst a,.str r,.str s,.lst b] h=some (.ins 7 ["parts","name","slot","others"] [.lst a,.str r,.str s,.lst b],h):=rfl
theorem yri {w a b c:Str}{r:List Str}(ga:yeH a) (gb:yeH b) (gc:yeH c) (ho:o<h.length) (hl:ws.length<=100000) (e:ws.drop k=a::b::c::r):ycg [.loc o,.str w] (hR h o ws k)=some (ydt (.reckon w a b c),hR h o ws (k+3)):=by
 have e1:=(yuU e).2.2
 have e2:=(yuU e1).2.2
 unfold ycg
 rw [yw]
 show ob (yn _ _ [.val (.loc o),.val (.str w),.no,.no,.no] (hR h o ws k)) fnK=_
 grind
 rw [mR ho (by rfl') rfl rfl,ybq ga ho hl e]
 grind
 rw [mR ho (by rfl') rfl rfl,ybq gb ho hl e1]
 grind
 rw [mR ho (by rfl') rfl rfl,ybq gc ho hl e2]
 simp_all? only [yHi]
 rfl
theorem yta {t:T}{w:Str}{tl rest:List Str}(g:gdT t) (hp:plain t) (ew:wdT t=w::tl) (ho:o<h.length) (hl:ws.length<=100000) (e:ws.drop k=tl++rest):ycp [.loc o,.str w] (hR h o ws k)=some (ydt t,hR h o ws (k+tl.length)):=by
 unfold ycp
 rw [yw]
 show ob (yn _ _ [.val (.loc o),.val (.str w),.no,.no,.no] (hR h o ws k)) fnK=_
 cases t with
 | base=>exact g.elim
 | if_ r a b=>exact hp.elim
 | either a b=>exact hp.elim
 | try_ a nm r b=>exact hp.elim
 | let_ r n =>
  cases ew
  have e1:=(yuU e).2.2
  walk_at "qq"
  rw [mR ho (by rfl') rfl rfl,ybq g.1 ho hl e]
  grind
  rw [mR ho (by rfl') rfl rfl,yrh g.2.1 g.2.2 ho hl e1]
  simp_all? only [yQL]
  rfl
 | take r s =>
  cases ew
  have e1:=(yuU e).2.2
  walk_at "qq"
  rw [mR ho (by rfl') rfl rfl,ybq g.1 ho hl e]
  grind
  rw [mR ho (by rfl') rfl rfl,ybq g.2 ho hl e1]
  simp_all? only [yNU]
  rfl
 | put r s =>
  cases ew
  have e1:=(yuU e).2.2
  walk_at "qq"
  rw [mR ho (by rfl') rfl rfl,ybq g.1 ho hl e]
  grind
  rw [mR ho (by rfl') rfl rfl,ybq g.2 ho hl e1]
  simp_all? only [yQM]
  rfl
 | throw nm r =>
  cases ew
  have e1:=(yuU e).2.2
  walk_at "qq"
  rw [mR ho (by rfl') rfl rfl,ynE g.1 ho hl e]
  grind
  rw [mR ho (by rfl') rfl rfl,ybq g.2 ho hl e1]
  simp_all? only [yKV]
  rfl
 | wait =>
  cases ew
  walk_at "qq"
  rfl
 | reckon w a b c =>
  cases ew
  obtain ⟨n1,n2,n3,n4,n5,_,_,_⟩:=yDV g.1
  simp_all? only [n1,n2,n3,n4,n5,yBu g.1,↓reduceIte]
  rw [mR ho (by rfl') rfl rfl,yri g.2.1 g.2.2.1 g.2.2.2 ho hl e]
  grind
end
mutual
noncomputable def rdT:T->Int
 | .if_ _ a b=>max 0 (max (1+rdL a) (1+rdL b))
 | .either a b=>max 0 (max (1+rdL a) (1+rdL b))
 | .try_ a _ _ b=>max 0 (max (1+rdL a) (1+rdL b))
 | _=>0
noncomputable def rdL:List T->Int
 | []=>-1
 | t::r=>max (rdT t) (rdL r)
end
mutual
noncomputable def yLN:T->Prop
 | .if_ _ a b=>yDW a/\yDW b/\a.length<=90/\b.length<=90
 | .either a b=>yDW a/\yDW b/\a.length<=90/\b.length<=90
 | .try_ a _ _ b=>yDW a/\yDW b/\a.length<=90/\b.length<=90
 | _=>True
noncomputable def yDW:List T->Prop
 | []=>True
 | t::r=>yLN t/\yDW r
end
theorem yQO:∀ t:T,0<=rdT t
 | .base=>by show (0:Int)<=0;omega
 | .let_ ..=>by show (0:Int)<=0;omega
 | .reckon ..=>by show (0:Int)<=0;omega
 | .take ..=>by show (0:Int)<=0;omega
 | .put ..=>by show (0:Int)<=0;omega
 | .throw ..=>by show (0:Int)<=0;omega
 | .wait=>by show (0:Int)<=0;omega
 | .if_ _ a b=>by show 0<=max 0 (max (1+rdL a) (1+rdL b));omega
 | .either a b=>by show 0<=max 0 (max (1+rdL a) (1+rdL b));omega
 | .try_ a _ _ b=>by show 0<=max 0 (max (1+rdL a) (1+rdL b));omega
theorem fw:∀ {t:T},gdT t->∃ w tl,wdT t=w::tl/\w≠")"
 | .base,g=>g.elim
 | .let_ ..,_=>⟨_,_,rfl,by rfl'⟩
 | .reckon ..,g=>⟨_,_,rfl,by rcases g.1 with rfl|rfl|rfl|rfl|rfl;all_goals rfl'⟩
 | .take ..,_=>⟨_,_,rfl,by rfl'⟩
 | .put ..,_=>⟨_,_,rfl,by rfl'⟩
 | .if_ ..,_=>⟨_,_,rfl,by rfl'⟩
 | .either ..,_=>⟨_,_,rfl,by rfl'⟩
 | .try_ ..,_=>⟨_,_,rfl,by rfl'⟩
 | .throw ..,_=>⟨_,_,rfl,by rfl'⟩
 | .wait,_=>⟨_,_,rfl,by rfl'⟩
theorem yKW:((")":Str) = ";")=False:=eq_false (by rfl')
theorem ylf {ws a b:List Str}{k:Nat}(e:ws.drop k=a++b):ws.drop (k+a.length)=b:=by
 rw [<- List.drop_drop,e,List.drop_left]
def ends (rest:List Str):Prop:=rest=[]\/∃ r,rest=(")":Str)::r
section
variable {h:AH}{o:Nat}{ws:List Str}{k:Nat}
def yrj (h:AH) (o:Nat) (ws:List Str) (n:Nat):Prop:=∀ (t:T) (k:Nat) (rest:List Str) (ar:Int),gdT t->yLN t->rdT t+ar<=8->4*yBp t+1<=n->ws.drop k=wdT t++rest->yG n [.loc o,.int ar] (hR h o ws k)=some (ydt t,hR h o ws (k+(wdT t).length))
def yuW:XT:=yo (xOp (oEq) (yk 10 "ahead" ybb (yf 0) (yj)) (xC (.str ";")))
def yyR (n:Nat):XS:=yn (ybv (yk 10 "pass_over" yI (yf 0) (yb (xC (.str ";")) (yj)))) (ysX 2 (yk 10 "part_taken" (yG n) (yf 0) (yb (yf 1) (yj))))
theorem yDX {n:Nat}(G:yrj h o ws n) (ho:o<h.length) (hl:ws.length<=100000) {rest:List Str}(hr:ends rest) {ar:Int}:∀ (r:List T) (acc:List PV) (k fu:Nat),gdL r->yDW r->rdL r+ar<=8->4*ygb r+1<=n->r.length<fu->acc.length+r.length<=1000->ws.drop k=wdR r++rest ->
  whl yuW (yyR n) fu [.val (.loc o),.val (.int ar),.own (.lst acc)] (hR h o ws k)=some (.nx [.val (.loc o),.val (.int ar),.own (.lst (acc++ycF r))],hR h o ws (k+(wdR r).length))
 | [],acc,k,fu+1,_,_,_,_,_,_,e=>by
  rw [yAg]
  have e:ws.drop k=rest:=e
  have c:yuW [.val (.loc o),.val (.int ar),.own (.lst acc)] (hR h o ws k)=some (false,hR h o ws k):=by
   unfold yuW
   grind
   rw [mR ho (by rfl') rfl rfl]
   rcases hr with rfl|⟨r,rfl⟩
   .rw [yuV ho hl e]
    grind
    rfl
   .rw [yiO ho hl e]
    simp_all? only [yKW]
  rw [c,ycU,if_neg (by intro z;cases z)]
  show _=some (Out.nx [.val (.loc o),.val (.int ar),.own (.lst (acc++[]))],hR h o ws (k+0))
  rw [append_nil];rfl
 | t::r,acc,k,fu+1,g,f,hd,hf,hu,ha,e=>by
  rw [yAg]
  have e:ws.drop k=(";":Str)::(wdT t++wdR r++rest):=e
  have hd:max (rdT t) (rdL r)+ar<=8:=hd
  have hf:4*max (yBp t) (ygb r)+1<=n:=hf
  have e1:=(yuU e).2.2
  rw [append_assoc] at e1
  have hu:r.length+1<fu+1:=hu
  have ha:acc.length+(r.length+1)<=1000:=ha
  have c:yuW [.val (.loc o),.val (.int ar),.own (.lst acc)] (hR h o ws k)=some (true,hR h o ws k):=by
   unfold yuW
   grind
   rw [mR ho (by rfl') rfl rfl,yiO ho hl e]
   grind
  have b:yyR n [.val (.loc o),.val (.int ar),.own (.lst acc)] (hR h o ws k)=some (.nx [.val (.loc o),.val (.int ar),.own (.lst (acc++[ydt t]))],hR h o ws (k+1+(wdT t).length)):=by
   unfold yyR
   grind
   rw [mR ho (by rfl') rfl rfl,yoG ho hl e]
   grind
   rw [yID rfl,mR ho (by rfl') rfl rfl,G t (k+1) _ ar g.1 f.1 (by omega) (by omega) e1]
   grind
   rw [if_pos (by omega)]
  rw [c,ycU,if_pos rfl,b,ycU]
  show whl yuW (yyR n) fu _ _=_
  rw [yDX G ho hl hr r (acc++[ydt t]) (k+1+(wdT t).length) fu g.2 f.2 (by omega) (by omega) (by omega) (by rw [length_append,List.length_singleton];omega) (ylf e1)]
  show _=some (Out.nx [.val (.loc o),.val (.int ar),.own (.lst (acc++(ydt t::ycF r)))],hR h o ws (k+((wdT t++wdR r).length+1)))
  rw [append_assoc,length_append,List.singleton_append,show k+1+(wdT t).length+(wdR r).length=k+((wdT t).length+(wdR r).length+1) by omega]
theorem list_eq {n:Nat}(G:yrj h o ws n) (ho:o<h.length) (hl:ws.length<=100000) {rest:List Str}(hr:ends rest) {ar:Int}{ts:List T}{k:Nat}(g:gdL ts) (f:yDW ts) (hc:ts.length<=90) (hd:rdL ts+ar<=8) (hf:4*ygb ts+1<=n) (e:ws.drop k=wdL ts++rest) :
  ybR (n+1) [.loc o,.int ar] (hR h o ws k)=some (.lst (ycF ts),hR h o ws (k+(wdL ts).length)):=by
 unfold ybR
 rw [yw]
 show ob (yn _ (yn _ (yn (ylo 100 yuW (yyR n)) _)) [.val (.loc o),.val (.int ar),.no] (hR h o ws k)) fnK=_
 cases ts with
 | nil =>
  have e:ws.drop k=rest:=e
  grind
  rw [mR ho (by rfl') rfl rfl]
  rcases hr with rfl|⟨r,rfl⟩
  .rw [yuV ho hl e]
   grind
   rw [if_pos (show isN PV.non=true from rfl)];rfl
  .rw [yiO ho hl e]
   grind
   rw [if_neg (by intro z;cases z),mR ho (by rfl') rfl rfl,yiO ho hl e]
   grind
   rfl
 | cons t r =>
  have e:ws.drop k=wdT t++wdR r++rest:=e
  have hd:max (rdT t) (rdL r)+ar<=8:=hd
  have hf:4*max (yBp t) (ygb r)+1<=n:=hf
  have hc:r.length+1<=90:=hc
  obtain ⟨w,tl,ew,nw⟩:=fw g.1
  have e0:ws.drop k=w::(tl++wdR r++rest):=by rw [e,ew];rfl
  rw [append_assoc] at e
  grind
  rw [mR ho (by rfl') rfl rfl,yiO ho hl e0]
  grind
  rw [if_neg (by intro z;cases z),mR ho (by rfl') rfl rfl,yiO ho hl e0]
  simp_all? only [nw,↓reduceIte]
  rw [mR ho (by rfl') rfl rfl,G t k _ ar g.1 f.1 (by omega) (by omega) e]
  grind
  rw [show ylo 100 yuW (yyR n) [PVar.val (PV.loc o),PVar.val (PV.int ar),PVar.own (Nd.lst [ydt t])] (hR h o ws (k+(wdT t).length))=whl yuW (yyR n) 100 [PVar.val (PV.loc o),PVar.val (PV.int ar),PVar.own (Nd.lst [ydt t])] (hR h o ws (k+(wdT t).length)) from rfl,
   yDX G ho hl hr r [ydt t] (k+(wdT t).length) 100 g.2 f.2 (by omega) (by omega) (by omega) (by rw [List.length_singleton];omega) (ylf e)]
  grind
  show some (PV.lst ([ydt t]++ycF r),_)=some (PV.lst (ydt t::ycF r),hR h o ws (k+(wdT t++wdR r).length))
  rw [length_append,<- Nat.add_assoc];rfl
theorem yoH {n:Nat}(G:yrj h o ws n) (ho:o<h.length) (hl:ws.length<=100000) {rest:List Str}{ar:Int}{ts:List T}{k:Nat}(g:gdL ts) (f:yDW ts) (hc:ts.length<=90) (hd:rdL ts+ar<=8) (hf:4*ygb ts+1<=n) (e:ws.drop k=wsd (wdL ts)++rest) :
  yK (n+2) [.loc o,.int ar] (hR h o ws k)=some (.lst (ycF ts),hR h o ws (k+(wsd (wdL ts)).length)):=by
 have e:ws.drop k=("(":Str)::(wdL ts++(")":Str)::rest):=by
  rw [e];unfold wsd;simp
 have e1:=(yuU e).2.2
 have e2:=ylf e1
 unfold yK
 rw [yw]
 show ob (yn _ _ [.val (.loc o),.val (.int ar),.no] (hR h o ws k)) fnK=_
 grind
 rw [mR ho (by rfl') rfl rfl,yoG ho hl e]
 grind
 rw [mR ho (by rfl') rfl rfl,list_eq G ho hl (.inr ⟨_,rfl⟩) g f hc hd hf e1]
 grind
 rw [mR ho (by rfl') rfl rfl,yoG ho hl e2]
 grind
 rw [show (wsd (wdL ts)).length=(wdL ts).length+2 by unfold wsd;simp,show k+1+(wdL ts).length+1=k+((wdL ts).length+2) by omega]
theorem yQP {n:Nat}(G:yrj h o ws n) (ho:o<h.length) (hl:ws.length<=100000) {rest:List Str}{ar:Int}{r:Str}{a b:List T}{k:Nat}(g:gdT (.if_ r a b)) (f:yLN (.if_ r a b)) (hd:max (rdL a) (rdL b)+ar<=8) (hf:4*max (ygb a) (ygb b)+1<=n) (e:ws.drop k=r::(wsd (wdL a)++("else":Str)::(wsd (wdL b)++rest))) :
  ydr (n+3) [.loc o,.int ar] (hR h o ws k)=some (ydt (.if_ r a b),hR h o ws (k+1+(wsd (wdL a)).length+1+(wsd (wdL b)).length)):=by
 have e1:=(yuU e).2.2
 have e2:=ylf e1
 have e3:=(yuU e2).2.2
 unfold ydr
 rw [yw]
 show ob (yn _ _ [.val (.loc o),.val (.int ar),.no,.no,.no] (hR h o ws k)) fnK=_
 grind
 rw [mR ho (by rfl') rfl rfl,ybq g.1 ho hl e]
 grind
 rw [mR ho (by rfl') rfl rfl,yoH G ho hl g.2.1 f.1 f.2.2.1 (by omega) (by omega) e1]
 grind
 rw [mR ho (by rfl') rfl rfl,yoG ho hl e2]
 grind
 rw [mR ho (by rfl') rfl rfl,yoH G ho hl g.2.2 f.2.1 f.2.2.2 (by omega) (by omega) e3]
 simp_all? only [ySn]
 rfl
theorem yDY {n:Nat}(G:yrj h o ws n) (ho:o<h.length) (hl:ws.length<=100000) {rest:List Str}{ar:Int}{a b:List T}{k:Nat}(g:gdT (.either a b)) (f:yLN (.either a b)) (hd:max (rdL a) (rdL b)+ar<=8) (hf:4*max (ygb a) (ygb b)+1<=n) (e1:ws.drop k=wsd (wdL a)++("or":Str)::(wsd (wdL b)++rest)) :
  ych (n+3) [.loc o,.int ar] (hR h o ws k)=some (ydt (.either a b),hR h o ws (k+(wsd (wdL a)).length+1+(wsd (wdL b)).length)):=by
 have e2:=ylf e1
 have e3:=(yuU e2).2.2
 unfold ych
 rw [yw]
 show ob (yn _ _ [.val (.loc o),.val (.int ar),.no,.no] (hR h o ws k)) fnK=_
 grind
 rw [mR ho (by rfl') rfl rfl,yoH G ho hl g.1 f.1 f.2.2.1 (by omega) (by omega) e1]
 grind
 rw [mR ho (by rfl') rfl rfl,yoG ho hl e2]
 grind
 rw [mR ho (by rfl') rfl rfl,yoH G ho hl g.2 f.2.1 f.2.2.2 (by omega) (by omega) e3]
 simp_all? only [yHj]
 rfl
theorem yNV {n:Nat}(G:yrj h o ws n) (ho:o<h.length) (hl:ws.length<=100000) {rest:List Str}{ar:Int}{nm r:Str}{a b:List T}{k:Nat}(g:gdT (.try_ a nm r b)) (f:yLN (.try_ a nm r b)) (hd:max (rdL a) (rdL b)+ar<=8) (hf:4*max (ygb a) (ygb b)+1<=n) (e1:ws.drop k=wsd (wdL a)++("on":Str)::nm::r::(wsd (wdL b)++rest)) :
  ycP (n+3) [.loc o,.int ar] (hR h o ws k)=some (ydt (.try_ a nm r b),hR h o ws (k+(wsd (wdL a)).length+1+1+1+(wsd (wdL b)).length)):=by
 have e2:=ylf e1
 have e3:=(yuU e2).2.2
 have e4:=(yuU e3).2.2
 have e5:=(yuU e4).2.2
 unfold ycP
 rw [yw]
 show ob (yn _ _ [.val (.loc o),.val (.int ar),.no,.no,.no,.no] (hR h o ws k)) fnK=_
 grind
 rw [mR ho (by rfl') rfl rfl,yoH G ho hl g.2.2.1 f.1 f.2.2.1 (by omega) (by omega) e1]
 grind
 rw [mR ho (by rfl') rfl rfl,yoG ho hl e2]
 grind
 rw [mR ho (by rfl') rfl rfl,ynE g.1 ho hl e3]
 grind
 rw [mR ho (by rfl') rfl rfl,ybq g.2.1 ho hl e4]
 grind
 rw [mR ho (by rfl') rfl rfl,yoH G ho hl g.2.2.2 f.2.1 f.2.2.2 (by omega) (by omega) e5]
 simp_all? only [yQN]
 rfl
theorem ygc {n:Nat}(ho:o<h.length) (hl:ws.length<=100000) {t:T}{rest:List Str}{ar:Int}(g:gdT t) (hp:plain t) (hd:ar<=8) (e:ws.drop k=wdT t++rest):yG (n+1) [.loc o,.int ar] (hR h o ws k)=some (ydt t,hR h o ws (k+(wdT t).length)):=by
 obtain ⟨w,tl,ew,_⟩:=fw g
 have e0:ws.drop k=w::(tl++rest):=by rw [e,ew];rfl
 have nw:(w = "if")=False/\(w = "either")=False/\(w = "try")=False:=by
  cases t with
  | base=>exact g.elim
  | if_ r a b=>exact hp.elim
  | either a b=>exact hp.elim
  | try_ a nm r b=>exact hp.elim
  | reckon w a b c=>cases ew;exact (yDV g.1).2.2.2.2.2
  | let_ r n=>cases ew;exact ⟨yuR,yjH,yra⟩
  | take r s=>cases ew;exact ⟨yrb,yiM,yoD⟩
  | put r s=>cases ew;exact ⟨yuS,yjI,yrc⟩
  | throw r s=>cases ew;exact ⟨yoE,yhr,ylZ⟩
  | wait=>cases ew;exact ⟨yrg,yiN,yoF⟩
 unfold yG
 rw [yw]
 show ob (yn _ _ [.val (.loc o),.val (.int ar),.no] (hR h o ws k)) fnK=_
 simp_all? only [show (ar>8)=False from eq_false (by omega),↓reduceIte]
 rw [mR ho (by rfl') rfl rfl,yhb ho hl e0]
 simp_all? only [nw.1,nw.2.1,nw.2.2,↓reduceIte]
 rw [mR ho (by rfl') rfl rfl,yta g hp ew ho hl (yuU e0).2.2]
 grind
 rw [ew,length_cons,show k+(tl.length+1)=k+1+tl.length by omega]
theorem yuX (ho:o<h.length) (hl:ws.length<=100000):∀ n:Nat,yrj h o ws n
 | 0=>fun t k rest ar g f hd hf=>by omega
 | n+1=>fun t k rest ar g f hd hf e=>by
  have nn:=yQO t
  cases t with
  | if_ r a b =>
   have h1:4*(1+max (ygb a) (ygb b))+1<=n+1:=hf
   have h2:max 0 (max (1+rdL a) (1+rdL b))+ar<=8:=hd
   obtain ⟨m,rfl⟩:∃ m,n=m+3:=⟨n-3,by omega⟩
   have e:ws.drop k=("if":Str)::(r::(wsd (wdL a)++("else":Str)::(wsd (wdL b)++rest))):=by rw [e];simp [wdT]
   unfold yG
   rw [yw]
   show ob (yn _ _ [.val (.loc o),.val (.int ar),.no] (hR h o ws k)) fnK=_
   simp_all? only [show (ar>8)=False from eq_false (by omega),↓reduceIte]
   rw [mR ho (by rfl') rfl rfl,yhb ho hl e]
   grind
   rw [mR ho (by rfl') rfl rfl,yQP (yuX ho hl m) ho hl g f (by omega) (by omega) (yuU e).2.2]
   grind
   rw [show (wdT (.if_ r a b)).length=(wsd (wdL a)).length+(wsd (wdL b)).length+3 by simp [wdT];omega]
   rw [show k+1+1+(wsd (wdL a)).length+1+(wsd (wdL b)).length=k+((wsd (wdL a)).length+(wsd (wdL b)).length+3) by omega]
  | either a b =>
   have h1:4*(1+max (ygb a) (ygb b))+1<=n+1:=hf
   have h2:max 0 (max (1+rdL a) (1+rdL b))+ar<=8:=hd
   obtain ⟨m,rfl⟩:∃ m,n=m+3:=⟨n-3,by omega⟩
   have e:ws.drop k=("either":Str)::(wsd (wdL a)++("or":Str)::(wsd (wdL b)++rest)):=by rw [e];simp [wdT]
   unfold yG
   rw [yw]
   show ob (yn _ _ [.val (.loc o),.val (.int ar),.no] (hR h o ws k)) fnK=_
   simp_all? only [show (ar>8)=False from eq_false (by omega),↓reduceIte]
   rw [mR ho (by rfl') rfl rfl,yhb ho hl e]
   simp_all? only [yma,↓reduceIte]
   rw [mR ho (by rfl') rfl rfl,yDY (yuX ho hl m) ho hl g f (by omega) (by omega) (yuU e).2.2]
   grind
   rw [show (wdT (.either a b)).length=(wsd (wdL a)).length+(wsd (wdL b)).length+2 by simp [wdT];omega]
   rw [show k+1+(wsd (wdL a)).length+1+(wsd (wdL b)).length=k+((wsd (wdL a)).length+(wsd (wdL b)).length+2) by omega]
  | try_ a nm r b =>
   have h1:4*(1+max (ygb a) (ygb b))+1<=n+1:=hf
   have h2:max 0 (max (1+rdL a) (1+rdL b))+ar<=8:=hd
   obtain ⟨m,rfl⟩:∃ m,n=m+3:=⟨n-3,by omega⟩
   have e:ws.drop k=("try":Str)::(wsd (wdL a)++("on":Str)::nm::r::(wsd (wdL b)++rest)):=by rw [e];simp [wdT]
   unfold yG
   rw [yw]
   show ob (yn _ _ [.val (.loc o),.val (.int ar),.no] (hR h o ws k)) fnK=_
   simp_all? only [show (ar>8)=False from eq_false (by omega),↓reduceIte]
   rw [mR ho (by rfl') rfl rfl,yhb ho hl e]
   simp_all? only [yuT,yjK,↓reduceIte]
   rw [mR ho (by rfl') rfl rfl,yNV (yuX ho hl m) ho hl g f (by omega) (by omega) (yuU e).2.2]
   grind
   rw [show (wdT (.try_ a nm r b)).length=(wsd (wdL a)).length+(wsd (wdL b)).length+4 by simp [wdT];omega]
   rw [show k+1+(wsd (wdL a)).length+1+1+1+(wsd (wdL b)).length=k+((wsd (wdL a)).length+(wsd (wdL b)).length+4) by omega]
  | base=>exact g.elim
  | let_ r n=>exact ygc ho hl g trivial (by omega) e
  | reckon w r s t=>exact ygc ho hl g trivial (by omega) e
  | take r s=>exact ygc ho hl g trivial (by omega) e
  | put r s=>exact ygc ho hl g trivial (by omega) e
  | throw r s=>exact ygc ho hl g trivial (by omega) e
  | wait=>exact ygc ho hl g trivial (by omega) e
end
mutual
theorem yAB:∀ {t:T},gdT t->1<=yqc t
 | .base,g=>g.elim
 | .let_ ..,_=>by show (1:Int)<=1;omega
 | .reckon ..,_=>by show (1:Int)<=1;omega
 | .take ..,_=>by show (1:Int)<=1;omega
 | .put ..,_=>by show (1:Int)<=1;omega
 | .throw ..,_=>by show (1:Int)<=1;omega
 | .wait,_=>by show (1:Int)<=1;omega
 | .if_ r a b,g=>by
  have h1:=ybT g.2.1
  have h2:=ybT g.2.2
  show 1<=2+(ycE a).sum+(ycE b).sum
  omega
 | .either a b,g=>by
  have h1:=ybT g.1
  have h2:=ybT g.2
  show 1<=3+(ycE a).sum+(ycE b).sum
  omega
 | .try_ a nm r b,g=>by
  have h1:=ybT g.2.2.1
  have h2:=ybT g.2.2.2
  show 1<=3+(ycE a).sum+(ycE b).sum
  omega
theorem ybT:∀ {ts:List T},gdL ts->(ts.length:Int)<=(ycE ts).sum
 | [],_=>Int.le_refl _
 | t::r,g=>by
  have h1:=yAB g.1
  have h2:=ybT g.2
  show ((r.length+1:Nat):Int)<=(yqc t::ycE r).sum
  rw [List.sum_cons]
  omega
end
mutual
theorem yNW:∀ {t:T},gdT t->(wT t:Int)+5<=100*yqc t
 | .base,g=>g.elim
 | .let_ r n,g=>by
  have h1:=(ycc g.1).2.2
  have h2:=(yDR g.2.1 g.2.2).2.2
  show ((10+r.length+(Str.ofString (toString n)).length:Nat):Int)+5<=100*1
  omega
 | .reckon w r s t,g=>by
  have h1:=(yDS g.1).2.2
  have h2:=(ycc g.2.1).2.2
  have h3:=(ycc g.2.2.1).2.2
  have h4:=(ycc g.2.2.2).2.2
  show ((10+w.length+r.length+s.length+t.length:Nat):Int)+5<=100*1
  omega
 | .take r s,g=>by
  have h1:=(ycc g.1).2.2
  have h2:=(ycc g.2).2.2
  show ((10+r.length+s.length:Nat):Int)+5<=100*1
  omega
 | .put r s,g=>by
  have h1:=(ycc g.1).2.2
  have h2:=(ycc g.2).2.2
  show ((10+r.length+s.length:Nat):Int)+5<=100*1
  omega
 | .throw r s,g=>by
  have h1:=(yuQ g.1).2.2
  have h2:=(ycc g.2).2.2
  show ((10+r.length+s.length:Nat):Int)+5<=100*1
  omega
 | .wait,_=>by show ((10:Nat):Int)+5<=100*1;omega
 | .if_ r a b,g=>by
  have h0:=(ycc g.1).2.2
  have h1:=yjL g.2.1
  have h2:=yjL g.2.2
  show ((40+r.length+wL a+wL b:Nat):Int)+5<=100*(2+(ycE a).sum+(ycE b).sum)
  omega
 | .either a b,g=>by
  have h1:=yjL g.1
  have h2:=yjL g.2
  show ((40+wL a+wL b:Nat):Int)+5<=100*(3+(ycE a).sum+(ycE b).sum)
  omega
 | .try_ a nm r b,g=>by
  have h0:=(ycc g.2.1).2.2
  have h3:=(yuQ g.1).2.2
  have h1:=yjL g.2.2.1
  have h2:=yjL g.2.2.2
  show ((40+nm.length+r.length+wL a+wL b:Nat):Int)+5<=100*(3+(ycE a).sum+(ycE b).sum)
  omega
theorem yjL:∀ {ts:List T},gdL ts->(wL ts:Int)<=100*(ycE ts).sum
 | [],_=>Int.le_refl _
 | t::r,g=>by
  have h1:=yNW g.1
  have h2:=yjL g.2
  show ((5+wT t+wL r:Nat):Int)<=100*(yqc t::ycE r).sum
  rw [List.sum_cons]
  omega
end
mutual
theorem yNX:∀ {t:T},gdT t->yqc t<=90->yLN t
 | .base,g,_=>g.elim
 | .let_ ..,_,_=>trivial
 | .reckon ..,_,_=>trivial
 | .take ..,_,_=>trivial
 | .put ..,_,_=>trivial
 | .throw ..,_,_=>trivial
 | .wait,_,_=>trivial
 | .if_ r a b,g,l=>by
  have h1:=ybT g.2.1
  have h2:=ybT g.2.2
  have l:2+(ycE a).sum+(ycE b).sum<=90:=l
  exact ⟨yjM g.2.1 (by omega),yjM g.2.2 (by omega),by omega,by omega⟩
 | .either a b,g,l=>by
  have h1:=ybT g.1
  have h2:=ybT g.2
  have l:3+(ycE a).sum+(ycE b).sum<=90:=l
  exact ⟨yjM g.1 (by omega),yjM g.2 (by omega),by omega,by omega⟩
 | .try_ a nm r b,g,l=>by
  have h1:=ybT g.2.2.1
  have h2:=ybT g.2.2.2
  have l:3+(ycE a).sum+(ycE b).sum<=90:=l
  exact ⟨yjM g.2.2.1 (by omega),yjM g.2.2.2 (by omega),by omega,by omega⟩
theorem yjM:∀ {ts:List T},gdL ts->(ycE ts).sum<=90->yDW ts
 | [],_,_=>trivial
 | t::r,g,l=>by
  have h1:=yAB g.1
  have h2:=ybT g.2
  have l:(yqc t::ycE r).sum<=90:=l
  rw [List.sum_cons] at l
  exact ⟨yNX g.1 (by omega),yjM g.2 (by omega)⟩
end
mutual
theorem yNY:∀ t:T,(yBp t:Int)<=rdT t+1
 | .base=>by show (0:Int)<=0+1;omega
 | .let_ ..=>by show (0:Int)<=0+1;omega
 | .reckon ..=>by show (0:Int)<=0+1;omega
 | .take ..=>by show (0:Int)<=0+1;omega
 | .put ..=>by show (0:Int)<=0+1;omega
 | .throw ..=>by show (0:Int)<=0+1;omega
 | .wait=>by show (0:Int)<=0+1;omega
 | .if_ r a b=>by
  have h1:=yjN a
  have h2:=yjN b
  show ((1+max (ygb a) (ygb b):Nat):Int)<=max 0 (max (1+rdL a) (1+rdL b))+1
  omega
 | .either a b=>by
  have h1:=yjN a
  have h2:=yjN b
  show ((1+max (ygb a) (ygb b):Nat):Int)<=max 0 (max (1+rdL a) (1+rdL b))+1
  omega
 | .try_ a nm r b=>by
  have h1:=yjN a
  have h2:=yjN b
  show ((1+max (ygb a) (ygb b):Nat):Int)<=max 0 (max (1+rdL a) (1+rdL b))+1
  omega
theorem yjN:∀ ts:List T,(ygb ts:Int)<=rdL ts+1
 | []=>by show (0:Int) <= -1+1;omega
 | t::r=>by
  have h1:=yNY t
  have h2:=yjN r
  show ((max (yBp t) (ygb r):Nat):Int)<=max (rdT t) (rdL r)+1
  omega
end
theorem yDZ (l:List Str):(wsd l).length=l.length+2:=by unfold wsd;simp
mutual
theorem yIP:∀ t:T,(wdT t).length<=wT t
 | .base=>by show 0<=0;omega
 | .let_ r n=>by show 3<=10+r.length+(Str.ofString (toString n)).length;omega
 | .reckon w r s t=>by show 4<=10+w.length+r.length+s.length+t.length;omega
 | .take r s=>by show 3<=10+r.length+s.length;omega
 | .put r s=>by show 3<=10+r.length+s.length;omega
 | .throw r s=>by show 3<=10+r.length+s.length;omega
 | .wait=>by show 1<=10;omega
 | .if_ r a b=>by
  have h1:=ymb a
  have h2:=ymb b
  show (("if":Str)::r::(wsd (wdL a)++("else":Str)::wsd (wdL b))).length<=40+r.length+wL a+wL b
  simp only [length_cons,length_append,yDZ]
  omega
 | .either a b=>by
  have h1:=ymb a
  have h2:=ymb b
  show (("either":Str)::(wsd (wdL a)++("or":Str)::wsd (wdL b))).length<=40+wL a+wL b
  simp only [length_cons,length_append,yDZ]
  omega
 | .try_ a nm r b=>by
  have h1:=ymb a
  have h2:=ymb b
  show (("try":Str)::(wsd (wdL a)++("on":Str)::nm::r::wsd (wdL b))).length<=40+nm.length+r.length+wL a+wL b
  simp only [length_cons,length_append,yDZ]
  omega
theorem ymb:∀ ts:List T,(wdL ts).length<=wL ts
 | []=>Nat.le_refl _
 | t::r=>by
  have h1:=yIP t
  have h2:=yEa r
  show (wdT t++wdR r).length<=5+wT t+wL r
  rw [length_append]
  omega
theorem yEa:∀ ts:List T,(wdR ts).length<=wL ts
 | []=>Nat.le_refl _
 | t::r=>by
  have h1:=yIP t
  have h2:=yEa r
  show (wdT t++wdR r).length+1<=5+wT t+wL r
  rw [length_append]
  omega
end
structure OkL (ts:List T):Prop where
 gd:gdL ts
 rd:rdL ts<=8
 lg:(ycE ts).sum<=79
theorem OkL.len {ts:List T}(g:OkL ts):ts.length<=79:=by have:=ybT g.gd;have:=g.lg;omega
theorem OkL.w {ts:List T}(g:OkL ts):wL ts<=7900:=by have:=yjL g.gd;have:=g.lg;omega
theorem OkL.dep {ts:List T}(g:OkL ts):ygb ts<=9:=by have:=yjN ts;have:=g.rd;omega
def yFk (ts:List T):Str:=Str.join " ; " (ybd ts)
section
variable {h:AH}
theorem yyS {ts:List T}(g:OkL ts):ylc [.str (yFk ts)] h=some (.lst ((wdL ts).map .str),h):=by
 have hl:=yeS ts
 have hw:=g.w
 have et:yFk ts=Str.join " " (wdL ts):=ygo ts g.gd
 unfold ylc
 rw [yw]
 show ob (yn _ _ [.val (.str (yFk ts))] h) fnK=_
 grind
 cases ts with
 | nil =>
  rw [if_pos (show yFk [] = "" by rfl')]
  rfl
 | cons t r =>
  have ne:wdL (t::r)≠[]:=fun z=>yKS g.gd.1 (List.append_eq_nil_iff.mp z).1
  rw [if_neg (by rw [et];exact yDT (ynD g.gd) ne),yKx (by unfold yFk;omega)]
  grind
  rw [et,yqN _ ne fun w hw=>(ynD g.gd w hw).1]
theorem yKX {ts:List T}(g:OkL ts):yqY [.str (yFk ts)] h=some (.lst (ycF ts),hR (h++[rdr (wdL ts) 0]) h.length (wdL ts) (0+(wdL ts).length)):=by
 have hw:=g.w
 have hwl:=ymb ts
 have hd:=g.dep
 have hl:=g.lg
 unfold yqY
 rw [yw]
 show ob (yn _ _ [.val (.str (yFk ts)),.no,.no] h) fnK=_
 grind
 rw [yyS g]
 grind
 rw [show yeQ [PV.lst (List.map PV.str (wdL ts))] h=some (rdr (wdL ts) 0,h) from rfl]
 grind
 have ho:h.length<(h++[rdr (wdL ts) 0]).length:=by simp
 have e0:h++[rdr (wdL ts) 0]=hR (h++[rdr (wdL ts) 0]) h.length (wdL ts) 0:=by unfold hR;simp
 generalize hG:h++[rdr (wdL ts) 0]=G at *
 have e1:(wdL ts).drop 0=wdL ts++[]:=by simp
 have hdr:(wdL ts).drop (0+(wdL ts).length)=[]:=by simp
 have rd:=g.rd
 rw [mR (ws:=wdL ts) (k:=0) ho (by rfl') (by rw [<- e0];rfl) rfl,list_eq (n:=44) (yuX ho (by omega) 44) ho (by omega) (.inl rfl) g.gd (yjM g.gd (by omega)) (by have:=g.len;omega) (by omega) (by omega) e1]
 grind
 rw [mR ho (by rfl') rfl rfl,yuV ho (by omega) hdr]
 grind
 rw [if_neg (by intro z;cases z),ydb (n:=44) (yuP 44) (by omega) (by omega)]
 grind
 rw [if_neg (by omega)]
end
section
variable {h:AH}
noncomputable def Stk (h:AH):List Nat->List (List Key×List PV)->Prop
 | [],[]=>True
 | l::ls,d::ds=>h[l]?=some (.dct d.1 d.2)/\Stk h ls ds
 | _,_=>False
structure LG (h:AH) (o s b:Nat) (ls:List Nat) (ds:List (List Key×List PV)) (ks:List Key) (xs:List PV):Prop where
 ob:h[o]?=some (.ins 11 ["stack","last_seen"] [.loc s,.loc b])
 st:h[s]?=some (.lst (ls.map .loc))
 sn:h[b]?=some (.dct ks xs)
 dl:Stk h ls ds
theorem yoI {o s b:Nat}(e:h[o]?=some (.ins 11 ["stack","last_seen"] [.loc s,.loc b])):yib [11] "stack" (.loc o) h=some (.loc s,h):=by
 unfold yib yjv
 simp only [e]
 rw [if_pos (by rfl'),show idxOf ("stack":Str) ["stack","last_seen"]=0 by rfl']
 rfl
theorem yKY {o s b:Nat}(e:h[o]?=some (.ins 11 ["stack","last_seen"] [.loc s,.loc b])):yib [11] "last_seen" (.loc o) h=some (.loc b,h):=by
 unfold yib yjv
 simp only [e]
 rw [if_pos (by rfl'),show idxOf ("last_seen":Str) ["stack","last_seen"]=1 by rfl']
 rfl
theorem yEb {n:Nat}{l:List Nat}{t:Nat}(e:h[n]?=some (.lst ((l++[t]).map PV.loc))):ybC (.loc n) (.int (-1)) h=some (.loc t,h):=by
 unfold ybC
 simp only [e]
 have:atI ((l++[t]).map PV.loc) (-1)=some (.loc t):=by
  unfold atI ixN
  simp
  rw [if_pos (by omega),bind_some,show (-1+((l.length:Int)+1)).toNat=l.length by omega]
  simp
 rw [this]
theorem yHk {n:Nat}{ks:List Key}{xs:List PV}{i:Int}{x:PV}{ed ek ev:XE}{ρ:PSt}(ev':ev ρ h=some (x,h)) (ed':ed ρ h=some (.loc n,h)) (ek':ek ρ h=some (.int i,h)) (e:h[n]?=some (.dct ks xs)) (hl:ks.length<1000) :
  yBj ed ek ev ρ h=some (.nx ρ,h.set n (.dct (yfU ks xs (.inl i) x).1 (yfU ks xs (.inl i) x).2)):=by
 unfold yBj
 rw [ev',ycU,ed',ycU,ek',ycU]
 simp only [e,keyOf]
 rw [if_pos hl]
end
section
variable {h:AH}{o s b:Nat}{ls:List Nat}{ds:List (List Key×List PV)}{ks:List Key}{xs:List PV}
theorem yHl {i:Int}{v:PV}{t:Nat}{d:List Key×List PV}(g:LG h o s b (ls++[t]) ds ks xs) (ht:h[t]?=some (.dct d.1 d.2)) (hl:d.1.length<1000):yiH [.loc o,.int i,v] h=some (.non,h.set t (.dct (yfU d.1 d.2 (.inl i) v).1 (yfU d.1 d.2 (.inl i) v).2)):=by
 unfold yiH
 rw [yw,yDe,yGq,yPo,yyD,show yf 0 ([PV.loc o,.int i,v].map .val++replicate (4-[PV.loc o,.int i,v].length) .no) h=some (.loc o,h) from rfl,ycU,yoI g.ob,ycU]
 show ob (ob (ob (ybC (.loc s) (.int (-1)) h) _) _) _=_
 rw [yEb g.st,ycU]
 show ob (yBj (yf 3) (yf 1) (yf 2) [.val (.loc o),.val (.int i),.val v,.val (.loc t)] h) fnK=_
 rw [yHk (n:=t) (i:=i) (x:=v) rfl rfl rfl ht hl,ycU]
 rfl
theorem yHm (g:LG h o s b ls ds ks xs) (hl:ls.length<1000):yeK [.loc o] h=some (.non,(h++[Nd.dct [] []]).set s (.lst ((ls++[h.length]).map .loc))):=by
 have hs:(h++[Nd.dct [] []])[s]?=some (.lst (ls.map .loc)):=by rw [getElem?_append_left (List.getElem?_eq_some_iff.mp g.st).1];exact g.st
 unfold yeK
 rw [yw,yzZ,yNc,yyD,show yf 0 ([PV.loc o].map .val++replicate (1-[PV.loc o].length) .no) h=some (.loc o,h) from rfl,ycU,yoI g.ob,ycU,if_pos (ygg g.st)]
 show ob (ob (yqJ (.loc s) [.loc h.length] (h++[Nd.dct [] []])) _) fnK=_
 rw [yyH hs (by rw [length_map];omega),ycU,ycU,map_append]
 rfl
theorem yEc {n:Nat}{l:List Nat}{t:Nat}(e:h[n]?=some (.lst ((l++[t]).map PV.loc))):ylX (.loc n) [] h=some (.loc t,h.set n (.lst (l.map .loc))):=by
 unfold ylX
 simp only [e]
 have:((l++[t]).map PV.loc)[((l++[t]).map PV.loc).length-1]?=some (.loc t):=by simp
 rw [this]
 simp
theorem yKZ {t:Nat}(g:LG h o s b (ls++[t]) ds ks xs):yih [.loc o] h=some (.non,h.set s (.lst (ls.map .loc))):=by
 unfold yih
 rw [yw,yzZ,yNc,yyD,show yf 0 ([PV.loc o].map .val++replicate (1-[PV.loc o].length) .no) h=some (.loc o,h) from rfl,ycU,yoI g.ob,ycU,if_pos (ygg g.st),yKf,ycU,yEc g.st,ycU,ycU]
 rfl
end
section
variable {h:AH}{o s b:Nat}{ls:List Nat}{ds:List (List Key×List PV)}{ks:List Key}{xs:List PV}
theorem yEd {t u:Nat}{dt du:List Key×List PV}(g:LG h o s b (ls++[u]++[t]) ds ks xs) (ho:o≠s) (hus:u≠s) (hts:t≠s) (hut:u≠t) (eu:h[u]?=some (.dct du.1 du.2)) (et:h[t]?=some (.dct dt.1 dt.2)) (hl:du.1.length+dt.1.length<1000) :
  yec [.loc o] h=some (.non,(h.set s (.lst ((ls++[u]).map .loc))).set u (.dct (yuM dt.1 dt.2 du.1 du.2).1 (yuM dt.1 dt.2 du.1 du.2).2)):=by
 have hs:s<h.length:=(List.getElem?_eq_some_iff.mp g.st).1
 have e1:(h.set s (.lst ((ls++[u]).map PV.loc)))[s]?=some (.lst ((ls++[u]).map PV.loc)):=getElem?_set_self hs
 have e2:(h.set s (.lst ((ls++[u]).map PV.loc)))[o]?=some (.ins 11 ["stack","last_seen"] [.loc s,.loc b]):=(getElem?_set_ne (Ne.symm ho)).trans g.ob
 have e3:(h.set s (.lst ((ls++[u]).map PV.loc)))[u]?=some (.dct du.1 du.2):=(getElem?_set_ne (Ne.symm hus)).trans eu
 have e4:(h.set s (.lst ((ls++[u]).map PV.loc)))[t]?=some (.dct dt.1 dt.2):=(getElem?_set_ne (Ne.symm hts)).trans et
 unfold yec
 rw [yw,yDe,yGq,yNc,yyD,show yf 0 ([PV.loc o].map .val++replicate (3-[PV.loc o].length) .no) h=some (.loc o,h) from rfl,ycU,yoI g.ob,ycU,if_pos (ygg g.st),yKf,ycU,yEc g.st,ycU]
 generalize hh:h.set s (.lst ((ls++[u]).map PV.loc))=h1 at *
 show ob (yn _ _ [.val (.loc o),.val (.loc t),.no] h1) fnK=_
 rw [yDe,yGq,yPo,yyD,show yf 0 [PVar.val (.loc o),.val (.loc t),.no] h1=some (.loc o,h1) from rfl,ycU,yoI e2,ycU]
 show ob (ob (ob (ybC (.loc s) (.int (-1)) h1) _) _) _=_
 rw [yEb e1,ycU]
 show ob (ybv (xBM yBm yLJ (yf 2) (yb (yf 1) yj)) [.val (.loc o),.val (.loc t),.val (.loc u)] h1) fnK=_
 rw [yzZ,yNc]
 show ob (ob (if yBm (.loc u) h1=true then yLJ (.loc u) [.loc t] h1 else none) _) fnK=_
 rw [if_pos (by unfold yBm ywv;simp only [e3];rfl)]
 unfold yLJ
 simp only [e3,e4]
 rw [if_pos ⟨hut,hl⟩,ycU,ycU]
 rfl
end
def At (h:AH) (m:List (Nat×Nd)):Prop:=(m.map (·.1)).Nodup/\∀ p∈m,h[p.1]?=some p.2
section
variable {h:AH}{m a b:List (Nat×Nd)}
theorem At.get (A:At h m) (i:Nat) {n:Nat}{d:Nd}(e:m[i]?=some (n,d)):h[n]?=some d:=A.2 _ (mem_of_getElem? e)
theorem At.lt (A:At h m) {p:Nat×Nd}(hp:p∈m):p.1<h.length:=(List.getElem?_eq_some_iff.mp (A.2 p hp)).1
theorem At.upd {n:Nat}{d:Nd}(d':Nd) (A:At h (a++(n,d)::b)):At (h.set n d') (a++(n,d')::b):=by
 have hn:n<h.length:=A.lt (p:=(n,d)) (by simp)
 refine ⟨by have:=A.1;simpa using this,fun p hp=>?_⟩
 by_cases q:p.1=n
 .have:p=(n,d'):=by
   have nd:=A.1
   rw [map_append,map_cons,List.nodup_append] at nd
   rcases List.mem_append.mp hp with z|z
   .exact absurd q (nd.2.2 _ (List.mem_map_of_mem z) _ mem_cons_self)
   .rcases mem_cons.mp z with z|z
    .exact z
    .exact absurd (show n∈b.map (·.1) by rw [<- q];exact List.mem_map_of_mem z) (List.nodup_cons.mp nd.2.1).1
  rw [this,getElem?_set_self hn]
 .rw [getElem?_set_ne (fun z=>q z.symm)]
  refine A.2 p ?_
  rcases List.mem_append.mp hp with z|z
  .exact mem_append_left _ z
  .rcases mem_cons.mp z with z|z
   .exact absurd (by rw [z]) q
   .exact mem_append_right _ (mem_cons_of_mem _ z)
theorem At.new (d:Nd) (A:At h (a++b)):At (h++[d]) (a++(h.length,d)::b):=by
 have lt:∀ p∈a++b,p.1<h.length:=fun p hp=>A.lt hp
 refine ⟨?_,fun p hp=>?_⟩
 .have nd:=A.1
  rw [map_append,List.nodup_append] at nd
  rw [map_append,map_cons,List.nodup_append]
  refine ⟨nd.1,List.nodup_cons.mpr ⟨fun z=>?_,nd.2.1⟩,fun x hx y hy=>?_⟩
  .obtain ⟨p,hp,e⟩:=List.mem_map.mp z
   have:=lt p (mem_append_right _ hp)
   omega
  .rcases mem_cons.mp hy with rfl|hy
   .obtain ⟨p,hp,e⟩:=List.mem_map.mp hx
    have:=lt p (mem_append_left _ hp)
    omega
   .exact nd.2.2 x hx y hy
 .rcases List.mem_append.mp hp with z|z
  .rw [getElem?_append_left (lt p (mem_append_left _ z))];exact A.2 p (mem_append_left _ z)
  .rcases mem_cons.mp z with z|z
   .rw [z];simp
   .rw [getElem?_append_left (lt p (mem_append_right _ z))];exact A.2 p (mem_append_right _ z)
theorem At.sub {m':List (Nat×Nd)}(A:At h m) (s:m'.Sublist m):At h m':=⟨(s.map _).nodup A.1,fun p hp=>A.2 p (s.subset hp)⟩
theorem At.perm {m':List (Nat×Nd)}(A:At h m) (s:m'.Perm m):At h m':=⟨(s.map _).nodup_iff.mpr A.1,fun p hp=>A.2 p (s.subset hp)⟩
theorem fl {n k:Nat}{ns:List Str}{xs:List PV}(i:Nat) {cs:List Nat}{f:Str}{y:PV}(e:h[n]?=some (.ins k ns xs)) (hk:k∈cs) (hi:(decide (f∈ns) && ns.idxOf f == i)=true) (hy:xs[i]?=some y):yib cs f (.loc n) h=some (y,h):=by
 obtain ⟨h1,h2⟩:=Bool.and_eq_true_iff.mp hi
 have h2:=eq_of_beq h2
 unfold yib yjv
 simp only [e]
 rw [if_pos ⟨hk,of_decide_eq_true h1⟩,h2,hy]
def yEe (nu ma cr en:Nat):Nd:=.ins 15 ["numbers","marks","crew","entries"] [.loc nu,.loc ma,.loc cr,.loc en]
noncomputable def ynF (ds:List PV) (w nth:Int) (bf:List Int) (rn:Nat):Nd:=.ins 14 ["deeds","width","nth","sleeps","before","run"] [.lst ds,.int w,.int nth,.bl false,.lst (bf.map .int),.loc rn]
noncomputable def ytQ (hl:Nat) (w:Int) (lg:Nat) (rows:List PV) (t:Int) (sn sd:Nat):Nd:=.ins 12 ["held","width","log","rows","at","seen_stamps","sides"] [.loc hl,.int w,.loc lg,.lst rows,.int t,.loc sn,.loc sd]
theorem yjO {n nu ma cr en:Nat}(e:h[n]?=some (yEe nu ma cr en)):yib [15] "numbers" (.loc n) h=some (.loc nu,h)/\yib [15] "marks" (.loc n) h=some (.loc ma,h)/\yib [15] "crew" (.loc n) h=some (.loc cr,h)/\yib [15] "entries" (.loc n) h=some (.loc en,h) :=
 ⟨fl 0 e (by decide) (by rfl') rfl,fl 1 e (by decide) (by rfl') rfl,fl 2 e (by decide) (by rfl') rfl,fl 3 e (by decide) (by rfl') rfl⟩
theorem yjP {n:Nat}{ds:List PV}{w nth:Int}{bf:List Int}{rn:Nat}(e:h[n]?=some (ynF ds w nth bf rn)):yib [14] "deeds" (.loc n) h=some (.lst ds,h)/\yib [12,14] "width" (.loc n) h=some (.int w,h)/\yib [14] "nth" (.loc n) h=some (.int nth,h)/\yib [14] "sleeps" (.loc n) h=some (.bl false,h)/\yib [14] "before" (.loc n) h=some (.lst (bf.map .int),h)/\yib [14] "run" (.loc n) h=some (.loc rn,h) :=
 ⟨fl 0 e (by decide) (by rfl') rfl,fl 1 e (by decide) (by rfl') rfl,fl 2 e (by decide) (by rfl') rfl,fl 3 e (by decide) (by rfl') rfl,fl 4 e (by decide) (by rfl') rfl,fl 5 e (by decide) (by rfl') rfl⟩
theorem ygU {n hl:Nat}{w:Int}{lg:Nat}{rows:List PV}{t:Int}{sn sd:Nat}(e:h[n]?=some (ytQ hl w lg rows t sn sd)):yib [12] "held" (.loc n) h=some (.loc hl,h)/\yib [12,14] "width" (.loc n) h=some (.int w,h)/\yib [12] "log" (.loc n) h=some (.loc lg,h)/\yib [12] "rows" (.loc n) h=some (.lst rows,h)/\yib [10,12] "at" (.loc n) h=some (.int t,h)/\yib [12] "seen_stamps" (.loc n) h=some (.loc sn,h)/\yib [12] "sides" (.loc n) h=some (.loc sd,h) :=
 ⟨fl 0 e (by decide) (by rfl') rfl,fl 1 e (by decide) (by rfl') rfl,fl 2 e (by decide) (by rfl') rfl,fl 3 e (by decide) (by rfl') rfl,fl 4 e (by decide) (by rfl') rfl,fl 5 e (by decide) (by rfl') rfl,fl 6 e (by decide) (by rfl') rfl⟩
end
def mK (k:Nat) (m:Str) (f:Fn) (as:XA) (ρ:PSt) (x:PV) (h1:AH):Option (PV×AH):=match yjv x h1 with
 | some (k',ns,_)=>if k'=k/\m∉ns then ob (as ρ h1) fun ys h2=>f (x::ys) h2 else none
 | none=>none
def fL (cs:List Nat) (f:Str) (ρ:PSt) (y x:PV) (h2:AH):Option (Out×AH):=match x with
 | .loc n=>(match h2[n]? with|some (.ins k ns xs)=>if k∈cs/\ns.length<1000 then some (.nx ρ,h2.set n (.ins k (putN f y ns xs).1 (putN f y ns xs).2)) else none|_=>none)
 | _=>none
section
variable {h:AH}{ρ:PSt}
theorem ymc {k:Nat}{m:Str}{f:Fn}{e:XE}{as:XA}:yk k m f e as ρ h=ob (e ρ h) fun x h1=>mK k m f as ρ x h1:=id rfl
theorem yLa {cs:List Nat}{f:Str}{eo ev:XE}:yfV cs f eo ev ρ h=ob (ev ρ h) fun y h1=>ob (eo ρ h1) fun x h2=>fL cs f ρ y x h2:=id rfl
theorem yZ {n k:Nat}{ns:List Str}{xs:List PV}{m:Str}{f:Fn}{as:XA}(e:h[n]?=some (.ins k ns xs)) (hm:decide (m∈ns)=false):mK k m f as ρ (.loc n) h=ob (as ρ h) fun ys h2=>f (.loc n::ys) h2:=by
 unfold mK yjv
 simp only [e]
 rw [if_pos ⟨trivial,of_decide_eq_false hm⟩]
theorem ymd {n k:Nat}{ns ns':List Str}{xs xs':List PV}{cs:List Nat}{f:Str}{y:PV}(e:h[n]?=some (.ins k ns xs)) (hk:(decide (k∈cs) && decide (ns.length<1000))=true) (hp:putN f y ns xs=(ns',xs')):fL cs f ρ y (.loc n) h=some (.nx ρ,h.set n (.ins k ns' xs')):=by
 obtain ⟨h1,h2⟩:=Bool.and_eq_true_iff.mp hk
 unfold fL
 simp only [e]
 rw [if_pos ⟨of_decide_eq_true h1,of_decide_eq_true h2⟩,hp]
end
noncomputable def yIQ:Nat->List T
 | 0=>[.throw "low" "b"]
 | 1=>[.either [.throw "low" "b"] []]
 | 2=>[.try_ [.let_ "b" 8,.throw "low" "a"] "high" "c" []]
 | 3=>[.try_ [.throw "high" "a"] "high" "c" [.throw "low" "c"]]
 | 4=>[.try_ [.either [.wait] [.throw "low" "b"]] "lowly" "c" []]
 | 5=>[.try_ [.put "a" "a",.throw "lowly" "b"] "low" "c" []]
 | 6=>[.try_ [.try_ [.throw "low" "a"] "low" "b" [.throw "high" "b"]] "low" "c" []]
 | 7=>[.try_ [.throw "low" "b"] "low" "c" []]
 | 8=>[.try_ [.try_ [.let_ "b" 3,.let_ "g" 4,.throw "low" "b"] "high" "c" []] "low" "d" []]
 | 9=>[.try_ [.either [.let_ "e" 4,.put "a" "e",.throw "low" "e"] []] "low" "f" []]
 | 10=>[.try_ [.let_ "h" 6,.throw "high" "a"] "high" "h" [.let_ "g" 2]]
 | _=>[.try_ [.let_ "e" 7] "low" "h" [.let_ "f" 1]]
def yyT (w:Nat) (b n:Int):List T:=.let_ "a" b::.let_ "b" n::.put "a" "b"::yIQ w
inductive Rw where
 | let_ (r:Str) (n:Int)|put (p s:Str)|throw (nm r:Str)|wait|either (k:Int)|guard (nm r:Str) (k:Int)|settle|jump (k:Int)|lay
noncomputable def ybU:Rw->PV
 | .let_ r n=>.tup [.str "let",.str r,.int n]
 | .put p s=>.tup [.str "put",.str p,.str s]
 | .throw nm r=>.tup [.str "throw",.str nm,.str r]
 | .wait=>.tup [.str "wait"]
 | .either k=>.tup [.str "either",.int k]
 | .guard nm r k=>.tup [.str "guard",.str nm,.str r,.int k]
 | .settle=>.tup [.str "settle"]
 | .jump k=>.tup [.str "jump",.int k]
 | .lay=>.tup [.str "lay"]
noncomputable def ySo:Nat->List Rw
 | 0=>[.throw "low" "b",.lay]
 | 1=>[.either 7,.throw "low" "b",.settle,.jump 7,.lay]
 | 2=>[.guard "high" "c" 8,.let_ "b" 8,.throw "low" "a",.settle,.jump 8,.lay]
 | 3=>[.guard "high" "c" 7,.throw "high" "a",.settle,.jump 8,.throw "low" "c",.lay]
 | 4=>[.guard "lowly" "c" 11,.either 8,.wait,.settle,.jump 9,.throw "low" "b",.settle,.jump 11,.lay]
 | 5=>[.guard "low" "c" 8,.put "a" "a",.throw "lowly" "b",.settle,.jump 8,.lay]
 | 6=>[.guard "low" "c" 11,.guard "low" "b" 8,.throw "low" "a",.settle,.jump 9,.throw "high" "b",.settle,.jump 11,.lay]
 | 7=>[.guard "low" "c" 7,.throw "low" "b",.settle,.jump 7,.lay]
 | 8=>[.guard "low" "d" 12,.guard "high" "c" 10,.let_ "b" 3,.let_ "g" 4,.throw "low" "b",.settle,.jump 10,.settle,.jump 12,.lay]
 | 9=>[.guard "low" "f" 12,.either 10,.let_ "e" 4,.put "a" "e",.throw "low" "e",.settle,.jump 10,.settle,.jump 12,.lay]
 | 10=>[.guard "high" "h" 8,.let_ "h" 6,.throw "high" "a",.settle,.jump 9,.let_ "g" 2,.lay]
 | _=>[.guard "low" "h" 7,.let_ "e" 7,.settle,.jump 8,.let_ "f" 1,.lay]
def yuY (w:Nat) (b n:Int):List Rw:=.let_ "a" b::.let_ "b" n::.put "a" "b"::ySo w
theorem yEf {h:AH}{b n:Int}:∀ w:Nat,yik [.lst (ycF (yyT w b n))] h=some (.lst ((yuY w b n).map ybU),h)
 | 0=>by kernel_rfl!
 | 1=>by kernel_rfl!
 | 2=>by kernel_rfl!
 | 3=>by kernel_rfl!
 | 4=>by kernel_rfl!
 | 5=>by kernel_rfl!
 | 6=>by kernel_rfl!
 | 7=>by kernel_rfl!
 | 8=>by kernel_rfl!
 | 9=>by kernel_rfl!
 | 10=>by kernel_rfl!
 | _+11=>by kernel_rfl!
def SL:List Str:=["a","b","c","d","e","f","g","h"]
def sx (r:Str):Nat:=SL.idxOf r
section
variable {h:AH}{n hl lg sn sd:Nat}{w t:Int}{rows:List PV}{hs:List Int}{r:Str}
theorem ynG (hr:r∈SL):ygY [.str r] h=some (.int (sx r),h):=by
 unfold SL at hr
 simp only [mem_cons,not_mem_nil,or_false] at hr
 rcases hr with rfl|rfl|rfl|rfl|rfl|rfl|rfl|rfl<;>kernel_rfl!
theorem yNZ (hr:r∈SL):sx r<8:=List.idxOf_lt_length_of_mem hr
theorem yrk {n:Nat}{xs:List Int}{i:Nat}(e:h[n]?=some (.lst (xs.map .int))) (hi:i<xs.length):ybC (.loc n) (.int i) h=some (.int (xs.getD i 0),h):=by
 unfold ybC
 simp only [e]
 have:(xs.map PV.int)[i]?=some (.int (xs.getD i 0)):=by
  rw [getElem?_map,List.getElem?_eq_getElem hi,List.getD_eq_getElem?_getD,List.getElem?_eq_getElem hi];rfl
 rw [ydL this]
theorem yAC {rw:PV}(e:h[n]?=some (ytQ hl w lg rows t sn sd)) {i:Nat}(ht:t=i) (er:rows[i]?=some rw):yij [.loc n] h=some (rw,h):=by
 obtain ⟨f1,f2,f3,f4,f5,f6,f7⟩:=ygU e
 subst ht
 unfold yij
 rw [yw]
 show ob (yS _ [.val (.loc n)] h) fnK=_
 simp_all? only [f4,f5]
 rw [ydL er]
 rfl
variable (e:h[n]?=some (ytQ hl w lg rows t sn sd)) (eh:h[hl]?=some (.lst (hs.map .int))) (h8:hs.length=8) (hr:r∈SL)
include e eh h8 hr
theorem ylg:ybK [.loc n,.str r] h=some (.int (hs.getD (sx r) 0),h):=by
 obtain ⟨f1,f2,f3,f4,f5,f6,f7⟩:=ygU e
 unfold ybK
 rw [yw]
 show ob (yS _ [.val (.loc n),.val (.str r)] h) fnK=_
 simp_all? only [f1,ynG hr]
 rw [yrk eh (by rw [h8];exact yNZ hr),ycU]
theorem yEg {v:Int}:yeM [.loc n,.str r,.int v] h=some (.non,h.set hl (.lst ((hs.set (sx r) v).map .int))):=by
 obtain ⟨f1,f2,f3,f4,f5,f6,f7⟩:=ygU e
 unfold yeM
 rw [yw]
 show ob (yjD _ _ _ [.val (.loc n),.val (.str r),.val (.int v)] h) fnK=_
 unfold yjD
 show ob (ob (some (PV.int v,h)) _) _=_
 rw [ycU]
 simp_all? only [f1,ynG hr]
 have hi:sx r<hs.length:=by rw [h8];exact yNZ hr
 have e':ixN (hs.map PV.int).length (sx r:Nat)=some (sx r):=by
  unfold ixN
  simp [hi]
 simp only [eh,e']
 rw [ycU,map_set]
 rfl
theorem yEh (hw:1<=w):yfX [.loc n,.str r] h=some (.int (hs.getD (sx r) 0%w),h):=by
 obtain ⟨f1,f2,f3,f4,f5,f6,f7⟩:=ygU e
 unfold yfX
 rw [yw]
 show ob (yS _ [.val (.loc n),.val (.str r)] h) fnK=_
 simp_all? only [ymc,yZ (m:="held_in") e (by rfl'),ylg e eh h8 hr,f2]
 rw [if_pos (by omega)]
end
def ypp:Rw->Rw->Bool
 | .either _,.wait=>true
 | .guard nm _ _,.throw nm' _=>decide (nm=nm')
 | _,_=>false
def yBv:Rw->Bool|.either _=>true|.guard ..=>true|_=>false
def yHn:Rw->Bool|.wait=>true|.throw ..=>true|_=>false
def sdV (s:Rw×List Int):PV:=.tup [ybU s.1,.lst (s.2.map .int)]
noncomputable def tkL (sd:List (Rw×List Int)) (r:Rw):Nat->Nat
 | 0=>0
 | k+1=>match sd[k]? with|some s=>if ypp s.1 r then k+1 else tkL sd r k|none=>0
section
variable {h:AH}{n hl lg sn sdl:Nat}{w t:Int}{rows:List PV}{hs:List Int}{r:Rw}{sd:List (Rw×List Int)}
theorem yHo {b:Rw}(hb:yBv b=true) (hr:yHn r=true):yqS [ybU b,ybU r] h=some (.bl (ypp b r),h):=by
 cases b<;>first|(cases hb;done)|skip
 all_goals cases r<;>first|(cases hr;done)|kernel_rfl!|skip
 rename_i nm _ _ nm' _
 unfold yqS
 rw [yw]
 show ob (yn _ _ [.val (ybU (.guard nm _ _)),.val (ybU (.throw nm' _))] h) fnK=_
 unfold ybU
 simp_all? only [yha]
 rfl
theorem yHp {c:XT}{s:XS}{k:Nat}{ρ:PSt}:whl c s (k+1) ρ h=ob (c ρ h) fun k' h1=>if k'=true then ob (s ρ h1) fun o h2=>(match o with|.nx ρ'=>whl c s k ρ' h2|.ct ρ'=>whl c s k ρ' h2|.bk ρ'=>some (.nx ρ',h2)|.rt y=>some (.rt y,h2)) else some (.nx ρ,h1):=rfl
theorem yAD (e:h[n]?=some (ytQ hl w lg rows t sn sdl)) (es:h[sdl]?=some (.lst (sd.map sdV))) (hb:∀ s∈sd,yBv s.1=true) (hr:yHn r=true) (hl9:sd.length<900):ybi [.loc n,ybU r] h=some (.int (tkL sd r sd.length),h):=by
 obtain ⟨f1,f2,f3,f4,f5,f6,f7⟩:=ygU e
 unfold ybi
 rw [yw]
 show ob (yn _ (yn (ylo 1000 _ _) _) [.val (.loc n),.val (ybU r),.no] h) fnK=_
 have lp:∀ (c:XT) (s:XS),c=(yJD (yo (xOp (oGt) (yf 2) (xC (.int 0)))) (yuw (yo (yU yqS (yb (xOp (ybl) (xOp (ybC) (ybk [12] "sides" (yf 0)) (xOp yGf (yf 2) (xC (.int 1)))) (xC (.int 0))) (yb (yf 1) (yj)))))))->s=(ybI (xOp yGf (yf 2) (xC (.int 1))) (yr 2)) ->
   ∀ (k f:Nat),k<=sd.length->k<f->whl c s f [.val (.loc n),.val (ybU r),.val (.int k)] h=some (.nx [.val (.loc n),.val (ybU r),.val (.int (tkL sd r k))],h):=by
  intro c s hc hs k
  induction k with
  | zero =>
   intro f _ hf
   obtain ⟨f,rfl⟩:∃ g,f=g+1:=⟨f-1,by omega⟩
   subst hc hs
   rw [yHp]
   rfl
  | succ k ih =>
   intro f hk hf
   obtain ⟨f,rfl⟩:∃ g,f=g+1:=⟨f-1,by omega⟩
   have hlt:k<sd.length:=hk
   have ge:sd[k]?=some sd[k]:=List.getElem?_eq_getElem hlt
   have i1:ybC (.loc sdl) (.int (((k+1:Nat):Int)-1)) h=some (sdV sd[k],h):=by
    unfold ybC
    simp only [es]
    rw [show ((k+1:Nat):Int)-1=(k:Nat) by omega,ydL (by rw [getElem?_map,ge];rfl)]
   have i2:ybl (sdV sd[k]) (.int 0) h=some (ybU sd[k].1,h):=rfl
   have i3:=yHo (h:=h) (hb sd[k] (getElem_mem hlt)) hr
   have i4:oGt (.int ((k+1:Nat):Int)) (.int 0) h=some (.bl true,h):=by
    show some (PV.bl (decide ((0:Int)<((k+1:Nat):Int))),h)=_
    rw [decide_eq_true (by omega)]
   have ec:c [.val (.loc n),.val (ybU r),.val (.int ((k+1:Nat):Int))] h=some (!(ypp sd[k].1 r),h):=by
    subst hc
    show ob _ _=_
    simp_all? only [f7,i1,i2,i3,i4]
   rw [yHp,ec,ycU]
   show (if (!(ypp sd[k].1 r))=true then _ else _)=some (Out.nx [_,_,.val (.int ((match sd[k]? with|some s=>if ypp s.1 r then k+1 else tkL sd r k|none=>0:Nat):Int))],h)
   rw [ge]
   cases ht:ypp sd[k].1 r with
   | true=>simp only [Bool.not_true,if_true,ht];rfl
   | false =>
    simp only [Bool.not_false,if_true,ht,Bool.false_eq_true,if_false]
    have:=ih f (by omega) (by omega)
    rw [<- this]
    subst hs
    show ob (some (Out.nx [.val (.loc n),.val (ybU r),.val (.int (((k+1:Nat):Int)-1))],h)) _=_
    rw [ycU,show ((k+1:Nat):Int)-1=(k:Nat) by omega]
 have l1:yej [.loc sdl] h=some (.int sd.length,h):=by rw [yuJ es,length_map]
 have l2:=lp _ _ rfl rfl sd.length 1000 (Nat.le_refl _) (by omega)
 simp_all? only [f7,l1]
 exact (congrArg (ob · _) l2).trans rfl
end
def goB:XS:=(yca (yo (xOp (oEq) (xOp (ybl) (yf 1) (xC (.int 0))) (xC (.str "wait")))) (ybv (yk 12 "leave" ycy (yf 0) (yb (yf 1) (yj)))) (yca (yo (xOp (oEq) (xOp (ybl) (yf 1) (xC (.int 0))) (xC (.str "throw")))) (ybv (yk 12 "throw" ycW (yf 0) (yb (yf 1) (yj)))) (yca (xOr (yo (xOp (oEq) (xOp (ybl) (yf 1) (xC (.int 0))) (xC (.str "jump")))) (yo (xOp (oEq) (xOp (ybl) (yf 1) (xC (.int 0))) (xC (.str "unless"))))) (ybv (yk 12 "lead" yeN (yf 0) (yb (yf 1) (yj)))) (yca (xOr (yo (xOp (oEq) (xOp (ybl) (yf 1) (xC (.int 0))) (xC (.str "either")))) (yo (xOp (oEq) (xOp (ybl) (yf 1) (xC (.int 0))) (xC (.str "guard"))))) (yn (ybv (xBM yjw (yqJ) (ybk [12] "sides" (yf 0)) (yb (yfj (yb (yf 1) (yb (xFz (ynk (yT) (yb (ybk [12] "held" (yf 0)) (yj)))) (yj)))) (yj)))) (ybv (yk 11 "begin" yeK (ybk [12] "log" (yf 0)) (yj)))) (yca (yo (xOp (oEq) (xOp (ybl) (yf 1) (xC (.int 0))) (xC (.str "settle")))) (yn (ybv (xBM yjw (ylX) (ybk [12] "sides" (yf 0)) (yj))) (ybv (yk 11 "settle" yec (ybk [12] "log" (yf 0)) (yj)))) (ybv (yk 12 "go_plain" yba (yf 0) (yb (yf 1) (yj)))))))))
def loB:XS:=(yn (yca (yo (xOp (oEq) (xOp (ybl) (yf 1) (xC (.int 0))) (xC (.str "take")))) (yeE) (yP)) (yn (yca (xOr (yo (xOp (oEq) (xOp (ybl) (yf 1) (xC (.int 0))) (xC (.str "wait")))) (yo (xOp (oEq) (xOp (ybl) (yf 1) (xC (.int 0))) (xC (.str "throw"))))) (yS (xOp (oEq) (yk 12 "taker_layer" ybi (yf 0) (yb (yf 1) (yj))) (xC (.int 0)))) (yP)) (yS (xOp (oEq) (xOp (ybl) (yf 1) (xC (.int 0))) (xC (.str "lay"))))))
def goE:XS:=(yn (ybv (xBM yjw (yqJ) (ybk [12] "sides" (yf 0)) (yb (yfj (yb (yf 1) (yb (xFz (ynk (yT) (yb (ybk [12] "held" (yf 0)) (yj)))) (yj)))) (yj)))) (ybv (yk 11 "begin" yeK (ybk [12] "log" (yf 0)) (yj))))
def goS:XS:=(yn (ybv (xBM yjw (ylX) (ybk [12] "sides" (yf 0)) (yj))) (ybv (yk 11 "settle" yec (ybk [12] "log" (yf 0)) (yj))))
section
variable {h:AH}{n hl lg sn sdl:Nat}{w:Int}{rows:List PV}{t:Nat}{r:Rw}
theorem yEi {j:Int}{t:Int}{ρ:PSt}(e:h[n]?=some (ytQ hl w lg rows t sn sdl)):fL [10,12] "at" ρ (.int j) (.loc n) h=some (.nx ρ,h.set n (ytQ hl w lg rows j sn sdl)):=ymd e (by decide) (by kernel_rfl!)
theorem yHq {j:Nat}{t:Int}{ρ:PSt}(e:h[n]?=some (ytQ hl w lg rows t sn sdl)):fL [12] "held" ρ (.loc j) (.loc n) h=some (.nx ρ,h.set n (ytQ j w lg rows t sn sdl)):=ymd e (by decide) (by kernel_rfl!)
theorem yyU (e:h[n]?=some (ytQ hl w lg rows t sn sdl)) (er:rows[t]?=some (ybU r)):yem [.loc n] h=ob (goB [.val (.loc n),.val (ybU r)] (h.set n (ytQ hl w lg rows (t+1:Nat) sn sdl))) fnK:=by
 obtain ⟨f1,f2,f3,f4,f5,f6,f7⟩:=ygU e
 unfold yem
 rw [yw]
 show ob (yn _ (yn _ goB) [.val (.loc n),.no] h) fnK=_
 simp_all? only [ymc,yZ (m:="row") e (by rfl'),yAC e rfl er,f5,yLa,yEi e]
 rfl
theorem yLb (e:h[n]?=some (ytQ hl w lg rows t sn sdl)) (er:rows[t]?=some (ybU r)):ybH [.loc n] h=ob (loB [.val (.loc n),.val (ybU r)] h) fnK:=by
 unfold ybH
 rw [yw]
 show ob (yn _ loB [.val (.loc n),.no] h) fnK=_
 simp_all? only [ymc,yZ (m:="row") e (by rfl'),yAC e rfl er]
abbrev M2 (m:Str) (f:Fn):XE:=yk 12 m f (yf 0) (yb (yf 1) (yj))
theorem yOa {x:PV}{s:Str}{k:Int}:goB [.val x,.val (ybU (.let_ s k))] h=ybv (M2 "go_plain" yba) [.val x,.val (ybU (.let_ s k))] h:=by kernel_rfl!
theorem yOb {x:PV}{s k:Str}:goB [.val x,.val (ybU (.put s k))] h=ybv (M2 "go_plain" yba) [.val x,.val (ybU (.put s k))] h:=by kernel_rfl!
theorem yLc {x:PV}:goB [.val x,.val (ybU .wait)] h=ybv (M2 "leave" ycy) [.val x,.val (ybU .wait)] h:=by kernel_rfl!
theorem yHr {x:PV}{s k:Str}:goB [.val x,.val (ybU (.throw s k))] h=ybv (M2 "throw" ycW) [.val x,.val (ybU (.throw s k))] h:=by kernel_rfl!
theorem yEj {x:PV}{k:Int}:goB [.val x,.val (ybU (.either k))] h=goE [.val x,.val (ybU (.either k))] h:=by kernel_rfl!
theorem yHs {x:PV}{s r:Str}{k:Int}:goB [.val x,.val (ybU (.guard s r k))] h=goE [.val x,.val (ybU (.guard s r k))] h:=by kernel_rfl!
theorem yEk {x:PV}:goB [.val x,.val (ybU .settle)] h=goS [.val x,.val (ybU .settle)] h:=by kernel_rfl!
theorem yLd {x:PV}{k:Int}:goB [.val x,.val (ybU (.jump k))] h=ybv (M2 "lead" yeN) [.val x,.val (ybU (.jump k))] h:=by kernel_rfl!
end
structure Lc where
 rn:Nat
 hl:Nat
 lg:Nat
 st:Nat
 ls:Nat
 sn:Nat
 sd:Nat
 ly:List Nat
structure RS where
 t:Nat
 hs:List Int
 sd:List (Rw×List Int)
 dd:List (List Key×List PV)
def lay:List Nat->List (List Key×List PV)->List (Nat×Nd)
 | l::ls,d::ds=>(l,.dct d.1 d.2)::lay ls ds
 | _,_=>[]
def RM (w:Int) (rows:List PV) (c:Lc) (s:RS) (rest:List (Nat×Nd)):List (Nat×Nd) :=
 (c.rn,ytQ c.hl w c.lg rows s.t c.sn c.sd)::(c.hl,.lst (s.hs.map .int))::(c.lg,.ins 11 ["stack","last_seen"] [.loc c.st,.loc c.ls])::(c.st,.lst (c.ly.map .loc))::(c.ls,.dct [] [])::(c.sn,.dct [] [])::(c.sd,.lst (s.sd.map sdV))::(lay c.ly s.dd++rest)
structure RR (w:Int) (rows:List PV) (rest:List (Nat×Nd)) (h:AH) (c:Lc) (s:RS):Prop where
 at_:At h (RM w rows c s rest)
 len:c.ly.length=s.dd.length
theorem yjQ:∀ (l m:List Nat) (d e:List (List Key×List PV)),l.length=d.length->lay (l++m) (d++e)=lay l d++lay m e
 | [],_,[],_,_=>rfl
 | a::l,m,b::d,e,h=>by
  show (a,_)::lay (l++m) (d++e)=(a,_)::(lay l d++lay m e)
  rw [yjQ l m d e (by simpa using h)]
noncomputable def okR:Rw->Bool
 | .let_ r _=>decide (r∈SL)
 | .put p r=>decide (p∈SL) && decide (r∈SL)
 | .throw _ r=>decide (r∈SL)
 | .guard _ r k=>decide (r∈SL) && decide (0<=k)
 | .either k=>decide (0<=k)
 | .jump k=>decide (0<=k)
 | _=>true
def okS (s:RS):Bool:=(s.hs.length == 8) && (s.dd.length == s.sd.length+1) && decide (s.sd.length<90) && s.sd.all (fun x=>yBv x.1 && okR x.1 && (x.2.length == 8)) && s.dd.all (fun d=>decide (d.1.length<400))
def toB:Rw->Int|.either k=>k|.guard _ _ k=>k|_=>0
def slB:Rw->Str|.guard _ r _=>r|_=>""
def yAE (dd:List (List Key×List PV)) (k v:Int):List (List Key×List PV):=match dd.getLast? with|some d=>dd.dropLast++[yfU d.1 d.2 (.inl k) (.int v)]|none=>dd
def yAF (dd:List (List Key×List PV)):List (List Key×List PV):=match dd.getLast?,dd.dropLast.getLast? with|some d,some e=>dd.dropLast.dropLast++[yuM d.1 d.2 e.1 e.2]|_,_=>dd
def ytR (s:RS) (r:Rw) (g:Rw->List Int->List Int):Option RS:=match tkL s.sd r s.sd.length with
 | 0=>none
 | L+1=>match s.sd[L]? with|some x=>some ⟨(toB x.1).toNat,g x.1 x.2,s.sd.take L,s.dd.take (L+1)⟩|none=>none
def ytb (w:Int) (r:Rw) (s:RS):Option RS:=if (okR r && okS s)=true then (match r with
 | .let_ r n=>some ⟨s.t+1,s.hs.set (sx r) n,s.sd,s.dd⟩
 | .put p r=>some ⟨s.t+1,s.hs,s.sd,yAE s.dd (s.hs.getD (sx p) 0%w) (s.hs.getD (sx r) 0)⟩
 | .either k=>some ⟨s.t+1,s.hs,s.sd++[(.either k,s.hs)],s.dd++[([],[])]⟩
 | .guard a b k=>some ⟨s.t+1,s.hs,s.sd++[(.guard a b k,s.hs)],s.dd++[([],[])]⟩
 | .settle=>if s.sd.length=0 then none else some ⟨s.t+1,s.hs,s.sd.dropLast,yAF s.dd⟩
 | .jump k=>some ⟨k.toNat,s.hs,s.sd,s.dd⟩
 | .wait=>ytR s .wait fun _ q=>q
 | .throw a b=>ytR s (.throw a b) fun x q=>q.set (sx (slB x)) (s.hs.getD (sx b) 0)
 | .lay=>none) else none
inductive En where|done (s:RS)|fell (nm:Str) (v:Int)
def yHt (w:Int) (rows:List Rw):Nat->RS->Option (Nat×En)
 | 0,_=>none
 | k+1,s=>match rows[s.t]? with
  | some .lay=>if okS s=true/\s.sd.length=0 then some (0,.done s) else none
  | some (.throw a b)=>if tkL s.sd (.throw a b) s.sd.length=0 then (if (okS s && okR (.throw a b))=true then some (0,.fell a (s.hs.getD (sx b) 0)) else none) else (match ytb w (.throw a b) s with|some s'=>(yHt w rows k s').map fun q=>(q.1+1,q.2)|none=>none)
  | some r=>(match ytb w r s with|some s'=>(yHt w rows k s').map fun q=>(q.1+1,q.2)|none=>none)
  | none=>none
def S0 (hs:List Int):RS:=⟨0,hs,[],[([],[])]⟩
section
variable {h:AH}{m:List (Nat×Nd)}
theorem At.ne (A:At h m) {i j:Nat}{p q:Nat×Nd}(hij:i<j) (e1:m[i]?=some p) (e2:m[j]?=some q):p.1≠q.1:=by
 intro z
 obtain ⟨l1,q1⟩:=List.getElem?_eq_some_iff.mp e1
 obtain ⟨l2,q2⟩:=List.getElem?_eq_some_iff.mp e2
 have:=List.pairwise_iff_getElem.mp A.1 i j (by simpa using l1) (by simpa using l2) hij
 rw [List.getElem_map,List.getElem_map,q1,q2] at this
 exact this z
theorem yrl:∀ (ly:List Nat) (dd:List (List Key×List PV)),ly.length=dd.length->(lay ly dd).length=ly.length
 | [],[],_=>rfl
 | _::ls,_::ds,e=>by show (lay ls ds).length+1=ls.length+1;rw [yrl ls ds (by simpa using e)]
theorem yIR:∀ (ly:List Nat) (dd:List (List Key×List PV)),ly.length=dd.length->(∀ p∈lay ly dd,h[p.1]?=some p.2)->Stk h ly dd
 | [],[],_,_=>trivial
 | l::ls,d::ds,e,g=>⟨g (l,.dct d.1 d.2) mem_cons_self,yIR ls ds (by simpa using e) fun p hp=>g p (mem_cons_of_mem _ hp)⟩
variable {w:Int}{rows:List PV}{rest:List (Nat×Nd)}{c:Lc}{s:RS}
theorem RR.lg (R:RR w rows rest h c s):LG h c.lg c.st c.ls c.ly s.dd [] []:=⟨R.at_.get 2 rfl,R.at_.get 3 rfl,R.at_.get 4 rfl,yIR _ _ R.len fun p hp=>R.at_.2 p (by unfold RM;simp [hp])⟩
theorem RR.run (R:RR w rows rest h c s):h[c.rn]?=some (ytQ c.hl w c.lg rows s.t c.sn c.sd):=R.at_.get 0 rfl
theorem RR.held (R:RR w rows rest h c s):h[c.hl]?=some (.lst (s.hs.map .int)):=R.at_.get 1 rfl
theorem RR.sds (R:RR w rows rest h c s):h[c.sd]?=some (.lst (s.sd.map sdV)):=R.at_.get 6 rfl
theorem RR.to (R:RR w rows rest h c s) (k:Nat):RR w rows rest (h.set c.rn (ytQ c.hl w c.lg rows k c.sn c.sd)) c { s with t:=k }:=⟨R.at_.upd (a:=[]) _,R.len⟩
theorem RR.hold (R:RR w rows rest h c s) (q:List Int):RR w rows rest (h.set c.hl (.lst (q.map .int))) c { s with hs:=q }:=⟨R.at_.upd (a:=[_]) _,R.len⟩
theorem yrm (e:okS s=true):s.hs.length=8/\s.dd.length=s.sd.length+1/\s.sd.length<90/\(∀ x∈s.sd,yBv x.1=true/\okR x.1=true/\x.2.length=8)/\∀ d∈s.dd,d.1.length<400:=by
 unfold okS at e
 simp only [and_eq_true,beq_iff_eq,decide_eq_true_eq,List.all_eq_true] at e
 obtain ⟨⟨⟨⟨e1,e2⟩,e3⟩,e4⟩,e5⟩:=e
 exact ⟨e1,e2,e3,fun x hx=>⟨(e4 x hx).1.1,(e4 x hx).1.2,(e4 x hx).2⟩,e5⟩
def dk (m:Option (PV×AH)) (ρ:PSt):Option (PV×AH):=ob (ob m fun _ h1=>some (Out.nx ρ,h1)) fnK
theorem yOc {x:PV}{r:Str}{k:Int}:yba [x,ybU (.let_ r k)] h=dk (mK 12 "hold" yeM (fun _ h1=>some ([.str r,.int k],h1)) [] x h) [.val x,.val (ybU (.let_ r k))]:=by kernel_rfl!
theorem yOd {x:PV}{p r:Str}:yba [x,ybU (.put p r)] h=dk (mK 12 "do_put" yel (fun _ h1=>some ([.str p,.str r],h1)) [] x h) [.val x,.val (ybU (.put p r))]:=by kernel_rfl!
theorem yOe {r:Str}{k:Int}(R:RR w rows rest h c s) (er:rows[s.t]?=some (ybU (.let_ r k))) (hr:r∈SL) (h8:s.hs.length=8):∃ h',yem [.loc c.rn] h=some (.non,h')/\RR w rows rest h' c ⟨s.t+1,s.hs.set (sx r) k,s.sd,s.dd⟩:=by
 have R1:=R.to (s.t+1)
 refine ⟨_,?_,R1.hold _⟩
 rw [yyU R.run er,yOa]
 show dk (mK 12 "go_plain" yba _ _ (.loc c.rn) _) _=_
 rw [yZ R1.run (by rfl')]
 show dk (yba [.loc c.rn,ybU (.let_ r k)] _) _=_
 rw [yOc,yZ R1.run (by rfl'),ycU,yEg R1.run R1.held h8 hr]
 rfl
end
section
variable {h:AH}{w:Int}{rows:List PV}{rest:List (Nat×Nd)}{c:Lc}{s:RS}
theorem yLe {k:Int}(R:RR w rows rest h c s) (er:rows[s.t]?=some (ybU (.jump k))) (hk:0<=k):∃ h',yem [.loc c.rn] h=some (.non,h')/\RR w rows rest h' c ⟨k.toNat,s.hs,s.sd,s.dd⟩:=by
 have R1:=R.to (s.t+1)
 refine ⟨_,?_,R1.to k.toNat⟩
 rw [yyU R.run er,yLd]
 show dk (mK 12 "lead" yeN _ _ (.loc c.rn) _) _=_
 rw [yZ R1.run (by rfl')]
 show dk (yeN [.loc c.rn,ybU (.jump k)] _) _=_
 rw [show ∀ x h,yeN [x,ybU (.jump k)] h=ob (fL [10,12] "at" [.val x,.val (ybU (.jump k))] (.int k) x h) fnK by intro x h;kernel_rfl!,yEi R1.run,show ((k.toNat:Nat):Int)=k by omega]
 rfl
theorem yLf (R:RR w rows rest h c s) {l:List Nat}{t:Nat}{ds:List (List Key×List PV)}{d d':List Key×List PV}(el:c.ly=l++[t]) (ed:s.dd=ds++[d]):RR w rows rest (h.set t (.dct d'.1 d'.2)) c { s with dd:=ds++[d'] }:=by
 have hl:l.length=ds.length:=by have:=R.len;rw [el,ed] at this;simpa using this
 have A:=R.at_
 refine ⟨?_,by show c.ly.length=(ds++[d']).length;rw [R.len,ed];simp⟩
 unfold RM at A ⊢
 rw [el,ed,yjQ _ _ _ _ hl] at A
 show At _ (_::_::_::_::_::_::_::(lay c.ly (ds++[d'])++rest))
 rw [el,yjQ _ _ _ _ hl,append_assoc]
 rw [append_assoc] at A
 exact A.upd (a:=_::_::_::_::_::_::_::lay l ds) (n:=t) (d:=.dct d.1 d.2) (b:=rest) (.dct d'.1 d'.2)
theorem ycI {α:Type}{xs:List α}(h:xs.length≠0):∃ a y,xs=a++[y]:=⟨xs.dropLast,xs.getLast (by intro z;rw [z] at h;exact h rfl),(List.dropLast_concat_getLast _).symm⟩
theorem yEl {p r:Str}(R:RR w rows rest h c s) (hp:p∈SL) (hr:r∈SL) (h8:s.hs.length=8) (hw:1<=w) {l:List Nat}{t:Nat}{ds:List (List Key×List PV)}{d:List Key×List PV}(el:c.ly=l++[t]) (ed:s.dd=ds++[d]) (hd:d.1.length<400) :
  yel [.loc c.rn,.str p,.str r] h=some (.non,h.set t (.dct (yfU d.1 d.2 (.inl (s.hs.getD (sx p) 0%w)) (.int (s.hs.getD (sx r) 0))).1 (yfU d.1 d.2 (.inl (s.hs.getD (sx p) 0%w)) (.int (s.hs.getD (sx r) 0))).2)):=by
 obtain ⟨f1,f2,f3,f4,f5,f6,f7⟩:=ygU R.run
 have G:=R.lg
 have hl:l.length=ds.length:=by have:=R.len;rw [el,ed] at this;simpa using this
 have ht:h[t]?=some (.dct d.1 d.2):=by
  have A:=R.at_
  unfold RM at A
  rw [el,ed,yjQ _ _ _ _ hl,append_assoc] at A
  exact A.2 (t,.dct d.1 d.2) (by simp [lay])
 have G':=G
 rw [el] at G'
 unfold yel
 rw [yw]
 show ob (ybv _ [.val (.loc c.rn),.val (.str p),.val (.str r)] h) fnK=_
 simp_all? only [f3,ymc,yZ (m:="box_at") R.run (by rfl'),yZ (m:="held_in") R.run (by rfl'),yZ (m:="write") G.ob (by rfl'),yEh R.run R.held h8 hp hw,ylg R.run R.held h8 hr,yHl G' ht (Nat.lt_trans hd (by decide))]
theorem yOf {p r:Str}(R:RR w rows rest h c s) (er:rows[s.t]?=some (ybU (.put p r))) (hp:p∈SL) (hr:r∈SL) (hw:1<=w) (ok:okS s=true):∃ h',yem [.loc c.rn] h=some (.non,h')/\RR w rows rest h' c ⟨s.t+1,s.hs,s.sd,yAE s.dd (s.hs.getD (sx p) 0%w) (s.hs.getD (sx r) 0)⟩:=by
 obtain ⟨h8,o2,o3,o4,o5⟩:=yrm ok
 have R1:=R.to (s.t+1)
 obtain ⟨ds,d,ed⟩:=ycI (xs:=s.dd) (by omega)
 obtain ⟨l,t,el⟩:=ycI (xs:=c.ly) (by have:=R.len;omega)
 have e2:=yEl R1 hp hr h8 hw el ed (o5 d (by rw [ed];simp))
 have R2:=yLf (d':=yfU d.1 d.2 (.inl (s.hs.getD (sx p) 0%w)) (.int (s.hs.getD (sx r) 0))) R1 el ed
 refine ⟨_,?_,by
  have:yAE s.dd (s.hs.getD (sx p) 0%w) (s.hs.getD (sx r) 0)=ds++[yfU d.1 d.2 (.inl (s.hs.getD (sx p) 0%w)) (.int (s.hs.getD (sx r) 0))]:=by
   unfold yAE
   rw [ed,List.getLast?_concat,List.dropLast_concat]
  rw [this]
  exact R2⟩
 rw [yyU R.run er,yOb]
 show dk (mK 12 "go_plain" yba _ _ (.loc c.rn) _) _=_
 rw [yZ R1.run (by rfl')]
 show dk (yba [.loc c.rn,ybU (.put p r)] _) _=_
 rw [yOd,yZ R1.run (by rfl'),ycU,e2]
 rfl
end
section
variable {h:AH}{w:Int}{rows:List PV}{rest:List (Nat×Nd)}{c:Lc}{s:RS}
theorem RR.side (R:RR w rows rest h c s) (q:List (Rw×List Int)):RR w rows rest (h.set c.sd (.lst (q.map sdV))) c { s with sd:=q }:=⟨R.at_.upd (a:=[_,_,_,_,_,_]) _,R.len⟩
theorem yOg {r:Rw}(R:RR w rows rest h c s) (o3:s.sd.length<90) (o2:s.dd.length=s.sd.length+1):∃ h' c',ob (goE [.val (.loc c.rn),.val (ybU r)] h) fnK=some (.non,h')/\RR w rows rest h' c' { s with sd:=s.sd++[(r,s.hs)],dd:=s.dd++[([],[])] }/\c'.rn=c.rn:=by
 obtain ⟨f1,f2,f3,f4,f5,f6,f7⟩:=ygU R.run
 have R2:=R.side (s.sd++[(r,s.hs)])
 obtain ⟨g1,g2,g3,g4,g5,g6,g7⟩:=ygU R2.run
 have G:=R2.lg
 have e1:yqJ (.loc c.sd) [.tup [ybU r,.lst (s.hs.map .int)]] h=some (.non,h.set c.sd (.lst ((s.sd++[(r,s.hs)]).map sdV))):=by
  rw [yyH R.sds (by rw [length_map];omega),map_append]
  rfl
 have e2:=yHm G (by have:=R.len;omega)
 generalize hh:h.set c.sd (.lst ((s.sd++[(r,s.hs)]).map sdV))=h2 at *
 refine ⟨(h2++[Nd.dct [] []]).set c.st (.lst ((c.ly++[h2.length]).map .loc)),{ c with ly:=c.ly++[h2.length] },?_,⟨?_,?_⟩,rfl⟩
 rotate_left
 .have A:=R2.at_
  have A1:=At.new (.dct [] []) (a:=_::_::_::_::_::_::_::lay c.ly s.dd) (b:=rest) A
  have A2:=At.upd (a:=[_,_,_]) (.lst ((c.ly++[h2.length]).map .loc)) A1
  unfold RM
  show At _ (_::_::_::_::_::_::_::(lay (c.ly++[h2.length]) (s.dd++[([],[])])++rest))
  rw [yjQ _ _ _ _ R.len,append_assoc]
  exact A2
 .show (c.ly++[h2.length]).length=(s.dd++[([],[])]).length
  rw [length_append,length_append,R.len];rfl
 unfold goE
 simp_all? only [f7,f1,ygg R.sds,yns R.held,e1,g3,ymc,yZ (m:="begin") G.ob (by rfl'),e2]
theorem yEm {n:Nat}{xs:List PV}{y:PV}(e:h[n]?=some (.lst (xs++[y]))):ylX (.loc n) [] h=some (y,h.set n (.lst xs)):=by
 unfold ylX
 simp only [e]
 have:(xs++[y])[(xs++[y]).length-1]?=some y:=by simp
 rw [this]
 simp
theorem yEn (R:RR w rows rest h c s) (ok:okS s=true) (hn:s.sd.length≠0):∃ h' c',ob (goS [.val (.loc c.rn),.val (ybU .settle)] h) fnK=some (.non,h')/\RR w rows rest h' c' { s with sd:=s.sd.dropLast,dd:=yAF s.dd }/\c'.rn=c.rn:=by
 obtain ⟨h8,o2,o3,o4,o5⟩:=yrm ok
 obtain ⟨f1,f2,f3,f4,f5,f6,f7⟩:=ygU R.run
 obtain ⟨q,x,eq⟩:=ycI hn
 obtain ⟨d1,dt,ed⟩:=ycI (xs:=s.dd) (by omega)
 obtain ⟨ds,du,ed1⟩:=ycI (xs:=d1) (by have:=congrArg length ed;simp at this;omega)
 obtain ⟨l1,t,el⟩:=ycI (xs:=c.ly) (by have:=R.len;omega)
 obtain ⟨l,u,el1⟩:=ycI (xs:=l1) (by have a:=R.len;have b:c.ly.length=l1.length+1:=(by rw [el];simp);omega)
 subst el1 ed1
 have hl:l.length=ds.length:=by have:=R.len;rw [el,ed] at this;simpa using this
 have em:yAF s.dd=ds++[yuM dt.1 dt.2 du.1 du.2]:=by
  unfold yAF
  rw [ed,List.getLast?_concat,List.dropLast_concat,List.getLast?_concat,List.dropLast_concat]
 have es:s.sd.dropLast=q:=by rw [eq,List.dropLast_concat]
 rw [em,es]
 have R2:=R.side q
 obtain ⟨g1,g2,g3,g4,g5,g6,g7⟩:=ygU R2.run
 have e1:ylX (.loc c.sd) [] h=some (sdV x,h.set c.sd (.lst (q.map sdV))):=yEm (by rw [R.sds,eq,map_append];rfl)
 have G:=R2.lg
 have A:=R2.at_
 generalize hh:h.set c.sd (.lst (q.map sdV))=h2 at *
 have hA:At h2 ((c.rn,ytQ c.hl w c.lg rows s.t c.sn c.sd)::(c.hl,.lst (s.hs.map .int))::(c.lg,.ins 11 ["stack","last_seen"] [.loc c.st,.loc c.ls])::(c.st,.lst (c.ly.map .loc))::(c.ls,.dct [] [])::(c.sn,.dct [] [])::(c.sd,.lst (q.map sdV))::(lay l ds++((u,.dct du.1 du.2)::(t,.dct dt.1 dt.2)::rest))):=by
  unfold RM at A
  have el':lay c.ly s.dd=lay l ds++[(u,.dct du.1 du.2),(t,.dct dt.1 dt.2)]:=by
   rw [el,ed,append_assoc,append_assoc,yjQ _ _ _ _ hl]
   rfl
  have:∀ z:List (Nat×Nd),(lay l ds++[(u,.dct du.1 du.2),(t,.dct dt.1 dt.2)])++z=lay l ds++((u,.dct du.1 du.2)::(t,.dct dt.1 dt.2)::z):=fun z=>by rw [append_assoc];rfl
  simpa only [el',this] using A
 have iu:(lay l ds++((u,Nd.dct du.1 du.2)::(t,.dct dt.1 dt.2)::rest))[l.length]?=some (u,.dct du.1 du.2):=by
  rw [getElem?_append_right (by rw [yrl _ _ hl];omega),yrl _ _ hl,sub_self];rfl
 have it:(lay l ds++((u,Nd.dct du.1 du.2)::(t,.dct dt.1 dt.2)::rest))[l.length+1]?=some (t,.dct dt.1 dt.2):=by
  rw [getElem?_append_right (by rw [yrl _ _ hl];omega),yrl _ _ hl,Nat.add_sub_cancel_left,List.getElem?_cons_succ,List.getElem?_cons_zero]
 have nu:=hA.ne (i:=3) (j:=7+l.length) (by omega) rfl (by rw [show 7+l.length=l.length+7 by omega];exact iu)
 have nt:=hA.ne (i:=3) (j:=7+(l.length+1)) (by omega) rfl (by rw [show 7+(l.length+1)=(l.length+1)+7 by omega];exact it)
 have nut:=hA.ne (i:=7+l.length) (j:=7+(l.length+1)) (by omega) (by rw [show 7+l.length=l.length+7 by omega];exact iu) (by rw [show 7+(l.length+1)=(l.length+1)+7 by omega];exact it)
 have G':=G
 rw [el] at G'
 have e2:=yEd G' (hA.ne (i:=2) (j:=3) (by omega) rfl rfl) (fun z=>nu z.symm) (fun z=>nt z.symm) nut (hA.get (7+l.length) (by rw [show 7+l.length=l.length+7 by omega];exact iu)) (hA.get (7+(l.length+1)) (by rw [show 7+(l.length+1)=(l.length+1)+7 by omega];exact it)) (by have a:=o5 du (by rw [ed];simp);have b:=o5 dt (by rw [ed];simp);omega)
 refine ⟨(h2.set c.st (.lst ((l++[u]).map .loc))).set u (.dct (yuM dt.1 dt.2 du.1 du.2).1 (yuM dt.1 dt.2 du.1 du.2).2),{ c with ly:=l++[u] },?_,⟨?_,by show (l++[u]).length=(ds++[yuM dt.1 dt.2 du.1 du.2]).length;simp [hl]⟩,rfl⟩
 rotate_left
 .have A1:=At.upd (a:=[_,_,_]) (.lst ((l++[u]).map .loc)) hA
  have A2:=At.upd (a:=_::_::_::_::_::_::_::lay l ds) (.dct (yuM dt.1 dt.2 du.1 du.2).1 (yuM dt.1 dt.2 du.1 du.2).2) (b:=(t,.dct dt.1 dt.2)::rest) A1
  unfold RM
  show At _ (_::_::_::_::_::_::_::(lay (l++[u]) (ds++[yuM dt.1 dt.2 du.1 du.2])++rest))
  rw [yjQ _ _ _ _ hl,append_assoc]
  exact A2.sub (((((((((List.Sublist.refl _).append (((List.sublist_cons_self _ _)).cons₂ _)).cons₂ _).cons₂ _).cons₂ _).cons₂ _).cons₂ _).cons₂ _).cons₂ _)
 unfold goS
 simp_all? only [f7,ygg R.sds,e1,g3,ymc,yZ (m:="settle") G.ob (by rfl'),e2]
end
section
variable {w:Int}{rows:List PV}{rest:List (Nat×Nd)}
theorem yHu {h:AH}{c:Lc}{s:RS}(R:RR w rows rest h c s) {l:List Nat}{t:Nat}{ds:List (List Key×List PV)}{d:List Key×List PV}(el:c.ly=l++[t]) (ed:s.dd=ds++[d]):RR w rows rest (h.set c.st (.lst (l.map .loc))) { c with ly:=l } { s with dd:=ds }:=by
 have hl:l.length=ds.length:=by have:=R.len;rw [el,ed] at this;simpa using this
 refine ⟨?_,hl⟩
 have A:=At.upd (a:=[_,_,_]) (.lst (l.map .loc)) R.at_
 unfold RM
 rw [el,ed,yjQ _ _ _ _ hl,append_assoc] at A
 exact A.sub (((((((((List.Sublist.refl _).append (List.sublist_cons_self _ _)).cons₂ _).cons₂ _).cons₂ _).cons₂ _).cons₂ _).cons₂ _).cons₂ _)
abbrev lvC:XT:=(yo (xOp (oGe) (xCB (yej) (yb (ybk [12] "sides" (yf 0)) (yj))) (yf 2)))
abbrev lvB:XS:=(yn (ybv (xBM yjw (ylX) (ybk [12] "sides" (yf 0)) (yj))) (ybv (yk 11 "drop" yih (ybk [12] "log" (yf 0)) (yj))))
theorem ySp {L rn:Nat}{v1 v3:PV}{p4:PVar}:∀ (k f:Nat) (h:AH) (c:Lc) (s:RS),RR w rows rest h c s->c.rn=rn->s.sd.length=L+k->s.dd.length=s.sd.length+1->k<f ->
  ∃ h' c',whl lvC lvB f [.val (.loc rn),.val v1,.val (.int ((L+1:Nat):Int)),.val v3,p4] h=some (.nx [.val (.loc rn),.val v1,.val (.int ((L+1:Nat):Int)),.val v3,p4],h')/\RR w rows rest h' c' { s with sd:=s.sd.take L,dd:=s.dd.take (L+1) }/\c'.rn=rn:=by
 intro k
 induction k with
 | zero =>
  intro f h c s R hn hs hd hf
  obtain ⟨f,rfl⟩:∃ g,f=g+1:=⟨f-1,by omega⟩
  subst hn
  obtain ⟨f1,f2,f3,f4,f5,f6,f7⟩:=ygU R.run
  refine ⟨h,c,?_,by rw [List.take_of_length_le (by omega),List.take_of_length_le (by omega)];exact R,rfl⟩
  have ec:lvC [.val (.loc c.rn),.val v1,.val (.int ((L+1:Nat):Int)),.val v3,p4] h=some (false,h):=by
   have l1:yej [.loc c.sd] h=some (.int s.sd.length,h):=by rw [yuJ R.sds,length_map]
   have l2:oGe (.int (s.sd.length:Nat)) (.int ((L+1:Nat):Int)) h=some (.bl false,h):=by
    show some (PV.bl (decide (((L+1:Nat):Int)<=(s.sd.length:Nat))),h)=_
    rw [decide_eq_false (by omega)]
   simp_all? only [f7,l1,l2]
  rw [yHp,ec]
  rfl
 | succ k ih =>
  intro f h c s R hn hs hd hf
  obtain ⟨f,rfl⟩:∃ g,f=g+1:=⟨f-1,by omega⟩
  subst hn
  obtain ⟨f1,f2,f3,f4,f5,f6,f7⟩:=ygU R.run
  obtain ⟨q,x,eq⟩:=ycI (xs:=s.sd) (by omega)
  obtain ⟨ds,d,ed⟩:=ycI (xs:=s.dd) (by omega)
  obtain ⟨l,t,el⟩:=ycI (xs:=c.ly) (by have:=R.len;omega)
  have lq:s.sd.length=q.length+1:=by rw [eq];simp
  have ld:s.dd.length=ds.length+1:=by rw [ed];simp
  have R2:=R.side q
  have e1:ylX (.loc c.sd) [] h=some (sdV x,h.set c.sd (.lst (q.map sdV))):=yEm (by rw [R.sds,eq,map_append];rfl)
  have ec:lvC [.val (.loc c.rn),.val v1,.val (.int ((L+1:Nat):Int)),.val v3,p4] h=some (true,h):=by
   have l1:yej [.loc c.sd] h=some (.int s.sd.length,h):=by rw [yuJ R.sds,length_map]
   have l2:oGe (.int (s.sd.length:Nat)) (.int ((L+1:Nat):Int)) h=some (.bl true,h):=by
    show some (PV.bl (decide (((L+1:Nat):Int)<=(s.sd.length:Nat))),h)=_
    rw [decide_eq_true (by omega)]
   simp_all? only [f7,l1,l2]
  obtain ⟨g1,g2,g3,g4,g5,g6,g7⟩:=ygU R2.run
  have G:=R2.lg
  have G':=G
  rw [el] at G'
  have e2:=yKZ G'
  have R3:=yHu R2 el ed
  have eb:lvB [.val (.loc c.rn),.val v1,.val (.int ((L+1:Nat):Int)),.val v3,p4] h=some (.nx [.val (.loc c.rn),.val v1,.val (.int ((L+1:Nat):Int)),.val v3,p4],(h.set c.sd (.lst (q.map sdV))).set c.st (.lst (l.map .loc))):=by
   generalize h.set c.sd (.lst (q.map sdV))=h2 at *
   simp_all? only [f7,ygg R.sds,e1,g3,ymc,yZ (m:="drop") G.ob (by rfl'),e2]
  obtain ⟨h',c',q1,q2,q3⟩:=ih f _ _ _ R3 rfl (by show q.length=L+k;omega) (by show ds.length=q.length+1;omega) (by omega)
  refine ⟨h',c',?_,?_,q3⟩
  .rw [yHp,ec,ycU,if_pos rfl,eb,ycU]
   exact q1
  .rw [eq,ed,List.take_append_of_le_length (by omega),List.take_append_of_le_length (by omega)]
   exact q2
end
section
variable {h:AH}{w:Int}{rows:List PV}{rest:List (Nat×Nd)}{c:Lc}{s:RS}
theorem RR.newh (R:RR w rows rest h c s) (q:List Int):RR w rows rest ((h++[Nd.lst (q.map .int)]).set c.rn (ytQ h.length w c.lg rows s.t c.sn c.sd)) { c with hl:=h.length } { s with hs:=q }:=by
 refine ⟨?_,R.len⟩
 have A:=At.new (.lst (q.map .int)) (a:=[_]) R.at_
 have A1:=At.upd (a:=[]) (ytQ h.length w c.lg rows s.t c.sn c.sd) A
 exact A1.sub ((List.Sublist.cons _ (List.Sublist.refl _)).cons₂ _ |>.cons₂ _)
theorem yOh {b:Rw}(hb:yBv b=true):ybl (ybU b) (.int (-1)) h=some (.int (toB b),h):=by
 cases b<;>first|(cases hb;done)|kernel_rfl!
theorem yAG {r:Rw}{L:Nat}{x:Rw×List Int}(R:RR w rows rest h c s) (ok:okS s=true) (hr:yHn r=true) (hL:tkL s.sd r s.sd.length=L+1) (hx:s.sd[L]?=some x) :
  ∃ h' c',ycy [.loc c.rn,ybU r] h=some (ybU x.1,h')/\RR w rows rest h' c' ⟨(toB x.1).toNat,x.2,s.sd.take L,s.dd.take (L+1)⟩/\c'.rn=c.rn:=by
 obtain ⟨h8,o2,o3,o4,o5⟩:=yrm ok
 obtain ⟨f1,f2,f3,f4,f5,f6,f7⟩:=ygU R.run
 have hlt:L<s.sd.length:=(List.getElem?_eq_some_iff.mp hx).1
 obtain ⟨b1,b2,b3⟩:=o4 x (mem_of_getElem? hx)
 obtain ⟨h1,c1,q1,R1,q3⟩:=ySp (v1:=ybU r) (v3:=sdV x) (p4:=.no) (L:=L) (s.sd.length-L) 1000 h c s R rfl (by omega) o2 (by omega)
 have q1:ylo 1000 lvC lvB [.val (.loc c.rn),.val (ybU r),.val (.int ((L+1:Nat):Int)),.val (sdV x),.no] h=_:=q1
 have k0:0<=toB x.1:=by
  revert b1 b2
  cases x.1<;>simp [yBv,okR,toB]
 have R2:=R1.newh x.2
 rw [q3] at R2
 have R3:=R2.to (toB x.1).toNat
 refine ⟨_,_,?_,R3,rfl⟩
 have i1:ybC (.loc c.sd) (.int (((L+1:Nat):Int)-1)) h=some (sdV x,h):=by
  unfold ybC
  simp only [R.sds]
  rw [show ((L+1:Nat):Int)-1=(L:Nat) by omega,ydL (by rw [getElem?_map,hx];rfl)]
 have i2:∀ h,ybl (sdV x) (.int 0) h=some (ybU x.1,h):=fun _=>rfl
 have i3:∀ h,ybl (sdV x) (.int 1) h=some (.lst (x.2.map .int),h):=fun _=>rfl
 have i4:=yAD R.run R.sds (fun x hx=>(o4 x hx).1) hr (by omega)
 rw [hL] at i4
 have e1:(h1++[Nd.lst (x.2.map .int)])[c.rn]?=some (ytQ c1.hl w c1.lg rows s.t c1.sn c1.sd):=by
  rw [<- q3,getElem?_append_left (List.getElem?_eq_some_iff.mp R1.run).1];exact R1.run
 have e2:=yHq (j:=h1.length) (ρ:=[.val (.loc c.rn),.val (ybU r),.val (.int ((L+1:Nat):Int)),.val (sdV x),.val (ybU x.1)]) e1
 have e3:=yEi (j:=toB x.1) (ρ:=[.val (.loc c.rn),.val (ybU r),.val (.int ((L+1:Nat):Int)),.val (sdV x),.val (ybU x.1)]) R2.run
 have i5:=fun h=>yOh (h:=h) b1
 unfold ycy
 rw [yw]
 show ob (yn _ (yn _ (yn (ylo 1000 lvC lvB) _)) [.val (.loc c.rn),.val (ybU r),.no,.no,.no] h) fnK=_
 simp_all? only [ymc,yZ (m:="taker_layer") R.run (by rfl'),i4,f7,i1,q1,i2,i3,yLa,e2,i5,e3]
 rw [show (((toB x.1).toNat:Nat):Int)=toB x.1 by omega]
theorem yLg {L:Nat}{x:Rw×List Int}(R:RR w rows rest h c s) (er:rows[s.t]?=some (ybU .wait)) (ok:okS s=true) (hL:tkL s.sd .wait s.sd.length=L+1) (hx:s.sd[L]?=some x) :
  ∃ h' c',yem [.loc c.rn] h=some (.non,h')/\RR w rows rest h' c' ⟨(toB x.1).toNat,x.2,s.sd.take L,s.dd.take (L+1)⟩/\c'.rn=c.rn:=by
 have R1:=R.to (s.t+1)
 obtain ⟨h',c',q1,q2,q3⟩:=yAG (r:=.wait) R1 ok rfl hL hx
 refine ⟨h',c',?_,q2,q3⟩
 rw [yyU R.run er,yLc]
 show dk (mK 12 "leave" ycy _ _ (.loc c.rn) _) _=_
 rw [yZ R1.run (by rfl')]
 show dk (ycy [.loc c.rn,ybU .wait] _) _=_
 rw [q1]
 rfl
theorem yHv {L:Nat}{x:Rw×List Int}{a b:Str}(R:RR w rows rest h c s) (er:rows[s.t]?=some (ybU (.throw a b))) (hb:b∈SL) (ok:okS s=true) (hL:tkL s.sd (.throw a b) s.sd.length=L+1) (hx:s.sd[L]?=some x) (hg:ypp x.1 (.throw a b)=true) :
  ∃ h' c',yem [.loc c.rn] h=some (.non,h')/\RR w rows rest h' c' ⟨(toB x.1).toNat,x.2.set (sx (slB x.1)) (s.hs.getD (sx b) 0),s.sd.take L,s.dd.take (L+1)⟩/\c'.rn=c.rn:=by
 have R1:=R.to (s.t+1)
 obtain ⟨h8,o2,o3,o4,o5⟩:=yrm ok
 obtain ⟨b1,b2,b3⟩:=o4 x (mem_of_getElem? hx)
 obtain ⟨h',c',q1,q2,q3⟩:=yAG (r:=.throw a b) R1 ok rfl hL hx
 obtain ⟨nm,rr,k,ex⟩:∃ nm rr k,x.1=.guard nm rr k:=by
  revert hg
  cases x.1<;>first|(intro hg;cases hg;done)|exact fun _=>⟨_,_,_,rfl⟩
 have hs:rr∈SL:=by
  rw [ex] at b2
  unfold okR at b2
  simp only [and_eq_true,decide_eq_true_eq] at b2
  exact b2.1
 have e4:=yEg (v:=s.hs.getD (sx b) 0) q2.run q2.held b3 hs
 rw [ex] at q1 q2 e4 ⊢
 refine ⟨_,c',?_,q2.hold _,q3⟩
 have e1:=ylg R1.run R1.held h8 hb
 have i1:∀ h,ybl (ybU (.throw a b)) (.int 2) h=some (.str b,h):=fun _=>rfl
 have i2:∀ h,ybl (ybU (.guard nm rr k)) (.int 2) h=some (.str rr,h):=fun _=>rfl
 have r2:=q2.run
 rw [q3] at r2 e4
 rw [yyU R.run er,yHr]
 show dk (mK 12 "throw" ycW _ _ (.loc c.rn) _) _=_
 rw [yZ R1.run (by rfl')]
 show dk (ycW [.loc c.rn,ybU (.throw a b)] _) _=_
 have:ycW [.loc c.rn,ybU (.throw a b)] (h.set c.rn (ytQ c.hl w c.lg rows (s.t+1:Nat) c.sn c.sd))=some (.non,h'.set c'.hl (.lst ((x.2.set (sx rr) (s.hs.getD (sx b) 0)).map .int))):=by
  unfold ycW
  rw [yw]
  show ob (yn _ _ [.val (.loc c.rn),.val (ybU (.throw a b)),.no,.no] _) fnK=_
  simp_all? only [ymc,yZ (m:="held_in") R1.run (by rfl'),yZ (m:="leave") R1.run (by rfl'),yZ (m:="hold") r2 (by rfl'),i1,i2,e1,q1,e4]
 rw [this]
 rfl
end
section
variable {h:AH}{w:Int}{rows:List PV}{rest:List (Nat×Nd)}{c:Lc}{s s':RS}{r:Rw}
theorem yAH {sd:List (Rw×List Int)}:∀ {k L:Nat},tkL sd r k=L+1->∃ x,sd[L]?=some x/\ypp x.1 r=true
 | k+1,L,e=>by
  unfold tkL at e
  split at e
  .rename_i x hx
   split at e
   .rename_i ht
    cases e
    exact ⟨x,hx,ht⟩
   .exact yAH e
  .cases e
theorem yLh (R:RR w rows rest h c s) (er:rows[s.t]?=some (ybU r)) (hw:1<=w) (e:ytb w r s=some s'):∃ h' c',yem [.loc c.rn] h=some (.non,h')/\RR w rows rest h' c' s'/\c'.rn=c.rn:=by
 unfold ytb at e
 split at e
 .rename_i hok
  obtain ⟨k1,ok⟩:=Bool.and_eq_true_iff.mp hok
  obtain ⟨h8,o2,o3,o4,o5⟩:=yrm ok
  have bg:∀ b:Rw,(∀ x h,goB [.val x,.val (ybU b)] h=goE [.val x,.val (ybU b)] h)->rows[s.t]?=some (ybU b)->∃ h' c',yem [.loc c.rn] h=some (.non,h')/\RR w rows rest h' c' ⟨s.t+1,s.hs,s.sd++[(b,s.hs)],s.dd++[([],[])]⟩/\c'.rn=c.rn:=fun b hb er=>by
   obtain ⟨h',c',q1,q2,q3⟩:=yOg (r:=b) (R.to (s.t+1)) o3 o2
   exact ⟨h',c',by rw [yyU R.run er,hb,q1],q2,q3⟩
  cases r with
  | let_ a n =>
   cases e
   obtain ⟨h',q1,q2⟩:=yOe R er (by simpa [okR] using k1) h8
   exact ⟨h',c,q1,q2,rfl⟩
  | put p a =>
   cases e
   obtain ⟨k2,k3⟩:p∈SL/\a∈SL:=by simpa [okR] using k1
   obtain ⟨h',q1,q2⟩:=yOf R er k2 k3 hw ok
   exact ⟨h',c,q1,q2,rfl⟩
  | jump k =>
   cases e
   obtain ⟨h',q1,q2⟩:=yLe R er (by simpa [okR] using k1)
   exact ⟨h',c,q1,q2,rfl⟩
  | either k=>cases e;exact bg _ (fun _ _=>yEj) er
  | guard a b k=>cases e;exact bg _ (fun _ _=>yHs) er
  | settle =>
   dsimp only at e
   split at e
   .cases e
   .rename_i hn
    cases e
    obtain ⟨h',c',q1,q2,q3⟩:=yEn (R.to (s.t+1)) ok hn
    exact ⟨h',c',by rw [yyU R.run er,yEk,q1],q2,q3⟩
  | lay=>cases e
  | wait =>
   dsimp only at e
   unfold ytR at e
   split at e
   .cases e
   .rename_i L hL
    split at e
    .rename_i x hx
     cases e
     exact yLg R er ok hL hx
    .cases e
  | throw a b =>
   dsimp only at e
   unfold ytR at e
   split at e
   .cases e
   .rename_i L hL
    split at e
    .rename_i x hx
     cases e
     obtain ⟨y,hy,ht⟩:=yAH hL
     rw [hx] at hy
     cases hy
     exact yHv R er (by simpa [okR] using k1) ok hL hx ht
    .cases e
 .cases e
def yHw (s:RS):Rw->Bool
 | .wait=>decide (((tkL s.sd .wait s.sd.length:Nat):Int)=0)
 | .throw a b=>decide (((tkL s.sd (.throw a b) s.sd.length:Nat):Int)=0)
 | .lay=>true
 | _=>false
theorem yEo (R:RR w rows rest h c s) (er:rows[s.t]?=some (ybU r)) (ok:okS s=true):ybH [.loc c.rn] h=some (.bl (yHw s r),h):=by
 obtain ⟨h8,o2,o3,o4,o5⟩:=yrm ok
 rw [yLb R.run er]
 have tk:∀ b:Rw,yHn b=true->loB [.val (.loc c.rn),.val (ybU b)] h=ob (yS (xOp (oEq) (M2 "taker_layer" ybi) (xC (.int 0))) [.val (.loc c.rn),.val (ybU b)] h) (sqK (yS (xOp (oEq) (xOp (ybl) (yf 1) (xC (.int 0))) (xC (.str "lay")))))->ob (loB [.val (.loc c.rn),.val (ybU b)] h) fnK=some (.bl (decide (((tkL s.sd b s.sd.length:Nat):Int)=0)),h):=fun b hb e=>by
  rw [e]
  show ob (ob (yS (xOp oEq (yk 12 "taker_layer" ybi (yf 0) (yb (yf 1) (yj))) (xC (.int 0))) [.val (.loc c.rn),.val (ybU b)] h) _) fnK=_
  simp_all? only [ymc,yZ (m:="taker_layer") R.run (by rfl'),yAD R.run R.sds (fun x hx=>(o4 x hx).1) hb (by omega)]
 cases r with
 | wait=>exact tk .wait rfl (by kernel_rfl!)
 | throw a b=>exact tk (.throw a b) rfl (by kernel_rfl!)
 | _=>kernel_rfl!
theorem yHx {ma:Nat}(R:RR w rows rest h c s):ydC [.loc c.rn,.loc ma] h=some (.bl false,h.set c.sn (.fz [] [])):=by
 obtain ⟨f1,f2,f3,f4,f5,f6,f7⟩:=ygU R.run
 have e:h[c.sn]?=some (.dct [] []):=R.at_.get 5 rfl
 unfold ydC
 rw [yw]
 show ob (yS _ [.val (.loc c.rn),.val (.loc ma)] h) fnK=_
 simp_all? only [ySe,f6]
 simp only [e]
 rfl
end
structure HC where
 H:Nat
 nu:Nat
 ma:Nat
 cr:Nat
 en:Nat
 hd:Nat
structure HQ where
 bx:List Int
 sp:List Int
 en:List PV
 ds:List PV
 nth:Nat
 bf:List Int
def HL (g:HC) (rn:Nat) (w:Int) (q:HQ) (own:List (Nat×Nd)):List (Nat×Nd) :=
 (g.H,yEe g.nu g.ma g.cr g.en)::(g.nu,.lst (q.bx.map .int))::(g.ma,.lst (q.sp.map .int))::(g.cr,.lst [.loc g.hd])::(g.en,.lst q.en)::(g.hd,ynF q.ds w q.nth q.bf rn)::own
section
variable {h:AH}{w:Int}{rows:List PV}{c:Lc}{s s':RS}{r:Rw}{g:HC}{q:HQ}{own:List (Nat×Nd)}{rn:Nat}
theorem RR.rest {m:List (Nat×Nd)}(R:RR w rows m h c s):At h m:=by
 have A:=R.at_
 unfold RM at A
 exact (At.sub A (List.sublist_append_right (_::_::_::_::_::_::_::lay c.ly s.dd) m))
theorem yim (A:At h (HL g rn w q own)):yck [.loc g.H,.int 0] h=some (.loc g.hd,h):=by
 obtain ⟨f1,f2,f3,f4⟩:=yjO (A.get 0 rfl)
 have e:h[g.cr]?=some (.lst [.loc g.hd]):=A.get 3 rfl
 have i1:yii [.int 0] h=some (.bl true,h):=by kernel_rfl!
 have i2:ybC (.loc g.cr) (.int 0) h=some (.loc g.hd,h):=by unfold ybC;simp only [e];rfl
 unfold yck
 rw [yw]
 show ob (yn _ _ [.val (.loc g.H),.val (.int 0)] h) fnK=_
 simp_all? only [f3,yuJ e,i1,i2]
 rfl
theorem yqu (A:At h (HL g rn w q own)) (hn:q.nth<=q.ds.length):yed [.loc g.hd] h=some (.str (if q.nth=q.ds.length then "ended" else "awake"),h):=by
 obtain ⟨f1,f2,f3,f4,f5,f6⟩:=yjP (A.get 5 rfl)
 unfold yed
 rw [yw]
 show ob (yn _ _ [.val (.loc g.hd)] h) fnK=_
 by_cases e:q.nth=q.ds.length
 .have e':((q.nth:Nat):Int)=(q.ds.length:Nat):=by omega
  rw [if_pos e]
  simp_all? only [f3,f1,e']
 .have e':(((q.nth:Nat):Int)=(q.ds.length:Nat))=False:=eq_false (by omega)
  rw [if_neg e]
  simp_all? only [f3,f1,f4,e']
theorem yEp (R:RR w rows (HL g c.rn w q own) h c s) (er:rows[s.t]?=some (ybU r)) (hw:1<=w) (hn:q.nth<q.ds.length) (ok:okS s=true) (hlk:yHw s r=false) (e:ytb w r s=some s') :
  ∃ h' c',ybS [.loc g.H,.int 0] h=some (.tup [.str "gone",.int s.t],h')/\RR w rows (HL g c'.rn w q own) h' c' s':=by
 obtain ⟨h',c',q1,q2,q3⟩:=yLh R er hw e
 refine ⟨h',c',?_,by rw [q3];exact q2⟩
 have A:=R.rest
 obtain ⟨f1,f2,f3,f4,f5,f6⟩:=yjP (A.get 5 rfl)
 obtain ⟨k1,k2,k3,k4,k5,k6,k7⟩:=ygU R.run
 have st:=yqu A (le_of_lt hn)
 rw [if_neg (by omega)] at st
 have lk:=yEo R er ok
 rw [hlk] at lk
 unfold ybS
 rw [yw]
 show ob (yn _ _ [.val (.loc g.H),.val (.int 0),.no,.no] h) fnK=_
 simp_all? only [ymc,yZ (m:="hand_at") (A.get 0 rfl) (by rfl'),yim A,yZ (m:="state") (A.get 5 rfl) (by rfl'),st,f6,k5,yZ (m:="is_looked_over") R.run (by rfl'),lk,yZ (m:="go") R.run (by rfl'),q1]
end
section
variable {h:AH}{w:Int}{rows:List PV}{c:Lc}{s s':RS}{r:Rw}{g:HC}{q:HQ}{own:List (Nat×Nd)}{rn:Nat}
def hp1 (h:AH) (bf:List Int):AH:=h++[Nd.lst (bf.map .int)]
def hp2 (h:AH) (bf:List Int):AH:=hp1 h bf++[Nd.dct [] []]
def hp3 (h:AH) (bf:List Int):AH:=hp2 h bf++[Nd.lst [.loc (hp1 h bf).length]]
def hp4 (h:AH) (bf:List Int):AH:=hp3 h bf++[Nd.dct [] []]
noncomputable def hp5 (h:AH) (bf:List Int):AH:=hp4 h bf++[Nd.ins 11 ["stack","last_seen"] [.loc (hp2 h bf).length,.loc (hp3 h bf).length]]
def hp6 (h:AH) (bf:List Int):AH:=hp5 h bf++[Nd.dct [] []]
def hp7 (h:AH) (bf:List Int):AH:=hp6 h bf++[Nd.lst []]
theorem yHy {bf:List Int}:∃ h' c',ob (yhn [.lst rows,.lst (bf.map .int),.int w] h) (fun d h1=>some (PV.loc h1.length,h1++[d]))=some (.loc c'.rn,h')/\∀ m,At h m->RR w rows m h' c' (S0 bf):=by
 refine ⟨_,⟨(hp7 h bf).length,h.length,(hp4 h bf).length,(hp2 h bf).length,(hp3 h bf).length,(hp5 h bf).length,(hp6 h bf).length,[(hp1 h bf).length]⟩,rfl,fun m A=>⟨?_,rfl⟩⟩
 have A2:=At.new (.dct [] []) (a:=[_]) (At.new (.lst (bf.map .int)) (a:=[]) A)
 have A4:=At.new (.dct [] []) (a:=[_,_]) (At.new (.lst [.loc (hp1 h bf).length]) (a:=[_]) A2)
 have A5:=At.new (.ins 11 ["stack","last_seen"] [.loc (hp2 h bf).length,.loc (hp3 h bf).length]) (a:=[_]) A4
 exact At.new _ (a:=[]) (At.new (.lst []) (a:=[_,_,_,_,_]) (At.new (.dct [] []) (a:=[_,_,_,_]) A5))
theorem RR.sub {m m':List (Nat×Nd)}(R:RR w rows m h c s) (u:m'.Sublist m):RR w rows m' h c s:=by
 refine ⟨?_,R.len⟩
 have A:=R.at_
 unfold RM at A ⊢
 exact A.sub ((((((((List.Sublist.refl _).append u).cons₂ _).cons₂ _).cons₂ _).cons₂ _).cons₂ _).cons₂ _ |>.cons₂ _)
theorem RR.urest {a b:List (Nat×Nd)}{n:Nat}{d:Nd}(d':Nd) (R:RR w rows (a++(n,d)::b) h c s):RR w rows (a++(n,d')::b) (h.set n d') c s:=by
 refine ⟨?_,R.len⟩
 have A:=R.at_
 unfold RM at A ⊢
 rw [<- append_assoc] at A ⊢
 exact At.upd (a:=_::_::_::_::_::_::_::(lay c.ly s.dd++a)) d' A
theorem yHz {n:Nat}{ds:List PV}{w nth v:Int}{bf:List Int}{rn:Nat}{ρ:PSt}(e:h[n]?=some (ynF ds w nth bf rn)):fL [14] "nth" ρ (.int v) (.loc n) h=some (.nx ρ,h.set n (ynF ds w v bf rn)):=ymd e (by decide) (by kernel_rfl!)
theorem yLi {n:Nat}{ds:List PV}{w nth:Int}{bf v:List Int}{rn:Nat}{ρ:PSt}(e:h[n]?=some (ynF ds w nth bf rn)):fL [14] "before" ρ (.lst (v.map .int)) (.loc n) h=some (.nx ρ,h.set n (ynF ds w nth v rn)):=ymd e (by decide) (by kernel_rfl!)
theorem yLj {n:Nat}{ds:List PV}{w nth:Int}{bf:List Int}{rn v:Nat}{ρ:PSt}(e:h[n]?=some (ynF ds w nth bf rn)):fL [14] "run" ρ (.loc v) (.loc n) h=some (.nx ρ,h.set n (ynF ds w nth bf v)):=ymd e (by decide) (by kernel_rfl!)
theorem ytS {n:Nat}{ds:List PV}{nth:Nat}{bf:List Int}(f1:yib [14] "deeds" (.loc n) h=some (.lst ds,h)) (f2:yib [12,14] "width" (.loc n) h=some (.int w,h)) (f3:yib [14] "nth" (.loc n) h=some (.int nth,h)) (f5:yib [14] "before" (.loc n) h=some (.lst (bf.map .int),h)) (hr:nth<ds.length/\ds[nth]?=some (.lst rows)\/nth=ds.length/\rows=[]):∃ h' c',ydD [.loc n] h=some (.loc c'.rn,h')/\∀ m,At h m->RR w rows m h' c' (S0 bf):=by
 obtain ⟨h',c',q1,q2⟩:=yHy (h:=h) (w:=w) (rows:=rows) (bf:=bf)
 refine ⟨h',c',?_,q2⟩
 unfold ydD
 rw [yw]
 show ob (yn _ _ [.val (.loc n),.no] h) fnK=_
 rcases hr with ⟨h1,h2⟩|⟨h1,h2⟩
 .have e1:(((nth:Nat):Int)<(ds.length:Nat))=True:=eq_true (by omega)
  have e2:ybC (.lst ds) (.int (nth:Nat)) h=some (.lst rows,h):=by unfold ybC;simp only [ydL h2]
  simp_all? only [f3,f1,f5,f2,e1,e2,q1]
 .have e1:(((nth:Nat):Int)<(ds.length:Nat))=False:=eq_false (by omega)
  subst h2
  simp_all? only [f3,f1,f5,f2,e1,q1]
theorem yHA {v:PV}{bf:List Int}(A:At h (HL g rn w q own)) (hb:∀ h1,At h1 (HL g rn w { q with nth:=q.nth+1 } own)->yT [v] h1=some (.lst (bf.map .int),h1)) (hr:q.nth+1<q.ds.length/\q.ds[q.nth+1]?=some (.lst rows)\/q.nth+1=q.ds.length/\rows=[]) :
  ∃ h' c',ygZ [.loc g.hd,v] h=some (.non,h')/\RR w rows (HL g c'.rn w { q with nth:=q.nth+1,bf:=bf } own) h' c' (S0 bf):=by
 obtain ⟨f1,f2,f3,f4,f5,f6⟩:=yjP (A.get 5 rfl)
 have A1:At (h.set g.hd (ynF q.ds w (q.nth+1:Nat) q.bf rn)) (HL g rn w { q with nth:=q.nth+1 } own):=At.upd (a:=[_,_,_,_,_]) _ A
 have A2:At ((h.set g.hd (ynF q.ds w (q.nth+1:Nat) q.bf rn)).set g.hd (ynF q.ds w (q.nth+1:Nat) bf rn)) (HL g rn w { q with nth:=q.nth+1,bf:=bf } own):=At.upd (a:=[_,_,_,_,_]) _ A1
 have s1:=fun ρ=>yHz (ρ:=ρ) (v:=((q.nth+1:Nat):Int)) (A.get 5 rfl)
 have s2:=fun ρ=>yLi (ρ:=ρ) (v:=bf) (A1.get 5 rfl)
 have b1:=hb _ A1
 obtain ⟨a1,a2,a3,a4,a5,a6⟩:=yjP (A2.get 5 rfl)
 obtain ⟨h',c',q1,q2⟩:=ytS a1 a2 a3 a5 hr
 have R:=q2 _ A2
 have B:=R.rest
 have s3:=fun ρ=>yLj (ρ:=ρ) (v:=c'.rn) (B.get 5 rfl)
 refine ⟨h'.set g.hd (ynF q.ds w (q.nth+1:Nat) bf c'.rn),c',?_,RR.urest (a:=[_,_,_,_,_]) _ R⟩
 have z:((q.nth:Nat):Int)+1=((q.nth+1:Nat):Int):=by omega
 unfold ygZ
 rw [yw]
 show ob (yn _ _ [.val (.loc g.hd),.val v] h) fnK=_
 simp_all? only [yLa,ymc,f3,z,s1,s2,b1,yZ (m:="new_run") (A2.get 5 rfl) (by rfl'),q1,s3]
end
section
variable {h:AH}{w:Int}{rows rows':List PV}{c:Lc}{s s':RS}{r:Rw}{g:HC}{q:HQ}{own:List (Nat×Nd)}{rn:Nat}
def EX (c:Lc) (w:Int) (rows:List PV) (s:RS):List (Nat×Nd):=(c.rn,ytQ c.hl w c.lg rows s.t c.sn c.sd)::(c.hl,.lst (s.hs.map .int))::(c.lg,.ins 11 ["stack","last_seen"] [.loc c.st,.loc c.ls])::(c.st,.lst (c.ly.map .loc))::(c.ls,.dct [] [])::lay c.ly s.dd
theorem yuZ (R:RR w rows (HL g c.rn w q own) h c s):At (h.set c.sn (.fz [] [])) (HL g c.rn w q (EX c w rows s++own)):=by
 have A:=At.upd (a:=[_,_,_,_,_]) (.fz [] []) R.at_
 have A1:At (h.set c.sn (.fz [] [])) (EX c w rows s++(HL g c.rn w q []++own)):=A.sub ((((((List.Sublist.refl _).cons _).cons _).cons₂ _).cons₂ _).cons₂ _ |>.cons₂ _ |>.cons₂ _)
 exact A1.perm (show (HL g c.rn w q []++(EX c w rows s++own)).Perm _ from List.perm_append_comm_assoc _ _ _)
theorem yOi (A:At h (HL g c.rn w q (EX c w rows s++own))):ynx [.loc c.lg] h=some (.lst [],h):=by
 have e1:=yKY (A.get 8 rfl)
 have e2:h[c.ls]?=some (.dct [] []):=A.get 10 rfl
 unfold ynx
 rw [yw,yKi,yPu]
 unfold ytD
 rw [yyD,show yf 0 ([PV.loc c.lg].map .val++replicate (1-[PV.loc c.lg].length) .no) h=some (.loc c.lg,h) from rfl,ycU,e1,ycU]
 unfold ywv
 simp only [e2]
 rfl
theorem yrn {en v:PV}{laid:List PV}{bf:List Int}(A:At h (HL g c.rn w q (EX c w rows s++own))) (hb:∀ h1 q',At h1 (HL g c.rn w q' (EX c w rows s++own))->yT [v] h1=some (.lst (bf.map .int),h1)) (hr:q.nth+1<q.ds.length/\q.ds[q.nth+1]?=some (.lst rows')\/q.nth+1=q.ds.length/\rows'=[]) (hl:q.en.length<1000) :
  ∃ h' c',yda [.loc g.H,.int 0,en,.lst laid,v] h=some (.non,h')/\RR w rows' (HL g c'.rn w { q with en:=q.en++[.tup [.int 0,.int q.nth,en,.lst [],.lst laid,.lst (bf.map .int)]],nth:=q.nth+1,bf:=bf } own) h' c' (S0 bf):=by
 obtain ⟨f1,f2,f3,f4⟩:=yjO (A.get 0 rfl)
 obtain ⟨k1,k2,k3,k4,k5,k6⟩:=yjP (A.get 5 rfl)
 obtain ⟨r1,r2,r3,r4,r5,r6,r7⟩:=ygU (A.get 6 rfl)
 have ec:h[g.cr]?=some (.lst [.loc g.hd]):=A.get 3 rfl
 have i2:ybC (.loc g.cr) (.int 0) h=some (.loc g.hd,h):=by unfold ybC;simp only [ec];rfl
 have een:h[g.en]?=some (.lst q.en):=A.get 4 rfl
 have A1:At (h.set g.en (.lst (q.en++[.tup [.int 0,.int q.nth,en,.lst [],.lst laid,.lst (bf.map .int)]]))) (HL g c.rn w { q with en:=q.en++[.tup [.int 0,.int q.nth,en,.lst [],.lst laid,.lst (bf.map .int)]] } (EX c w rows s++own)):=At.upd (a:=[_,_,_,_]) _ A
 obtain ⟨h',c',q1,q2⟩:=yHA (v:=v) (bf:=bf) A1 (fun h1 a=>hb h1 _ a) hr
 refine ⟨h',c',?_,q2.sub ((((((List.sublist_append_right _ _).cons₂ _).cons₂ _).cons₂ _).cons₂ _).cons₂ _ |>.cons₂ _)⟩
 have ea:=yyH (y:=.tup [.int 0,.int q.nth,en,.lst [],.lst laid,.lst (bf.map .int)]) een (by omega)
 have b1:=hb _ _ A
 unfold yda
 rw [yw]
 show ob (yn _ _ [.val (.loc g.H),.val (.int 0),.val en,.val (.lst laid),.val v,.no] h) fnK=_
 simp_all? only [ymc,f3,i2,f4,ygg een,k3,k6,r3,yZ (m:="saw") (A.get 8 rfl) (by rfl'),yOi A,b1,ea,yZ (m:="go_on") (A1.get 5 rfl) (by rfl'),q1]
end
theorem yBw:(("lay":Str) = "take")=False:=eq_false (by rfl')
theorem yBx:(("lay":Str) = "wait")=False:=eq_false (by rfl')
theorem yyV:(("lay":Str) = "throw")=False:=eq_false (by rfl')
section
variable {h:AH}{w:Int}{rows rows':List PV}{c:Lc}{s s':RS}{r:Rw}{g:HC}{q:HQ}{own:List (Nat×Nd)}{rn:Nat}
theorem ywO (R:RR w rows (HL g c.rn w q own) h c s) (er:rows[s.t]?=some (ybU r)) (hn:q.nth<q.ds.length) (ok:okS s=true) (hlk:yHw s r=true):ybS [.loc g.H,.int 0] h=ob (ybp [.loc g.H,.int 0,.int s.t] (h.set c.sn (.fz [] []))) (fun x h=>some (x,h)):=by
 have A:=R.rest
 obtain ⟨f1,f2,f3,f4,f5,f6⟩:=yjP (A.get 5 rfl)
 obtain ⟨g1,g2,g3,g4⟩:=yjO (A.get 0 rfl)
 obtain ⟨k1,k2,k3,k4,k5,k6,k7⟩:=ygU R.run
 have st:=yqu A (le_of_lt hn)
 rw [if_neg (by omega)] at st
 have lk:=yEo R er ok
 rw [hlk] at lk
 have A':=yuZ R
 unfold ybS
 rw [yw]
 show ob (yn _ _ [.val (.loc g.H),.val (.int 0),.no,.no] h) fnK=_
 simp_all? only [ymc,yZ (m:="hand_at") (A.get 0 rfl) (by rfl'),yim A,yZ (m:="state") (A.get 5 rfl) (by rfl'),st,f6,k5,yZ (m:="is_looked_over") R.run (by rfl'),lk,g2,yZ (m:="is_stale") R.run (by rfl'),yHx R,yZ (m:="looked_over_told") (A'.get 0 rfl) (by rfl')]
theorem yEq {a b:Str}(R:RR w rows (HL g c.rn w q own) h c s) (er:rows[s.t]?=some (ybU (.throw a b))) (hn:q.nth<q.ds.length) (ok:okS s=true) (h0:tkL s.sd (.throw a b) s.sd.length=0) (hb:b∈SL) (hr:q.nth+1<q.ds.length/\q.ds[q.nth+1]?=some (.lst rows')\/q.nth+1=q.ds.length/\rows'=[]) (hl:q.en.length<1000) :
  ∃ h' c',ybS [.loc g.H,.int 0] h=some (.tup [.str "fell",.int s.t],h')/\RR w rows' (HL g c'.rn w { q with en:=q.en++[.tup [.int 0,.int q.nth,.tup [.str "fell",.str a,.int (s.hs.getD (sx b) 0)],.lst [],.lst [],.lst (q.bf.map .int)]],nth:=q.nth+1 } own) h' c' (S0 q.bf):=by
 obtain ⟨h8,o2,o3,o4,o5⟩:=yrm ok
 have A:=yuZ R
 obtain ⟨h',c',q1,q2⟩:=yrn (en:=.tup [.str "fell",.str a,.int (s.hs.getD (sx b) 0)]) (v:=.lst (q.bf.map .int)) (laid:=[]) (bf:=q.bf) A (fun h1 _ _=>rfl) hr hl
 refine ⟨h',c',?_,q2⟩
 rw [ywO R er hn ok (by show decide (((tkL s.sd (.throw a b) s.sd.length:Nat):Int)=0)=true;rw [h0];rfl)]
 generalize h.set c.sn (.fz [] [])=h1 at *
 obtain ⟨f1,f2,f3,f4,f5,f6⟩:=yjP (A.get 5 rfl)
 obtain ⟨g1,g2,g3,g4⟩:=yjO (A.get 0 rfl)
 have ec:h1[g.cr]?=some (.lst [.loc g.hd]):=A.get 3 rfl
 have i2:ybC (.loc g.cr) (.int 0) h1=some (.loc g.hd,h1):=by unfold ybC;simp only [ec];rfl
 have i3:=ylg (A.get 6 rfl) (A.get 7 rfl) h8 hb
 have i4:∀ h,ybl (ybU (.throw a b)) (.int 0) h=some (.str "throw",h):=fun _=>rfl
 have i5:∀ h,ybl (ybU (.throw a b)) (.int 1) h=some (.str a,h):=fun _=>rfl
 have i6:∀ h,ybl (ybU (.throw a b)) (.int 2) h=some (.str b,h):=fun _=>rfl
 unfold ybp
 rw [yw]
 show ob (ob (yn _ _ [.val (.loc g.H),.val (.int 0),.val (.int s.t),.no,.no,.no] h1) fnK) _=_
 simp_all? only [ymc,g3,i2,f6,yZ (m:="row") (A.get 6 rfl) (by rfl'),yAC (A.get 6 rfl) rfl er,i4,i5,i6,yjJ,yha,yZ (m:="held_in") (A.get 6 rfl) (by rfl'),i3,f5,yZ (m:="end_deed") (A.get 0 rfl) (by rfl'),q1]
theorem ytc:(("ended":Str) = "asleep")=False:=eq_false (by rfl')
theorem ytd:(("awake":Str) = "asleep")=False:=eq_false (by rfl')
theorem yLk (A:At h (HL g rn w q own)) (hn:q.nth<=q.ds.length):yds [.loc g.H] h=some (.non,h):=by
 obtain ⟨g1,g2,g3,g4⟩:=yjO (A.get 0 rfl)
 have ec:h[g.cr]?=some (.lst [.loc g.hd]):=A.get 3 rfl
 have st:=yqu A hn
 unfold yds
 rw [yw]
 show ob (yDt false _ _ _ [.val (.loc g.H),.no] h) fnK=_
 unfold yDt
 simp_all? only [g3]
 simp only [ec]
 show ob (yBY g.cr false _ _ 1 0 [.val (.loc g.H),.no] h) fnK=_
 unfold yBY
 simp only [ec,Bool.false_eq_true,if_false]
 have y1:yr 1 (.loc g.hd) [.val (.loc g.H),.no]=some [.val (.loc g.H),.val (.loc g.hd)]:=rfl
 have f0:∀ (G:XG) (S:XS) ρ,yBY g.cr false G S 0 1 ρ h=some (.nx ρ,h):=fun G S ρ=>by unfold yBY;simp only [ec];rfl
 by_cases e:q.nth=q.ds.length
 .rw [if_pos e] at st
  simp_all? only [List.getElem?_cons_zero,y1,ymc,yZ (m:="state") (A.get 5 rfl) (by rfl'),st,ytc,f0]
 .rw [if_neg e] at st
  simp_all? only [List.getElem?_cons_zero,y1,ymc,yZ (m:="state") (A.get 5 rfl) (by rfl'),st,ytd,f0]
theorem yro {n:Nat}{xs:List Int}{k:Nat}{v:Int}{eo ei ev:XE}{ρ:PSt}(e1:ev ρ h=some (.int v,h)) (e2:eo ρ h=some (.loc n,h)) (e3:ei ρ h=some (.int (k:Nat),h)) (e:h[n]?=some (.lst (xs.map .int))) (hk:k<xs.length):yjD eo ei ev ρ h=some (.nx ρ,h.set n (.lst ((xs.set k v).map .int))):=by
 have e':ixN (xs.map PV.int).length (k:Nat)=some k:=by
  unfold ixN
  simp [hk]
 unfold yjD
 rw [e1,ycU,e2,ycU,e3,ycU]
 simp only [e,e']
 rw [map_set]
theorem yEr {l0:Nat}{k v:Int}{m:List (Nat×Nd)}(A:At h ((c.lg,.ins 11 ["stack","last_seen"] [.loc c.st,.loc c.ls])::(c.st,.lst [.loc l0])::(l0,.dct [.inl k] [.int v])::m)):ygi [.loc c.lg] h=some (.lst [.tup [.int k,.int v]],h):=by
 have e1:=yoI (A.get 0 rfl)
 have e2:h[c.st]?=some (.lst [.loc l0]):=A.get 1 rfl
 have e3:h[l0]?=some (.dct [.inl k] [.int v]):=A.get 2 rfl
 have i2:ybC (.loc c.st) (.int 0) h=some (.loc l0,h):=by unfold ybC;simp only [e2];rfl
 unfold ygi
 rw [yw]
 show ob (yn _ _ [.val (.loc c.lg),.no] h) fnK=_
 simp_all? only [e1,i2]
 unfold ytD
 grind
 unfold ywv
 simp only [e3]
 rfl
end
section
variable {h:AH}{w:Int}{rows rows':List PV}{c:Lc}{s s':RS}{r:Rw}{g:HC}{q:HQ}{own:List (Nat×Nd)}{rn:Nat}
theorem yQQ {G:XG}{S:XS}{x:PV}{ρ ρ1 ρ2:PSt}{h1:AH}(e1:G x ρ=some ρ1) (e2:S ρ1 h=some (.nx ρ2,h1)):ypi G S [x] ρ h=some (.nx ρ2,h1):=by
 show (G x ρ).bind _=_
 rw [e1,bind_some,e2]
 rfl
theorem yOj {l0 k:Nat}{v:Int}(A:At h (HL g c.rn w q (EX c w rows s++own))) (el:c.ly=[l0]) (ed:s.dd=[([.inl (k:Nat)],[.int v])]) (hk:k<q.bx.length) (hs:q.sp.length=q.bx.length) (hr:q.nth+1<q.ds.length/\q.ds[q.nth+1]?=some (.lst rows')\/q.nth+1=q.ds.length/\rows'=[]) (hl:q.en.length<1000) :
  ∃ h' c',yen [.loc g.H,.int 0] h=some (.non,h')/\RR w rows' (HL g c'.rn w ⟨q.bx.set k v,q.sp.set k (q.sp.getD k 0+1),q.en++[.tup [.int 0,.int q.nth,.tup [.str "done"],.lst [],.lst [.tup [.int (k:Nat),.int v]],.lst (s.hs.map .int)]],q.ds,q.nth+1,s.hs⟩ own) h' c' (S0 s.hs):=by
 obtain ⟨g1,g2,g3,g4⟩:=yjO (A.get 0 rfl)
 obtain ⟨k1,k2,k3,k4,k5,k6⟩:=yjP (A.get 5 rfl)
 obtain ⟨r1,r2,r3,r4,r5,r6,r7⟩:=ygU (A.get 6 rfl)
 have ec:h[g.cr]?=some (.lst [.loc g.hd]):=A.get 3 rfl
 have i2:ybC (.loc g.cr) (.int 0) h=some (.loc g.hd,h):=by unfold ybC;simp only [ec];rfl
 have A1:At (h.set g.nu (.lst ((q.bx.set k v).map .int))) (HL g c.rn w { q with bx:=q.bx.set k v } (EX c w rows s++own)):=At.upd (a:=[_]) _ A
 have A2:At ((h.set g.nu (.lst ((q.bx.set k v).map .int))).set g.ma (.lst ((q.sp.set k (q.sp.getD k 0+1)).map .int))) (HL g c.rn w { q with bx:=q.bx.set k v,sp:=q.sp.set k (q.sp.getD k 0+1) } (EX c w rows s++own)):=At.upd (a:=[_,_]) _ A1
 have wr:ygi [.loc c.lg] h=some (.lst [.tup [.int (k:Nat),.int v]],h):=by
  refine yEr (l0:=l0) (m:=[]) (A.sub ?_)
  unfold EX
  rw [el,ed]
  exact ((((((((List.nil_sublist _).cons₂ _).cons _).cons₂ _).cons₂ _).cons _).cons _).cons _).cons _ |>.cons _ |>.cons _ |>.cons _ |>.cons _
 have R:=A2
 obtain ⟨h',c',q1,q2⟩:=yrn (en:=.tup [.str "done"]) (v:=.loc c.hl) (laid:=[.tup [.int (k:Nat),.int v]]) (bf:=s.hs) A2 (fun h1 q' a=>yns (a.get 7 rfl)) hr hl
 have wk:=yLk q2.rest (show q.nth+1<=q.ds.length by rcases hr with a|a<;>omega)
 refine ⟨h',c',?_,q2⟩
 obtain ⟨t1,t2,t3,t4⟩:=yjO (A1.get 0 rfl)
 obtain ⟨u1,u2,u3,u4,u5,u6,u7⟩:=ygU (A2.get 6 rfl)
 have s1:=yro (h:=h) (xs:=q.bx) (k:=k) (v:=v) (eo:=ybk [15] "numbers" (yf 0)) (ei:=yf 5) (ev:=xOp (ybl) (yf 4) (xC (.int 1))) (ρ:=[.val (.loc g.H),.val (.int 0),.val (.loc c.rn),.val (.lst [.tup [.int (k:Nat),.int v]]),.val (.tup [.int (k:Nat),.int v]),.val (.int (k:Nat))]) rfl (by simp_all? only [g1]) rfl (A.get 1 rfl) hk
 have s2:=yro (h:=h.set g.nu (.lst ((q.bx.set k v).map .int))) (xs:=q.sp) (k:=k) (v:=q.sp.getD k 0+1) (eo:=ybk [15] "marks" (yf 0)) (ei:=yf 5) (ev:=xOp yno (xOp (ybC) (ybk [15] "marks" (yf 0)) (yf 5)) (xC (.int 1))) (ρ:=[.val (.loc g.H),.val (.int 0),.val (.loc c.rn),.val (.lst [.tup [.int (k:Nat),.int v]]),.val (.tup [.int (k:Nat),.int v]),.val (.int (k:Nat))]) (by
  have i3:=yrk (A1.get 2 rfl) (show k<q.sp.length by omega)
  simp_all? only [t2,i3]) (by simp_all? only [t2]) rfl (A1.get 2 rfl) (by omega)
 have bd:(yn (ybI (xOp (ybl) (yf 4) (xC (.int 0))) (yr 5)) (yn (yjD (ybk [15] "numbers" (yf 0)) (yf 5) (xOp (ybl) (yf 4) (xC (.int 1)))) (yjD (ybk [15] "marks" (yf 0)) (yf 5) (xOp yno (xOp (ybC) (ybk [15] "marks" (yf 0)) (yf 5)) (xC (.int 1)))))) [.val (.loc g.H),.val (.int 0),.val (.loc c.rn),.val (.lst [.tup [.int (k:Nat),.int v]]),.val (.tup [.int (k:Nat),.int v]),.no] h=some (.nx [.val (.loc g.H),.val (.int 0),.val (.loc c.rn),.val (.lst [.tup [.int (k:Nat),.int v]]),.val (.tup [.int (k:Nat),.int v]),.val (.int (k:Nat))],(h.set g.nu (.lst ((q.bx.set k v).map .int))).set g.ma (.lst ((q.sp.set k (q.sp.getD k 0+1)).map .int))):=by simp_all? only [s1,s2]
 unfold yen
 rw [yw]
 show ob (yn _ (yn _ (yn (yzQ (xIL (yf 3)) _ _) _)) [.val (.loc g.H),.val (.int 0),.no,.no,.no,.no] h) fnK=_
 simp_all? only [ymc,g3,i2,k6,r3,yZ (m:="wrote") (A.get 8 rfl) (by rfl'),wr]
 rw [yDN rfl,ycU,yQQ rfl bd,ycU]
 simp_all? only [ymc,u1,yZ (m:="end_deed") (A2.get 0 rfl) (by rfl'),q1,yZ (m:="wake_stale") (q2.rest.get 0 rfl) (by rfl'),wk]
theorem yEs {k:Nat}{v:Int}(R:RR w rows (HL g c.rn w q own) h c s) (er:rows[s.t]?=some (ybU .lay)) (hn:q.nth<q.ds.length) (ok:okS s=true) (ed:s.dd=[([.inl (k:Nat)],[.int v])]) (hk:k<q.bx.length) (hs:q.sp.length=q.bx.length) (hr:q.nth+1<q.ds.length/\q.ds[q.nth+1]?=some (.lst rows')\/q.nth+1=q.ds.length/\rows'=[]) (hl:q.en.length<1000) :
  ∃ h' c',ybS [.loc g.H,.int 0] h=some (.tup [.str "done",.int s.t],h')/\RR w rows' (HL g c'.rn w ⟨q.bx.set k v,q.sp.set k (q.sp.getD k 0+1),q.en++[.tup [.int 0,.int q.nth,.tup [.str "done"],.lst [],.lst [.tup [.int (k:Nat),.int v]],.lst (s.hs.map .int)]],q.ds,q.nth+1,s.hs⟩ own) h' c' (S0 s.hs):=by
 have A:=yuZ R
 obtain ⟨l0,el⟩:∃ l0,c.ly=[l0]:=by
  have:=R.len
  rw [ed] at this
  exact List.length_eq_one_iff.mp this
 obtain ⟨h',c',q1,q2⟩:=yOj A el ed hk hs hr hl
 refine ⟨h',c',?_,q2⟩
 rw [ywO R er hn ok rfl]
 generalize h.set c.sn (.fz [] [])=h1 at *
 obtain ⟨f1,f2,f3,f4,f5,f6⟩:=yjP (A.get 5 rfl)
 obtain ⟨g1,g2,g3,g4⟩:=yjO (A.get 0 rfl)
 have ec:h1[g.cr]?=some (.lst [.loc g.hd]):=A.get 3 rfl
 have i2:ybC (.loc g.cr) (.int 0) h1=some (.loc g.hd,h1):=by unfold ybC;simp only [ec];rfl
 have i4:∀ h,ybl (ybU .lay) (.int 0) h=some (.str "lay",h):=fun _=>rfl
 unfold ybp
 rw [yw]
 show ob (ob (yn _ _ [.val (.loc g.H),.val (.int 0),.val (.int s.t),.no,.no,.no] h1) fnK) _=_
 simp_all? only [ymc,g3,i2,f6,yZ (m:="row") (A.get 6 rfl) (by rfl'),yAC (A.get 6 rfl) rfl er,i4,yBw,yBx,yyV,yZ (m:="lay_down") (A.get 0 rfl) (by rfl'),q1]
end
section
variable {h:AH}{w:Int}{rows rows':List PV}{c:Lc}{s s':RS}{r:Rw}{g:HC}{q:HQ}{own:List (Nat×Nd)}{rn:Nat}
theorem yee {f:PV->PV->Option Bool}{x y:PV}{xs ys:List PV}(e1:f x y=some true) (e2:ypZ f xs ys=some true):ypZ f (x::xs) (y::ys)=some true:=by
 show (match f x y,ypZ f xs ys with|some b,some c=>some (b && c)|_,_=>none)=_
 rw [e1,e2]
 rfl
theorem ywP {n:Nat}{i:Int}:eqP (n+1) h (.int i) (.int i)=some true:=by
 show some (eqV (.int i) (.int i))=_
 rw [yuK rfl]
theorem yLl {n:Nat}{i:Str}:eqP (n+1) h (.str i) (.str i)=some true:=by
 show some (eqV (.str i) (.str i))=_
 rw [yuK rfl]
theorem yAI {n:Nat}:∀ xs:List Int,ypZ (eqP (n+1) h) (xs.map .int) (xs.map .int)=some true
 | []=>rfl
 | _::xs=>yee ywP (yAI xs)
theorem yrp {n m:Nat}{xs:List Int}(e:h[m]?=some (.lst (xs.map .int))):pairE (eqP (n+1) h) h (.lst (xs.map .int)) (.loc m)=some true:=by
 unfold pairE ycT
 simp only [e,yAI,if_true]
theorem yhc {m:Nat}{xs:List Int}(e:h[m]?=some (.lst (xs.map .int))):yAi (.lst (xs.map .int)) (.loc m) h=some (.bl false,h):=by
 unfold yAi
 rw [yrp e]
 rfl
theorem yAJ {m:Nat}{xs:List Int}(e:h[m]?=some (.lst (xs.map .int))):yBX (.lst (xs.map .int)) (.loc m) h=some (.bl true,h):=by
 unfold yBX
 rw [yrp e]
theorem yEt {n m:Nat}{xs:List Int}(e:h[m]?=some (.lst (xs.map .int))):eqP (n+2) h (.lst (xs.map .int)) (.loc m)=some true:=yrp e
theorem yyW {n:Nat}{xs:List PV}(e:ypZ (eqP (n+1) h) xs xs=some true):eqP (n+2) h (.tup xs) (.tup xs)=some true:=by
 show (match ypZ (eqP (n+1) h) xs xs with|some b=>some (b && xs.length == xs.length)|none=>none)=_
 rw [e]
 simp
theorem yva {n:Nat}{xs:List PV}(e:ypZ (eqP (n+1) h) xs xs=some true):eqP (n+2) h (.lst xs) (.lst xs)=some true:=by
 show (if xs.length=xs.length then ypZ (eqP (n+1) h) xs xs else some false)=_
 rw [if_pos rfl,e]
theorem yEu {xs ys:List PV}(e:ypZ (eqP 40 h) xs ys=some true) (hl:xs.length=ys.length):yBX (.tup xs) (.tup ys) h=some (.bl true,h):=by
 unfold yBX pairE
 simp only [e,hl]
 simp
theorem yqv (A:At h (HL g rn w q own)):yci [.loc g.H] h=some (.lst (q.bx.map .int),h):=by
 obtain ⟨f1,f2,f3,f4⟩:=yjO (A.get 0 rfl)
 unfold yci
 rw [yw]
 show ob (yS _ [.val (.loc g.H)] h) fnK=_
 simp_all? only [f1,yns (A.get 1 rfl)]
theorem yrq (A:At h (HL g rn w q own)):ycz [.loc g.H] h=some (.lst (q.sp.map .int),h):=by
 obtain ⟨f1,f2,f3,f4⟩:=yjO (A.get 0 rfl)
 unfold ycz
 rw [yw]
 show ob (yS _ [.val (.loc g.H)] h) fnK=_
 simp_all? only [f2,yns (A.get 2 rfl)]
theorem yHB (A:At h (HL g rn w q own)):yfm [.loc g.H,.int 0] h=some (.int q.nth,h):=by
 obtain ⟨k1,k2,k3,k4,k5,k6⟩:=yjP (A.get 5 rfl)
 unfold yfm
 rw [yw]
 show ob (yS _ [.val (.loc g.H),.val (.int 0)] h) fnK=_
 simp_all? only [ymc,yZ (m:="hand_at") (A.get 0 rfl) (by rfl'),yim A,k3]
theorem yEv (A:At h (HL g rn w q own)) (hn:q.nth=q.ds.length):yfl [.loc g.H,.int 0] h=some (.str "ended",h):=by
 have st:=yqu A (le_of_eq hn)
 rw [if_pos hn] at st
 unfold yfl
 rw [yw]
 show ob (yS _ [.val (.loc g.H),.val (.int 0)] h) fnK=_
 simp_all? only [ymc,yZ (m:="hand_at") (A.get 0 rfl) (by rfl'),yim A,yZ (m:="state") (A.get 5 rfl) (by rfl'),st]
theorem yAK (R:RR w rows (HL g c.rn w q own) h c s):ycZ [.loc g.H,.int 0] h=some (.lst (s.hs.map .int),h):=by
 have A:=R.rest
 obtain ⟨k1,k2,k3,k4,k5,k6⟩:=yjP (A.get 5 rfl)
 obtain ⟨r1,r2,r3,r4,r5,r6,r7⟩:=ygU R.run
 unfold ycZ
 rw [yw]
 show ob (yS _ [.val (.loc g.H),.val (.int 0)] h) fnK=_
 simp_all? only [ymc,yZ (m:="hand_at") (A.get 0 rfl) (by rfl'),yim A,k6,r1,yns R.held]
def Shp (e:PV):Prop:=∃ a b c x y z,e=.tup [a,b,c,.lst x,.lst y,.lst z]
theorem yEw {n:Nat}{en:List PV}{E:XE}{inn:PV->PSt}(e:h[n]?=some (.lst en)) (hE:∀ x∈en,E (inn x) h=some (x,h)):∀ k i,i+k=en.length->yGP n E inn k i h=some (en.drop i,h)
 | 0,i,hi=>by
  unfold yGP
  simp only [e]
  rw [if_pos (by omega),List.drop_of_length_le (by omega)]
 | k+1,i,hi=>by
  have hlt:i<en.length:=by omega
  unfold yGP
  simp only [e,List.getElem?_eq_getElem hlt]
  rw [hE _ (getElem_mem hlt),ycU,yEw e hE k (i+1) (by omega),ycU,List.drop_eq_getElem_cons hlt]
theorem yoJ (A:At h (HL g rn w q own)) (hs:∀ e∈q.en,Shp e) (hl:q.en.length<1000):ycl [.loc g.H] h=some (.lst q.en,h):=by
 obtain ⟨f1,f2,f3,f4⟩:=yjO (A.get 0 rfl)
 have e:h[g.en]?=some (.lst q.en):=A.get 4 rfl
 unfold ycl
 rw [yw]
 show ob (yS (xFz (ywB _ _ _)) [.val (.loc g.H)] h) fnK=_
 rw [yKi,yPu]
 unfold ywB
 simp_all? only [f4]
 simp only [e]
 rw [if_pos (by omega),yEw e (fun x hx=>?_) q.en.length 0 (by omega)]
 .rfl
 .obtain ⟨a,b,c,x,y,z,rfl⟩:=hs x hx
  rfl
end
def gsB:XS:=(yn (ybI (yk 15 "turn" ybS (yf 0) (yb (xC (.int 0)) (yj))) (yr 4)) (yn (yca (yo (xOp (oNe) (xOp (ybl) (yf 4) (xC (.int 0))) (xC (.str "gone")))) (yS (xOp (ybl) (yf 4) (xC (.int 0)))) (yP)) (yca (xOr (yo (xOp (yAi) (yk 15 "boxes" yci (yf 0) (yj)) (yf 1))) (yo (xOp (yAi) (yk 15 "stamps" ycz (yf 0) (yj)) (yf 2)))) (yS (xC (.str "wrong"))) (yP))))
theorem yyX:(("fell":Str) = "gone")=False:=eq_false (by rfl')
theorem yyY:(("done":Str) = "gone")=False:=eq_false (by rfl')
section
variable {w:Int}{rws:List Rw}{rows':List PV}{g:HC}{q:HQ}{own:List (Nat×Nd)}{b0 b1:Nat}
noncomputable abbrev yHC (q:HQ) (b0 b1:Nat) (own:List (Nat×Nd)):List (Nat×Nd):=(b0,.lst (q.bx.map .int))::(b1,.lst (q.sp.map .int))::own
def yQR (w:Int) (rows':List PV) (g:HC) (q:HQ) (own:List (Nat×Nd)) (h':AH):En->Str->Prop
 | .fell a v,z=>z = "fell"/\∃ c',RR w rows' (HL g c'.rn w { q with en:=q.en++[.tup [.int 0,.int q.nth,.tup [.str "fell",.str a,.int v],.lst [],.lst [],.lst (q.bf.map .int)]],nth:=q.nth+1 } own) h' c' (S0 q.bf)
 | .done s,z=>∃ (k:Nat) (v:Int) (c':Lc),z = "done"/\s.dd=[([.inl (k:Nat)],[.int v])]/\k<q.bx.length/\RR w rows' (HL g c'.rn w ⟨q.bx.set k v,q.sp.set k (q.sp.getD k 0+1),q.en++[.tup [.int 0,.int q.nth,.tup [.str "done"],.lst [],.lst [.tup [.int (k:Nat),.int v]],.lst (s.hs.map .int)]],q.ds,q.nth+1,s.hs⟩ own) h' c' (S0 s.hs)
theorem yEx {h h':AH}{c':Lc}{s':RS}{rows:List PV}{t:Nat}{v3 v4:PVar}{H0:h[g.H]?=some (yEe g.nu g.ma g.cr g.en)} (e:ybS [.loc g.H,.int 0] h=some (.tup [.str "gone",.int t],h')) (R:RR w rows (HL g c'.rn w q (yHC q b0 b1 own)) h' c' s'):gsB [.val (.loc g.H),.val (.loc b0),.val (.loc b1),v3,v4] h=some (.nx [.val (.loc g.H),.val (.loc b0),.val (.loc b1),v3,.val (.tup [.str "gone",.int t])],h'):=by
 have A:=R.rest
 unfold gsB
 simp_all? only [ymc,yZ (m:="turn") H0 (by rfl'),e,yZ (m:="boxes") (A.get 0 rfl) (by rfl'),yqv A,yZ (m:="stamps") (A.get 0 rfl) (by rfl'),yrq A,yhc (A.get 6 rfl),yhc (A.get 7 rfl)]
theorem yAL {h h':AH}{z:Str}{t:Nat}{v3 v4:PVar}{H0:h[g.H]?=some (yEe g.nu g.ma g.cr g.en)} (e:ybS [.loc g.H,.int 0] h=some (.tup [.str z,.int t],h')) (hz:(z = "gone")=False):gsB [.val (.loc g.H),.val (.loc b0),.val (.loc b1),v3,v4] h=some (.rt (.str z),h'):=by
 unfold gsB
 simp_all? only [ymc,yZ (m:="turn") H0 (by rfl'),e,hz]
end
section
variable {w:Int}{rws:List Rw}{rows':List PV}{g:HC}{q:HQ}{own:List (Nat×Nd)}{b0 b1:Nat}
theorem yyZ {t:Nat}{r:Rw}(e:rws[t]?=some r):(rws.map ybU)[t]?=some (ybU r):=by rw [getElem?_map,e];rfl
theorem yHD {r:Rw}{s s':RS}(e:ytb w r s=some s'):okS s=true/\okR r=true:=by
 unfold ytb at e
 split at e
 .rename_i hk
  obtain ⟨a,b⟩:=Bool.and_eq_true_iff.mp hk
  exact ⟨b,a⟩
 .cases e
theorem yLm {r:Rw}{s s':RS}(e:ytb w r s=some s'):yHw s r=false:=by
 unfold ytb at e
 split at e
 .cases r with
  | lay=>cases e
  | wait =>
   dsimp only at e
   unfold ytR at e
   split at e
   .cases e
   .rename_i L hL
    show decide (((tkL s.sd .wait s.sd.length:Nat):Int)=0)=false
    rw [hL]
    exact decide_eq_false (by omega)
  | throw a b =>
   dsimp only at e
   unfold ytR at e
   split at e
   .cases e
   .rename_i L hL
    show decide (((tkL s.sd (.throw a b) s.sd.length:Nat):Int)=0)=false
    rw [hL]
    exact decide_eq_false (by omega)
  | _=>rfl
 .cases e
def Fin (q:HQ):En->Prop
 | .fell _ _=>True
 | .done s=>∃ (k:Nat) (v:Int),s.dd=[([.inl (k:Nat)],[.int v])]/\k<q.bx.length
theorem yEy (hw:1<=w) (hn:q.nth<q.ds.length) (hsp:q.sp.length=q.bx.length) (hr:q.nth+1<q.ds.length/\q.ds[q.nth+1]?=some (.lst rows')\/q.nth+1=q.ds.length/\rows'=[]) (hl:q.en.length<1000) :
  ∀ (xs:List PV) (h:AH) (c:Lc) (s:RS) (v3 v4:PVar) (k:Nat) (en:En),RR w (rws.map ybU) (HL g c.rn w q (yHC q b0 b1 own)) h c s->yHt w rws xs.length s=some (k,en)->Fin q en ->
   ∃ h' z,ypi (yr 3) gsB xs [.val (.loc g.H),.val (.loc b0),.val (.loc b1),v3,v4] h=some (.rt (.str z),h')/\yQR w rows' g q (yHC q b0 b1 own) h' en z:=by
 intro xs
 induction xs with
 | nil=>intro h c s v3 v4 k en R e;cases e
 | cons x xs ih =>
  intro h c s v3 v4 k en R e hf
  have A:=R.rest
  have H0:h[g.H]?=some (yEe g.nu g.ma g.cr g.en):=A.get 0 rfl
  have one:∀ {S:Option (Out×AH)},gsB [.val (.loc g.H),.val (.loc b0),.val (.loc b1),.val x,v4] h=S->ypi (yr 3) gsB (x::xs) [.val (.loc g.H),.val (.loc b0),.val (.loc b1),v3,v4] h=ob S fun o h1=>match o with|.nx ρ'=>ypi (yr 3) gsB xs ρ' h1|.ct ρ'=>ypi (yr 3) gsB xs ρ' h1|.bk ρ'=>some (.nx ρ',h1)|.rt y=>some (.rt y,h1):=fun e=>by
   rw [<- e]
   rfl
  have gone:∀ {r:Rw},rws[s.t]?=some r->(match ytb w r s with|some s'=>(yHt w rws xs.length s').map fun q=>(q.1+1,q.2)|none=>none)=some (k,en)->∃ h' z,ypi (yr 3) gsB (x::xs) [.val (.loc g.H),.val (.loc b0),.val (.loc b1),v3,v4] h=some (.rt (.str z),h')/\yQR w rows' g q (yHC q b0 b1 own) h' en z:=by
   intro r er e
   split at e
   .rename_i s' hs
    obtain ⟨⟨k',en'⟩,e1,e2⟩:=Option.map_eq_some_iff.mp e
    cases e2
    obtain ⟨h1,c1,q1,R1⟩:=yEp R (yyZ er) hw hn (yHD hs).1 (yLm hs) hs
    obtain ⟨h',z,q2,q3⟩:=ih h1 c1 s' (.val x) (.val (.tup [.str "gone",.int s.t])) k' _ R1 e1 hf
    refine ⟨h',z,?_,q3⟩
    rw [one (yEx (H0:=H0) q1 R1),ycU]
    exact q2
   .cases e
  have e:yHt w rws (xs.length+1) s=some (k,en):=e
  unfold yHt at e
  split at e
  .rename_i er
   split at e
   .rename_i hk
    cases e
    obtain ⟨kk,v,ed,hkk⟩:=hf
    obtain ⟨h',c',q1,q2⟩:=yEs R (yyZ er) hn hk.1 ed hkk hsp hr hl
    exact ⟨h',"done",by rw [one (yAL (H0:=H0) q1 yyY)];rfl,kk,v,c',rfl,ed,hkk,q2⟩
   .cases e
  .rename_i a b er
   split at e
   .rename_i h0
    split at e
    .rename_i hk
     cases e
     obtain ⟨k1,k2⟩:=Bool.and_eq_true_iff.mp hk
     obtain ⟨h',c',q1,q2⟩:=yEq R (yyZ er) hn k1 h0 (by simpa [okR] using k2) hr hl
     exact ⟨h',"fell",by rw [one (yAL (H0:=H0) q1 yyX)];rfl,rfl,c',q2⟩
    .cases e
   .exact gone er e
  .rename_i r _ _ er
   exact gone er e
  .cases e
theorem yEz {h:AH}{c:Lc}{s:RS}{k:Nat}{en:En}(hw:1<=w) (hn:q.nth<q.ds.length) (hsp:q.sp.length=q.bx.length) (hr:q.nth+1<q.ds.length/\q.ds[q.nth+1]?=some (.lst rows')\/q.nth+1=q.ds.length/\rows'=[]) (hl:q.en.length<1000) (R:RR w (rws.map ybU) (HL g c.rn w q (yHC q b0 b1 own)) h c s) (e:yHt w rws 80 s=some (k,en)) (hf:Fin q en) :
  ∃ h' z,ygk [.loc g.H,.loc b0,.loc b1] h=some (.str z,h')/\yQR w rows' g q (yHC q b0 b1 own) h' en z:=by
 obtain ⟨h',z,q1,q2⟩:=yEy hw hn hsp hr hl (yuC 0 80) h c s .no .no k en R e hf
 refine ⟨h',z,?_,q2⟩
 unfold ygk
 rw [yw]
 show ob (yn (yzQ (yFe _) (yr 3) gsB) _ [.val (.loc g.H),.val (.loc b0),.val (.loc b1),.no,.no] h) fnK=_
 have:yzQ (yFe (yb (xC (.int 80)) yj)) (yr 3) gsB [.val (.loc g.H),.val (.loc b0),.val (.loc b1),.no,.no] h=some (.rt (.str z),h'):=q1
 rw [yDe,this]
 rfl
end
section
variable {h:AH}
theorem yvb {r:Str}(hr:r∈SL):yeH r:=by
 unfold SL at hr
 simp only [mem_cons,not_mem_nil,or_false] at hr
 rcases hr with rfl|rfl|rfl|rfl|rfl|rfl|rfl|rfl
 .exact ⟨97,by decide,by decide,by rfl'⟩
 .exact ⟨98,by decide,by decide,by rfl'⟩
 .exact ⟨99,by decide,by decide,by rfl'⟩
 .exact ⟨100,by decide,by decide,by rfl'⟩
 .exact ⟨101,by decide,by decide,by rfl'⟩
 .exact ⟨102,by decide,by decide,by rfl'⟩
 .exact ⟨103,by decide,by decide,by rfl'⟩
 .exact ⟨104,by decide,by decide,by rfl'⟩
def NmL:List Str:=["low","high","lowly"]
theorem yOk {z:Str}(hz:z∈NmL):ytJ z:=by
 unfold NmL at hz
 simp only [mem_cons,not_mem_nil,or_false] at hz
 rcases hz with rfl|rfl|rfl<;>exact ⟨by rfl',by rfl',by rfl'⟩
mutual
noncomputable def gT:T->Bool
 | .let_ r n=>decide (r∈SL) && decide (0<=n) && decide (n<100)
 | .put p r=>decide (p∈SL) && decide (r∈SL)
 | .throw a r=>decide (a∈NmL) && decide (r∈SL)
 | .wait=>true
 | .either a b=>gL a && gL b
 | .try_ a z r b=>gL a && decide (z∈NmL) && decide (r∈SL) && gL b
 | _=>false
noncomputable def gL:List T->Bool
 | []=>true
 | t::r=>gT t && gL r
end
mutual
theorem yQS:∀ {t:T},gT t=true->gdT t
 | .let_ r n,e=>by
  simp only [gT,and_eq_true,decide_eq_true_eq] at e
  exact ⟨yvb e.1.1,e.1.2,Int.lt_trans e.2 (by decide)⟩
 | .put p r,e=>by
  simp only [gT,and_eq_true,decide_eq_true_eq] at e
  exact ⟨yvb e.1,yvb e.2⟩
 | .throw a r,e=>by
  simp only [gT,and_eq_true,decide_eq_true_eq] at e
  exact ⟨yOk e.1,yvb e.2⟩
 | .wait,_=>trivial
 | .either a b,e=>by
  simp only [gT,and_eq_true] at e
  exact ⟨yBy e.1,yBy e.2⟩
 | .try_ a z r b,e=>by
  simp only [gT,and_eq_true,decide_eq_true_eq] at e
  exact ⟨yOk e.1.1.2,yvb e.1.2,yBy e.1.1.1,yBy e.2⟩
 | .base,e=>by simp [gT] at e
 | .reckon ..,e=>by simp [gT] at e
 | .take ..,e=>by simp [gT] at e
 | .if_ ..,e=>by simp [gT] at e
theorem yBy:∀ {ts:List T},gL ts=true->gdL ts
 | [],_=>trivial
 | t::r,e=>by
  simp only [gL,and_eq_true] at e
  exact ⟨yQS e.1,yBy e.2⟩
end
theorem yQT {P:Nat->Prop}(h0:P 0) (h1:P 1) (h2:P 2) (h3:P 3) (h4:P 4) (h5:P 5) (h6:P 6) (h7:P 7) (h8:P 8) (h9:P 9) (h10:P 10) (h11:P 11):∀ w,w<12->P w
 | 0,_=>h0|1,_=>h1|2,_=>h2|3,_=>h3|4,_=>h4|5,_=>h5|6,_=>h6|7,_=>h7|8,_=>h8|9,_=>h9|10,_=>h10|11,_=>h11
 | n+12,h=>absurd h (by omega)
theorem yOl:∀ w,w<12->gL (yIQ w)=true/\rdL (yIQ w)<=8/\(ycE (yIQ w)).sum<=70:=by
 apply yQT<;>exact ⟨by rfl',by rfl',by rfl'⟩
theorem yLn {w:Nat}{b n:Int}(hw:w<12) (hb:0<=b/\b<B64) (hn:0<=n/\n<B64):OkL (yyT w b n):=by
 obtain ⟨e1,e2,e3⟩:=yOl w hw
 refine ⟨⟨⟨yvb (by rfl'),hb⟩,⟨yvb (by rfl'),hn⟩,⟨yvb (by rfl'),yvb (by rfl')⟩,yBy e1⟩,?_,?_⟩
 .show max 0 (max 0 (max 0 (rdL (yIQ w))))<=8
  omega
 .show (1+(1+(1+(ycE (yIQ w)).sum)):Int)<=79
  omega
noncomputable def ysU:Nat->Str
 | 0=>"throw low b"
 | 1=>"either ( throw low b ) or ( )"
 | 2=>"try ( let b 8 ; throw low a ) on high c ( )"
 | 3=>"try ( throw high a ) on high c ( throw low c )"
 | 4=>"try ( either ( wait ) or ( throw low b ) ) on lowly c ( )"
 | 5=>"try ( put a a ; throw lowly b ) on low c ( )"
 | 6=>"try ( try ( throw low a ) on low b ( throw high b ) ) on low c ( )"
 | 7=>"try ( throw low b ) on low c ( )"
 | 8=>"try ( try ( let b 3 ; let g 4 ; throw low b ) on high c ( ) ) on low d ( )"
 | 9=>"try ( either ( let e 4 ; put a e ; throw low e ) or ( ) ) on low f ( )"
 | 10=>"try ( let h 6 ; throw high a ) on high h ( let g 2 )"
 | _=>"try ( let e 7 ) on low h ( let f 1 )"
theorem yLo:∀ w,w<12->ybd (yIQ w)=[ysU w]:=by
 apply yQT<;>rfl'
theorem yHE {w:Nat}{b n:Int}(hw:w<12):("let a ":Str)++(toString b:String)++" ; let b "++(toString n:String)++" ; put a b ; "++ysU w=yFk (yyT w b n):=by
 unfold yFk
 show _=Str.join " ; " (yfG (.let_ "a" b)::yfG (.let_ "b" n)::yfG (.put "a" "b")::ybd (yIQ w))
 rw [yLo w hw]
 show _=yfG (.let_ "a" b)++" ; "++(yfG (.let_ "b" n)++" ; "++(yfG (.put "a" "b")++" ; "++ysU w))
 unfold yfG
 rw [j3,j3,show ("let a ":Str) = "let"++" "++"a"++" " by rfl',show (" ; let b ":Str) = " ; "++("let"++" "++"b"++" ") by rfl',show (" ; put a b ; ":Str) = " ; "++(Str.join " " ["put","a","b"]++" ; ") by rfl']
 simp only [ygn]
end
def yIS (c:Int):Int:=if c%3=1 then c/3%5 else if c%3=2 then 18446744073709551616-1-c/3%5 else c/3%18446744073709551616
theorem yEA (c:Int):0<=yIS c/\yIS c<B64:=by
 unfold yIS B64
 repeat' split
 all_goals omega
def yiP:Nat->Str×Nat
 | 0=>("low",1)|1=>("low",1)|2=>("low",0)|3=>("low",0)|4=>("low",1)|5=>("lowly",1)|_=>("high",0)
def chg (w:Nat) (b n:Int):List (Nat×Int):=match w with
 | 7=>[(2,n)]|8=>[(3,3)]|9=>[(5,4)]|10=>[(7,b),(6,2)]|_=>[(4,7)]
def yBz (hs:List Int):List (Nat×Int)->List Int
 | []=>hs
 | p::r=>yBz (hs.set p.1 p.2) r
def ynH (p:Nat×Int):PV:=.tup [.int p.1,.int p.2]
section
variable {h:AH}
theorem ypq (c:Int):ybE [.int c] h=some (.int (yIS c),h):=by
 unfold ybE
 rw [yw]
 show ob (yn _ _ [.val (.int c),.no] h) fnK=_
 grind
 unfold yIS
 split
 .rfl
 .split<;>rfl
theorem yEB:∀ w,w<7->yeR [.int (w:Nat)] h=some (.tup [.str (ysU w),.str (yiP w).1,.int (yiP w).2],h)
 | 0,_=>by kernel_rfl!
 | 1,_=>by kernel_rfl!
 | 2,_=>by kernel_rfl!
 | 3,_=>by kernel_rfl!
 | 4,_=>by kernel_rfl!
 | 5,_=>by kernel_rfl!
 | 6,_=>by kernel_rfl!
 | n+7,e=>absurd e (by omega)
theorem yEC {v:PV}{b n:Int}(i0:ybC v (.int 0) h=some (.int b,h)) (i1:ybC v (.int 1) h=some (.int n,h)):∀ w,7<=w->w<12->ycm [.int (w:Nat),v] h=some (.tup [.str (ysU w),.lst ((chg w b n).map ynH)],h):=by
 have st:∀ w:Int,ycm [.int w,v] h=ycm [.int w,.lst [.int b,.int n]] h:=fun w=>by
  unfold ycm
  rw [yw,yw]
  show ob (yn _ _ [.val (.int w),.val v,.no,.no] h) fnK=ob (yn _ _ [.val (.int w),.val (.lst [.int b,.int n]),.no,.no] h) fnK
  simp_all? only [i0,i1]
 intro w h1 h2
 rw [st]
 rcases (show w=7\/w=8\/w=9\/w=10\/w=11 by omega) with rfl|rfl|rfl|rfl|rfl<;>kernel_rfl!
theorem yHF {W b n a0 a1 a2 a3 a4 a5 a6 a7:Int}:∀ w,w<7->((yHt W (yuY w b n) 80 (S0 [a0,a1,a2,a3,a4,a5,a6,a7])).map (·.2))=some (.fell (yiP w).1 (([b,n]:List Int).getD (yiP w).2 0))
 | 0,_=>by kernel_rfl!
 | 1,_=>by kernel_rfl!
 | 2,_=>by kernel_rfl!
 | 3,_=>by kernel_rfl!
 | 4,_=>by kernel_rfl!
 | 5,_=>by kernel_rfl!
 | 6,_=>by kernel_rfl!
 | n+7,e=>absurd e (by omega)
theorem yHG {W b n a0 a1 a2 a3 a4 a5 a6 a7:Int}(w:Nat) (h1:7<=w) (h2:w<12):∃ t,((yHt W (yuY w b n) 80 (S0 [a0,a1,a2,a3,a4,a5,a6,a7])).map (·.2))=some (.done ⟨t,yBz [b,n,a2,a3,a4,a5,a6,a7] (chg w b n),[],[([.inl (b%W)],[.int n])]⟩):=by
 rcases (show w=7\/w=8\/w=9\/w=10\/w=11 by omega) with rfl|rfl|rfl|rfl|rfl
 .exact ⟨7,by kernel_rfl!⟩
 .exact ⟨12,by kernel_rfl!⟩
 .exact ⟨12,by kernel_rfl!⟩
 .exact ⟨9,by kernel_rfl!⟩
 .exact ⟨8,by kernel_rfl!⟩
end
structure Dd where
 w:Nat
 b:Int
 n:Int
def Dd.ok (d:Dd):Prop:=d.w<12/\(0<=d.b/\d.b<B64)/\(0<=d.n/\d.n<B64)
def Dd.txt (d:Dd):PV:=.str (yFk (yyT d.w d.b d.n))
def Dd.rows (d:Dd):PV:=.lst ((yuY d.w d.b d.n).map ybU)
section
variable {h:AH}
theorem At.seen {m:List (Nat×Nd)}{d d':Nd}(A:At h m):At ((h++[d]).set h.length d') m:=⟨A.1,fun p hp=>by
 have:=A.lt hp
 rw [getElem?_set_ne (by omega),getElem?_append_left this];exact A.2 p hp⟩
theorem yHH {d:Dd}(hd:d.ok):∃ h',yU yik (yb (yU yqY (yb (yf 0) yj)) yj) [.val d.txt] h=some (d.rows,h')/\∀ m,At h m->At h' m:=by
 have e1:=yKX (h:=h) (yLn hd.1 hd.2.1 hd.2.2)
 refine ⟨hR (h++[rdr (wdL (yyT d.w d.b d.n)) 0]) h.length (wdL (yyT d.w d.b d.n)) (0+(wdL (yyT d.w d.b d.n)).length),?_,fun m A=>At.seen A⟩
 unfold Dd.txt Dd.rows
 simp_all? only [e1,yEf]
theorem yED:∀ (ds:List Dd) (h:AH),(∀ d∈ds,d.ok)->∃ h',yuB (yU yik (yb (yU yqY (yb (yf 0) yj)) yj)) (ypj [] [.val (.lst (ds.map Dd.txt))]) (ds.map Dd.txt) h=some (ds.map Dd.rows,h')/\∀ m,At h m->At h' m:=by
 intro ds0
 have:∀ (ρ:PSt) (ds:List Dd) (h:AH),(∀ d∈ds,d.ok)->∃ h',yuB (yU yik (yb (yU yqY (yb (yf 0) yj)) yj)) (ypj [] ρ) (ds.map Dd.txt) h=some (ds.map Dd.rows,h')/\∀ m,At h m->At h' m:=by
  intro ρ ds
  induction ds with
  | nil=>exact fun h _=>⟨h,rfl,fun _ A=>A⟩
  | cons d ds ih =>
   intro h hd
   obtain ⟨h1,q1,q2⟩:=yHH (h:=h) (hd d mem_cons_self)
   obtain ⟨h2,q3,q4⟩:=ih h1 fun e he=>hd e (mem_cons_of_mem _ he)
   refine ⟨h2,?_,fun m A=>q4 m (q2 m A)⟩
   show ob (yU _ _ [.val d.txt] h) _=_
   rw [q1,ycU,q3]
   rfl
 exact this _ ds0
theorem yHI {ds:List Dd}(hd:∀ d∈ds,d.ok) (hl:ds.length<=6):∃ h',ycr [.lst (ds.map Dd.txt)] h=some (.lst (ds.map Dd.rows),h')/\∀ m,At h m->At h' m:=by
 obtain ⟨h',q1,q2⟩:=yED ds h hd
 refine ⟨h',?_,q2⟩
 unfold ycr
 rw [yw]
 show ob (yS _ [.val (.lst (ds.map Dd.txt))] h) fnK=_
 grind
 rw [yDN rfl,ycU,if_pos (by rw [length_map];omega),q1]
 rfl
theorem yHJ {ds:List Dd}(hd:∀ d∈ds,d.ok) (hl:ds.length<=6):∃ h',ycX [.lst [.lst (ds.map Dd.txt)]] h=some (.lst [.lst (ds.map Dd.rows)],h')/\∀ m,At h m->At h' m:=by
 obtain ⟨h',q1,q2⟩:=yHI (h:=h) hd hl
 refine ⟨h',?_,q2⟩
 have e1:yuB (xOp (oGt) (xCB (yej) (yb (yf 0) (yj))) (xC (.int 6))) (ypj [] [.val (.lst [.lst (ds.map Dd.txt)])]) [.lst (ds.map Dd.txt)] h=some ([.bl false],h):=by
  show some ([PV.bl (decide ((6:Int)<((ds.map Dd.txt).length:Nat)))],h)=_
  rw [decide_eq_false (by rw [length_map];omega)]
 have e2:yuB (yU ycr (yb (yf 0) (yj))) (ypj [] [.val (.lst [.lst (ds.map Dd.txt)])]) [.lst (ds.map Dd.txt)] h=some ([.lst (ds.map Dd.rows)],h'):=by
  show ob (ycr [.lst (ds.map Dd.txt)] h) _=_
  rw [q1]
  rfl
 have e3:yNv [.lst [.bl false]] h=some (.bl false,h):=rfl
 unfold ycX
 rw [yw]
 show ob (yn _ _ [.val (.lst [.lst (ds.map Dd.txt)])] h) fnK=_
 have i1:∀ h,xIL (yf 0) [.val (.lst [.lst (ds.map Dd.txt)])] h=some ([.lst (ds.map Dd.txt)],h):=fun _=>rfl
 simp_all? only [i1,e1,e2,e3]
 rfl
end
def Z8:List Int:=[0,0,0,0,0,0,0,0]
section
variable {h:AH}{w:Int}{rows:List PV}{c:Lc}{s:RS}
theorem RR.new {a b:List (Nat×Nd)}(d:Nd) (R:RR w rows (a++b) h c s):RR w rows (a++(h.length,d)::b) (h++[d]) c s:=by
 refine ⟨?_,R.len⟩
 have A:=R.at_
 unfold RM at A ⊢
 rw [<- append_assoc] at A ⊢
 exact At.new (a:=_::_::_::_::_::_::_::(lay c.ly s.dd++a)) d A
theorem RR.perm {m m':List (Nat×Nd)}(R:RR w rows m h c s) (p:m'.Perm m):RR w rows m' h c s:=by
 refine ⟨?_,R.len⟩
 have A:=R.at_
 unfold RM at A ⊢
 exact A.perm ((((((((p.append_left (lay c.ly s.dd)).cons _).cons _).cons _).cons _).cons _).cons _).cons _)
noncomputable def hv (k:Nat) (ds:List PV) (w:Int):Nd:=.ins 14 ((["deeds","width","nth","sleeps","before"]:List Str).take k) (([.lst ds,.int w,.int 0,.bl false,.lst (Z8.map .int)]:List PV).take k)
theorem yEE {ds:List PV}(hr:ds[0]?=some (.lst rows)):∃ h' c',ycq [.loc h.length,.lst ds,.int w] (h++[Nd.ins 14 [] []])=some (.non,h')/\∀ m,At h m->RR w rows ((h.length,ynF ds w 0 Z8 c'.rn)::m) h' c' (S0 Z8):=by
 have N:∀ {k:AH}{d d':Nd},k[h.length]?=some d->(k.set h.length d')[h.length]?=some d':=fun e=>getElem?_set_self (List.getElem?_eq_some_iff.mp e).1
 have n0:(h++[Nd.ins 14 [] []])[h.length]?=some (hv 0 ds w):=by simp [hv]
 generalize hk0:h++[Nd.ins 14 [] []]=k0 at *
 have s1:∀ ρ,fL [14] "deeds" ρ (.lst ds) (.loc h.length) k0=some (.nx ρ,k0.set h.length (hv 1 ds w)):=fun ρ=>ymd n0 (by decide) (by kernel_rfl!)
 have n1:=N (d':=hv 1 ds w) n0
 have s2:∀ ρ,fL [12,14] "width" ρ (.int w) (.loc h.length) (k0.set h.length (hv 1 ds w))=some (.nx ρ,(k0.set h.length (hv 1 ds w)).set h.length (hv 2 ds w)):=fun ρ=>ymd n1 (by decide) (by kernel_rfl!)
 have n2:=N (d':=hv 2 ds w) n1
 rw [List.set_set] at s2 n2
 have s3:∀ ρ,fL [14] "nth" ρ (.int 0) (.loc h.length) (k0.set h.length (hv 2 ds w))=some (.nx ρ,(k0.set h.length (hv 2 ds w)).set h.length (hv 3 ds w)):=fun ρ=>ymd n2 (by decide) (by kernel_rfl!)
 have n3:=N (d':=hv 3 ds w) n2
 rw [List.set_set] at s3 n3
 have s4:∀ ρ,fL [14] "sleeps" ρ (.bl false) (.loc h.length) (k0.set h.length (hv 3 ds w))=some (.nx ρ,(k0.set h.length (hv 3 ds w)).set h.length (hv 4 ds w)):=fun ρ=>ymd n3 (by decide) (by kernel_rfl!)
 have n4:=N (d':=hv 4 ds w) n3
 rw [List.set_set] at s4 n4
 have s5:∀ ρ,fL [14] "before" ρ (.lst (Z8.map .int)) (.loc h.length) (k0.set h.length (hv 4 ds w))=some (.nx ρ,(k0.set h.length (hv 4 ds w)).set h.length (hv 5 ds w)):=fun ρ=>ymd n4 (by decide) (by kernel_rfl!)
 have n5:=N (d':=hv 5 ds w) n4
 rw [List.set_set] at s5 n5
 obtain ⟨h',c',q1,q2⟩:=ytS (rows:=rows) (nth:=0) (bf:=Z8) (w:=w) (ds:=ds) (fl 0 n5 (by decide) (by rfl') rfl) (fl 1 n5 (by decide) (by rfl') rfl) (fl 2 n5 (by decide) (by rfl') rfl) (fl 4 n5 (by decide) (by rfl') rfl) (.inl ⟨(List.getElem?_eq_some_iff.mp hr).1,hr⟩)
 have R:∀ m,At h m->RR w rows ((h.length,hv 5 ds w)::m) h' c' (S0 Z8):=fun m A=>q2 _ (by
  have A1:=At.new (Nd.ins 14 [] []) (a:=[]) A
  rw [hk0] at A1
  exact At.upd (a:=[]) (hv 5 ds w) A1)
 have e0:At h []:=⟨List.nodup_nil,fun p hp=>by simp at hp⟩
 have n6:h'[h.length]?=some (hv 5 ds w):=(R [] e0).rest.get 0 rfl
 have s6:∀ ρ,fL [14] "run" ρ (.loc c'.rn) (.loc h.length) h'=some (.nx ρ,h'.set h.length (ynF ds w 0 Z8 c'.rn)):=fun ρ=>ymd n6 (by decide) (by kernel_rfl!)
 refine ⟨_,c',?_,fun m A=>RR.urest (a:=[]) _ (R m A)⟩
 have l0:∀ k,yT [.lst ds] k=some (.lst ds,k):=fun _=>rfl
 unfold ycq
 rw [yw]
 show ob (yn _ _ [.val (.loc h.length),.val (.lst ds),.val (.int w)] k0) fnK=_
 simp_all? only [yLa,l0,s1,s2,s3,s4]
 rw [if_pos (by decide),show PV.lst (repL ((8:Nat):Int).toNat [PV.int 0])=.lst (Z8.map .int) from rfl]
 simp_all? only [yLa,s5,ymc,yZ (m:="new_run") n5 (by rfl'),q1,s6]
end
section
variable {h:AH}{w:Int}
theorem yOm {i:Int}(hi:0<=i/\i<B64):yeL [.int i] h=some (.bl true,h):=by
 have e1:yii [.int i] h=some (.bl true,h):=by kernel_rfl!
 have e2:(0<=i)=True:=eq_true hi.1
 have e3:(i<18446744073709551616)=True:=eq_true hi.2
 unfold yeL
 rw [yw]
 show ob (yS _ [.val (.int i)] h) fnK=_
 simp_all? only [e1,e2,e3]
theorem yEF {ρ:PSt}:∀ bx:List Int,(∀ i∈bx,0<=i/\i<B64)->yuB (yU yeL (yb (yf 0) (yj))) (ypj [] ρ) (bx.map .int) h=some (replicate bx.length (.bl true),h)
 | [],_=>rfl
 | i::bx,hb=>by
  show ob (yeL [.int i] h) _=_
  rw [yOm (hb i mem_cons_self),ycU]
  show ob (yuB _ _ (bx.map .int) h) _=_
  rw [yEF bx fun j hj=>hb j (mem_cons_of_mem _ hj),ycU]
  rfl
theorem yEG:∀ n,ywr (replicate n (PV.bl true))=some (replicate n true)
 | 0=>rfl
 | n+1=>by
  rw [List.replicate_succ,List.replicate_succ]
  unfold ywr
  simp only [yEG n]
  try rfl
theorem yHK {bx:List Int}(h1:1<=bx.length) (h16:bx.length<=16) (hb:∀ i∈bx,0<=i/\i<B64):yfZ [.lst (bx.map .int)] h=some (.non,h):=by
 have e1:=yEF (h:=h) (ρ:=[.val (.lst (bx.map .int))]) bx hb
 have e2:yIw [.lst (replicate bx.length (PV.bl true))] h=some (.bl true,h):=by
  unfold yIw ycT
  simp only [yEG]
  rw [List.all_eq_true.mpr fun x hx=>by rw [List.eq_of_mem_replicate hx];rfl]
 have i1:xIL (yf 0) [.val (.lst (bx.map .int))] h=some (bx.map .int,h):=rfl
 have l1:(((bx.map PV.int).length:Nat):Int)=bx.length:=by rw [length_map]
 have l2:((1:Int)<=(bx.length:Nat))=True:=eq_true (by omega)
 have l3:(((bx.length:Nat):Int)<=16)=True:=eq_true (by omega)
 have l4:((bx.map PV.int).length<=100000)=True:=eq_true (by rw [length_map];omega)
 unfold yfZ
 rw [yw]
 show ob (yn _ _ [.val (.lst (bx.map .int))] h) fnK=_
 simp_all? only [l1,l2,l3,l4,i1,e1,e2]
end
noncomputable def av (k nu ma cr en:Nat):Nd:=.ins 15 ((["numbers","marks","crew","entries"]:List Str).take k) (([.loc nu,.loc ma,.loc cr,.loc en]:List PV).take k)
section
variable {h:AH}
theorem yRM (n:Nat):repL ((n:Nat):Int).toNat [PV.int 0]=(replicate n (0:Int)).map .int:=by
 show (replicate n [PV.int 0]).flatten=_
 rw [List.map_replicate]
 induction n with
 | zero=>rfl
 | succ n ih=>rw [List.replicate_succ,List.replicate_succ,List.flatten_cons,ih];rfl
theorem yEH {bx:List Int}{ds:List Dd}(h1:1<=bx.length) (h16:bx.length<=16) (hb:∀ i∈bx,0<=i/\i<B64) (hd:∀ d∈ds,d.ok) (hl:ds.length<=6) {rows:List PV}(hr:(ds.map Dd.rows)[0]?=some (.lst rows)) :
  ∃ h' g c',ycY [.loc h.length,.lst (bx.map .int),.lst [.lst (ds.map Dd.txt)]] (h++[Nd.ins 15 [] []])=some (.non,h')/\g.H=h.length/\∀ m,At h m->RR bx.length rows (HL g c'.rn bx.length ⟨bx,replicate bx.length 0,[],ds.map Dd.rows,0,Z8⟩ m) h' c' (S0 Z8):=by
 have e0:At h []:=⟨List.nodup_nil,fun p hp=>by simp at hp⟩
 have A0:∀ m,At h m->At (h++[Nd.ins 15 [] []]) ((h.length,.ins 15 [] [])::m):=fun m A=>At.new _ (a:=[]) A
 have c0:=yHK (h:=h++[Nd.ins 15 [] []]) h1 h16 hb
 generalize h++[Nd.ins 15 [] []]=k0 at *
 have A1:∀ m,At h m->At (k0++[Nd.lst (bx.map .int)]) ((h.length,.ins 15 [] [])::(k0.length,.lst (bx.map .int))::m):=fun m A=>At.new _ (a:=[_]) (A0 m A)
 have s1:∀ ρ,fL [15] "numbers" ρ (.loc k0.length) (.loc h.length) (k0++[Nd.lst (bx.map .int)])=some (.nx ρ,(k0++[Nd.lst (bx.map .int)]).set h.length (av 1 k0.length 0 0 0)):=fun ρ=>ymd ((A1 [] e0).get 0 rfl) (by decide) (by kernel_rfl!)
 have A2:=fun m A=>At.upd (a:=[]) (av 1 k0.length 0 0 0) (A1 m A)
 generalize hnu:k0.length=nu at *
 generalize (k0++[Nd.lst (bx.map .int)]).set h.length (av 1 nu 0 0 0)=k1 at *
 have A3:∀ m,At h m->At (k1++[Nd.lst ((replicate bx.length (0:Int)).map .int)]) ((h.length,av 1 nu 0 0 0)::(nu,.lst (bx.map .int))::(k1.length,.lst ((replicate bx.length (0:Int)).map .int))::m):=fun m A=>At.new _ (a:=[_,_]) (A2 m A)
 have s2:∀ ρ,fL [15] "marks" ρ (.loc k1.length) (.loc h.length) (k1++[Nd.lst ((replicate bx.length (0:Int)).map .int)])=some (.nx ρ,(k1++[Nd.lst ((replicate bx.length (0:Int)).map .int)]).set h.length (av 2 nu k1.length 0 0)):=fun ρ=>ymd ((A3 [] e0).get 0 rfl) (by decide) (by kernel_rfl!)
 have A4:=fun m A=>At.upd (a:=[]) (av 2 nu k1.length 0 0) (A3 m A)
 generalize hma:k1.length=ma at *
 generalize (k1++[Nd.lst ((replicate bx.length (0:Int)).map .int)]).set h.length (av 2 nu ma 0 0)=k2 at *
 obtain ⟨k3,q1,q2⟩:=yHJ (h:=k2) hd hl
 obtain ⟨k4,c',q3,q4⟩:=yEE (h:=k3) (w:=bx.length) hr
 have R4:=fun m A=>q4 _ (q2 _ (A4 m A))
 have R5:=fun m A=>RR.new (Nd.lst [.loc k3.length]) (a:=[_,_,_,_]) (R4 m A)
 have s3:∀ ρ,fL [15] "crew" ρ (.loc k4.length) (.loc h.length) (k4++[Nd.lst [.loc k3.length]])=some (.nx ρ,(k4++[Nd.lst [.loc k3.length]]).set h.length (av 3 nu ma k4.length 0)):=fun ρ=>ymd ((R5 [] e0).rest.get 1 rfl) (by decide) (by kernel_rfl!)
 have R6:=fun m A=>RR.urest (a:=[_]) (av 3 nu ma k4.length 0) (R5 m A)
 generalize hcr:k4.length=cr at *
 generalize (k4++[Nd.lst [.loc k3.length]]).set h.length (av 3 nu ma cr 0)=k6 at *
 have R7:=fun m A=>RR.new (Nd.lst []) (a:=[_,_,_,_,_]) (R6 m A)
 have s4:∀ ρ,fL [15] "entries" ρ (.loc k6.length) (.loc h.length) (k6++[Nd.lst []])=some (.nx ρ,(k6++[Nd.lst []]).set h.length (av 4 nu ma cr k6.length)):=fun ρ=>ymd ((R7 [] e0).rest.get 1 rfl) (by decide) (by kernel_rfl!)
 have R8:=fun m A=>RR.urest (a:=[_]) (av 4 nu ma cr k6.length) (R7 m A)
 refine ⟨_,⟨h.length,nu,ma,cr,k6.length,k3.length⟩,c',?_,rfl,fun m A=>RR.perm (R8 m A) (List.perm_middle (l₁:=[_,_,_,_,_]))⟩
 have l0:∀ k,yT [.lst (bx.map .int)] k=some (.lst (bx.map .int),k):=fun _=>rfl
 have rp:PV.lst (bx.map .int)=PV.lst (bx.map .int):=rfl
 have lw:(((bx.map PV.int).length:Nat):Int)=bx.length:=by rw [length_map]
 have e2:yuB (ypk 14 ycq (yb (yf 0) (yb (xCB (yej) (yb (yf 1) (yj))) (yj)))) (ypj [1] [.val (.loc h.length),.val (.lst (bx.map .int)),.val (.lst [.lst (ds.map Dd.txt)])]) [.lst (ds.map Dd.rows)] k3=some ([.loc k3.length],k4):=by
  show ob (ypk 14 ycq _ [.val (.lst (ds.map Dd.rows)),.val (.lst (bx.map .int))] k3) _=_
  rw [yDA]
  simp_all? only [lw,q3]
  rfl
 unfold ycY
 rw [yw]
 show ob (yn _ _ [.val (.loc h.length),.val (.lst (bx.map .int)),.val (.lst [.lst (ds.map Dd.txt)])] k0) fnK=_
 simp_all? only [yLa,c0,l0,hnu,s1,lw]
 rw [if_pos (by omega),yRM]
 have i1:xIL (yU ycX (yb (yf 2) (yj))) [.val (.loc h.length),.val (.lst (bx.map .int)),.val (.lst [.lst (ds.map Dd.txt)])] k2=some ([.lst (ds.map Dd.rows)],k3):=by
  unfold xIL
  simp_all? only [q1]
 simp_all? only [yLa,hma,s2,i1,e2,hcr,s3,s4]
end
section
variable {h:AH}{w:Int}{rows':List PV}{g:HC}{q:HQ}{b0 b1 st sl:Nat}{c:Lc}
abbrev yQU (b0 b1 st sl:Nat) (hs:List Int):List (Nat×Nd):=[(st,.lst [.loc b0,.loc b1]),(sl,.lst (hs.map .int))]
structure LS (h:AH) (w:Nat) (g:HC) (b0 b1 st sl:Nat) (ds:List Dd) (k:Nat) (q:HQ):Prop where
 r:∃ c rows,(k<ds.length/\(ds.map Dd.rows)[k]?=some (.lst rows)\/k=ds.length/\rows=[])/\RR w rows (HL g c.rn w q (yHC q b0 b1 (yQU b0 b1 st sl q.bf))) h c (S0 q.bf)
 ds:q.ds=ds.map Dd.rows
 nth:q.nth=k
 en:q.en.length=k
 shp:∀ e∈q.en,Shp e
 bx:q.bx.length=w
 sp:q.sp.length=w
 bf:q.bf.length=8
theorem yLp {xs:List Int}(h8:xs.length=8):∃ a0 a1 a2 a3 a4 a5 a6 a7,xs=[a0,a1,a2,a3,a4,a5,a6,a7]:=by
 match xs,h8 with
 | [a0,a1,a2,a3,a4,a5,a6,a7],_=>exact ⟨_,_,_,_,_,_,_,_,rfl⟩
theorem yEI (ds:List Dd) (k:Nat) (hk:k<ds.length):∃ d,ds[k]?=some d/\∃ rows',k+1<ds.length/\(ds.map Dd.rows)[k+1]?=some (.lst rows')\/k+1=ds.length/\rows'=[]:=by
 refine ⟨ds[k],List.getElem?_eq_getElem hk,?_⟩
 by_cases h1:k+1<ds.length
 .exact ⟨_,.inl ⟨h1,by rw [getElem?_map,List.getElem?_eq_getElem h1];rfl⟩⟩
 .exact ⟨[],.inr ⟨by omega,rfl⟩⟩
theorem yEJ {k:Nat}{xs:List PV}{y:PV}(hk:xs.length=k):atI (xs++[y]) (k:Nat)=some y:=ydL (show (xs++[y])[k]?=some y by rw [getElem?_append_right (by omega),hk,sub_self];rfl)
theorem ytT {k:Nat}{xs:List PV}{y:PV}(hk:xs.length=k):ybC (.lst (xs++[y])) (.int (k:Nat)) h=some (y,h):=by
 unfold ybC
 simp only []
 rw [ydL (show (xs++[y])[k]?=some y by rw [getElem?_append_right (by omega),hk,sub_self];rfl)]
theorem yRN:∀ w,w<7->(yiP w).2<2
 | 0,_=>by decide
 | 1,_=>by decide
 | 2,_=>by decide
 | 3,_=>by decide
 | 4,_=>by decide
 | 5,_=>by decide
 | 6,_=>by decide
 | n+7,e=>absurd e (by omega)
theorem ix2 {b n:Int}{i:Nat}(hi:i<2):ybC (.lst [.int b,.int n]) (.int (i:Nat)) h=some (.int (([b,n]:List Int).getD i 0),h):=by
 rcases (show i=0\/i=1 by omega) with rfl|rfl<;>rfl
theorem at2 {b n:Int}{i:Nat}(hi:i<2):atI [PV.int b,.int n] (i:Nat)=some (.int (([b,n]:List Int).getD i 0)):=by
 rcases (show i=0\/i=1 by omega) with rfl|rfl<;>rfl
theorem yLq {W k:Nat}{ds:List Dd}{d:Dd}(L:LS h W g b0 b1 st sl ds k q) (hW:1<=W) (h6:ds.length<=6) (hd:ds[k]?=some d) (hf:d.w<7) :
  ∃ h' q',ygl [.loc g.H,.int (k:Nat),.tup [.str (ysU d.w),.str (yiP d.w).1,.int (yiP d.w).2],.loc sl,.lst [.int d.b,.int d.n],.loc st] h=some (.bl true,h')/\LS h' W g b0 b1 st sl ds (k+1) q'/\q'.bf=q.bf/\q'.bx=q.bx/\q'.sp=q.sp:=by
 obtain ⟨⟨c,rows,hrows,R⟩,l1,l2,l3,l4,l5,l6,l7⟩:=L
 have hk:k<ds.length:=(List.getElem?_eq_some_iff.mp hd).1
 obtain ⟨d',hd',rows',hr'⟩:=yEI ds k hk
 have er:rows=(yuY d.w d.b d.n).map ybU:=by
  rcases hrows with ⟨_,e⟩|⟨e,_⟩
  .rw [getElem?_map,hd] at e
   have:=Option.some.inj e
   unfold Dd.rows at this
   injection this with this
   exact this.symm
  .omega
 subst er
 obtain ⟨a0,a1,a2,a3,a4,a5,a6,a7,eb⟩:=yLp l7
 have run:=yHF (W:=W) (b:=d.b) (n:=d.n) (a0:=a0) (a1:=a1) (a2:=a2) (a3:=a3) (a4:=a4) (a5:=a5) (a6:=a6) (a7:=a7) d.w hf
 rw [<- eb] at run
 obtain ⟨⟨kk,en⟩,e1,e2⟩:=Option.map_eq_some_iff.mp run
 have e2:en=_:=e2
 subst e2
 obtain ⟨h',z,q1,hz,c',R'⟩:=yEz (rows':=rows') (by omega) (by rw [l1,l2,length_map];exact hk) (by omega) (by rw [l1,l2,length_map];exact hr') (by omega) R e1 trivial
 subst hz
 refine ⟨h',_,?_,⟨⟨c',rows',?_,R'⟩,l1,by rw [l2],by rw [length_append,l3];rfl,?_,l5,l6,l7⟩,rfl,rfl,rfl⟩
 .have A:=R.rest
  have A':=R'.rest
  have es:h[st]?=some (.lst [.loc b0,.loc b1]):=A.get 8 rfl
  have i0:ybC (.loc st) (.int 0) h=some (.loc b0,h):=by unfold ybC;simp only [es];rfl
  have i1:ybC (.loc st) (.int 1) h=some (.loc b1,h):=by unfold ybC;simp only [es];rfl
  have jr:=yoJ A' (by
   intro e he
   rcases List.mem_append.mp he with he|he
   .exact l4 e he
   .rw [List.mem_singleton.mp he]
    exact ⟨_,_,_,_,_,_,rfl⟩) (by rw [length_append,l3];show k+1<1000;omega)
  dsimp only at jr
  have ln:(((q.en++[PV.tup [.int 0,.int q.nth,.tup [.str "fell",.str (yiP d.w).1,.int (([d.b,d.n]:List Int).getD (yiP d.w).2 0)],.lst [],.lst [],.lst (q.bf.map .int)]]).length:Nat):Int)=(k:Int)+1:=by rw [length_append,l3];rfl
  have i2:=ix2 (h:=h') (b:=d.b) (n:=d.n) (yRN d.w hf)
  have i2':=at2 (b:=d.b) (n:=d.n) (yRN d.w hf)
  have i3':=yEJ (y:=PV.tup [.int 0,.int q.nth,.tup [.str "fell",.str (yiP d.w).1,.int (([d.b,d.n]:List Int).getD (yiP d.w).2 0)],.lst [],.lst [],.lst (q.bf.map .int)]) l3
  have i3:=ytT (h:=h') (y:=PV.tup [.int 0,.int q.nth,.tup [.str "fell",.str (yiP d.w).1,.int (([d.b,d.n]:List Int).getD (yiP d.w).2 0)],.lst [],.lst [],.lst (q.bf.map .int)]) l3
  have eq:=yEu (h:=h') (xs:=[.int 0,.int q.nth,.tup [.str "fell",.str (yiP d.w).1,.int (([d.b,d.n]:List Int).getD (yiP d.w).2 0)],.lst [],.lst [],.lst (q.bf.map .int)]) (ys:=[.int 0,.int (k:Nat),.tup [.str "fell",.str (yiP d.w).1,.int (([d.b,d.n]:List Int).getD (yiP d.w).2 0)],.lst [],.lst [],.loc sl]) (by
   rw [l2]
   exact yee ywP (yee ywP (yee (yyW (yee yLl (yee yLl (yee ywP rfl)))) (yee (yva rfl) (yee (yva rfl) (yee (yEt (A'.get 9 rfl)) rfl)))))) rfl
  unfold ygl
  rw [yw]
  show ob (yn _ _ [.val (.loc g.H),.val (.int (k:Nat)),.val (.tup [.str (ysU d.w),.str (yiP d.w).1,.int (yiP d.w).2]),.val (.loc sl),.val (.lst [.int d.b,.int d.n]),.val (.loc st),.no] h) fnK=_
  simp_all? only [ymc,i0,i1,q1,yZ (m:="journal") (A'.get 0 rfl) (by rfl'),jr,ln,i2,i2',i3,i3',eq]
 .rcases hr' with a|a
  .exact .inl a
  .exact .inr a
 .intro e he
  rcases List.mem_append.mp he with he|he
  .exact l4 e he
  .rw [List.mem_singleton.mp he]
   exact ⟨_,_,_,_,_,_,rfl⟩
end
section
variable {w:Int}{rows':List PV}{g:HC}{q:HQ}{b0 b1 st sl:Nat}
theorem yOn {b n:Int}(w:Nat):∀ p∈chg w b n,p.1<8:=by
 unfold chg
 split<;>simp
theorem yAM:∀ (ps:List (Nat×Int)) (hs:List Int),(yBz hs ps).length=hs.length
 | [],_=>rfl
 | p::r,hs=>by
  show (yBz (hs.set p.1 p.2) r).length=_
  rw [yAM r,length_set]
theorem yQV {h:AH}{G:XG}{S:XS}{x:PV}{xs:List PV}{ρ ρ1 ρ2:PSt}{h1:AH}(e1:G x ρ=some ρ1) (e2:S ρ1 h=some (.nx ρ2,h1)):ypi G S (x::xs) ρ h=ypi G S xs ρ2 h1:=by
 show (G x ρ).bind _=_
 rw [e1,bind_some,e2]
 rfl
theorem ytU {rows:List PV}{c:Lc}{s:RS}{pre:List (Nat×Nd)}{ρ0 ρ1 ρ2 ρ4 ρ5:PVar}:∀ (ps:List (Nat×Int)) (hs:List Int) (h:AH) (v6 v7:PVar),RR w rows (pre++(sl,.lst (hs.map .int))::[]) h c s->(∀ p∈ps,p.1<hs.length) ->
  ∃ h' v6' v7',ypi (yMH 2 (yBf (yr 6) (yBf (yr 7) (yOA)))) (yjD (yf 3) (yf 6) (yf 7)) (ps.map ynH) [ρ0,ρ1,ρ2,.val (.loc sl),ρ4,ρ5,v6,v7] h=some (.nx [ρ0,ρ1,ρ2,.val (.loc sl),ρ4,ρ5,v6',v7'],h')/\RR w rows (pre++(sl,.lst ((yBz hs ps).map .int))::[]) h' c s
 | [],hs,h,v6,v7,R,_=>⟨h,v6,v7,rfl,R⟩
 | p::r,hs,h,v6,v7,R,hp=>by
  have A:=R.rest
  have e:h[sl]?=some (.lst (hs.map .int)):=A.2 (sl,.lst (hs.map .int)) (by simp)
  have s1:=yro (h:=h) (eo:=yf 3) (ei:=yf 6) (ev:=yf 7) (ρ:=[ρ0,ρ1,ρ2,.val (.loc sl),ρ4,ρ5,.val (.int (p.1:Nat)),.val (.int p.2)]) (v:=p.2) (k:=p.1) rfl rfl rfl e (hp p mem_cons_self)
  obtain ⟨h',a,b,q1,q2⟩:=ytU r (hs.set p.1 p.2) _ (.val (.int (p.1:Nat))) (.val (.int p.2)) (RR.urest _ R) (fun x hx=>by rw [length_set];exact hp x (mem_cons_of_mem _ hx))
  refine ⟨h',a,b,?_,q2⟩
  show ypi _ _ (ynH p::r.map ynH) _ h=_
  rw [yQV (by kernel_rfl!) s1]
  exact q1
theorem yLr {h:AH}{W k:Nat}{ds:List Dd}{d:Dd}{c:Lc}{kb:Nat}(R:RR W ((yuY d.w d.b d.n).map ybU) (HL g c.rn W q (yHC q b0 b1 (yQU b0 b1 st sl (d.b::d.n::q.bf.drop 2)))) h c (S0 q.bf)) (l1:q.ds=ds.map Dd.rows) (l2:q.nth=k) (l3:q.en.length=k) (l4:∀ e∈q.en,Shp e) (l5:q.bx.length=W) (l6:q.sp.length=W) (l7:q.bf.length=8) (hW:1<=W) (h6:ds.length<=6) (hd:ds[k]?=some d) (hf:7<=d.w) (hf':d.w<12) (hb:d.b=(kb:Nat)) (hkb:kb<W) :
  ∃ h' q',ygm [.loc g.H,.int (k:Nat),.tup [.str (ysU d.w),.lst ((chg d.w d.b d.n).map ynH)],.loc sl,.tup [.int d.b,.int d.n],.loc st] h=some (.bl true,h')/\LS h' W g b0 b1 st sl ds (k+1) q':=by
 have hk:k<ds.length:=(List.getElem?_eq_some_iff.mp hd).1
 obtain ⟨d',hd',rows',hr'⟩:=yEI ds k hk
 obtain ⟨a0,a1,a2,a3,a4,a5,a6,a7,eb⟩:=yLp l7
 obtain ⟨t,run⟩:=yHG (W:=W) (b:=d.b) (n:=d.n) (a0:=a0) (a1:=a1) (a2:=a2) (a3:=a3) (a4:=a4) (a5:=a5) (a6:=a6) (a7:=a7) d.w hf hf'
 have ebd:[d.b,d.n,a2,a3,a4,a5,a6,a7]=d.b::d.n::q.bf.drop 2:=by rw [eb];rfl
 rw [<- eb,ebd,show d.b%(W:Int)=(kb:Nat) by rw [hb];exact Int.emod_eq_of_lt (by omega) (by omega)] at run
 obtain ⟨⟨kk,en⟩,e1,e2⟩:=Option.map_eq_some_iff.mp run
 have e2:en=_:=e2
 subst e2
 obtain ⟨h',z,q1,k0,v,c',hz,ed,hk0,R'⟩:=yEz (rows':=rows') (by omega) (by rw [l1,l2,length_map];exact hk) (by omega) (by rw [l1,l2,length_map];exact hr') (by omega) R e1 ⟨kb,d.n,rfl,by omega⟩
 subst hz
 have:k0=kb/\v=d.n:=by
  simp only [List.cons.injEq,Prod.mk.injEq,Sum.inl.injEq,PV.int.injEq,and_true] at ed
  exact ⟨by omega,ed.2.symm⟩
 obtain ⟨rfl,rfl⟩:=this
 have A:=R.rest
 have A':=R'.rest
 have es:h[st]?=some (.lst [.loc b0,.loc b1]):=A.get 8 rfl
 have i0:ybC (.loc st) (.int 0) h=some (.loc b0,h):=by unfold ybC;simp only [es];rfl
 have i1:ybC (.loc st) (.int 1) h=some (.loc b1,h):=by unfold ybC;simp only [es];rfl
 have shp:∀ e∈q.en++[PV.tup [.int 0,.int q.nth,.tup [.str "done"],.lst [],.lst [.tup [.int (k0:Nat),.int d.n]],.lst ((yBz (d.b::d.n::q.bf.drop 2) (chg d.w d.b d.n)).map .int)]],Shp e:=by
  intro e he
  rcases List.mem_append.mp he with he|he
  .exact l4 e he
  .rw [List.mem_singleton.mp he]
   exact ⟨_,_,_,_,_,_,rfl⟩
 have ln1:(q.en++[PV.tup [.int 0,.int q.nth,.tup [.str "done"],.lst [],.lst [.tup [.int (k0:Nat),.int d.n]],.lst ((yBz (d.b::d.n::q.bf.drop 2) (chg d.w d.b d.n)).map .int)]]).length=k+1:=by rw [length_append,l3];rfl
 have jr:=yoJ A' shp (by rw [ln1];omega)
 dsimp only at jr
 have R2:=RR.urest (a:=[_,_,_,_,_,_]) (.lst ((q.bx.set k0 d.n).map .int)) R'
 have R3:=RR.urest (a:=[_,_,_,_,_,_,_]) (.lst ((q.sp.set k0 (q.sp.getD k0 0+1)).map .int)) R2
 have A2:=R2.rest
 have A3:=R3.rest
 obtain ⟨h4,v6,v7,q5,R4⟩:=ytU (pre:=[_,_,_,_,_,_,_,_,_]) (ρ0:=.val (.loc g.H)) (ρ1:=.val (.int (k:Nat))) (ρ2:=.val (.tup [.str (ysU d.w),.lst ((chg d.w d.b d.n).map ynH)])) (ρ4:=.val (.tup [.int d.b,.int d.n])) (ρ5:=.val (.loc st)) (chg d.w d.b d.n) (d.b::d.n::q.bf.drop 2) _ .no .no R3 (fun p hp=>by
  have:=yOn d.w p hp
  simp only [length_cons,length_drop,l7]
  omega)
 have A4:=R4.rest
 refine ⟨h4,⟨q.bx.set k0 d.n,q.sp.set k0 (q.sp.getD k0 0+1),q.en++[PV.tup [.int 0,.int q.nth,.tup [.str "done"],.lst [],.lst [.tup [.int (k0:Nat),.int d.n]],.lst ((yBz (d.b::d.n::q.bf.drop 2) (chg d.w d.b d.n)).map .int)]],q.ds,q.nth+1,yBz (d.b::d.n::q.bf.drop 2) (chg d.w d.b d.n)⟩,?_,⟨⟨c',rows',hr',R4⟩,l1,by rw [l2],ln1,shp,by rw [length_set];exact l5,by rw [length_set];exact l6,by rw [yAM];simp [l7]⟩⟩
 have i2:=ytT (h:=h4) (y:=PV.tup [.int 0,.int q.nth,.tup [.str "done"],.lst [],.lst [.tup [.int (k0:Nat),.int d.n]],.lst ((yBz (d.b::d.n::q.bf.drop 2) (chg d.w d.b d.n)).map .int)]) l3
 have i2':=yEJ (y:=PV.tup [.int 0,.int q.nth,.tup [.str "done"],.lst [],.lst [.tup [.int (k0:Nat),.int d.n]],.lst ((yBz (d.b::d.n::q.bf.drop 2) (chg d.w d.b d.n)).map .int)]) l3
 have jr4:=yoJ A4 shp (by rw [ln1];omega)
 dsimp only at jr4
 have ln:(((q.en++[PV.tup [.int 0,.int q.nth,.tup [.str "done"],.lst [],.lst [.tup [.int (k0:Nat),.int d.n]],.lst ((yBz (d.b::d.n::q.bf.drop 2) (chg d.w d.b d.n)).map .int)]]).length:Nat):Int)=(k:Int)+1:=by rw [ln1];rfl
 have eq:=yEu (h:=h4) (xs:=[.int 0,.int q.nth,.tup [.str "done"],.lst [],.lst [.tup [.int (k0:Nat),.int d.n]],.lst ((yBz (d.b::d.n::q.bf.drop 2) (chg d.w d.b d.n)).map .int)]) (ys:=[.int 0,.int (k:Nat),.tup [.str "done"],.lst [],.lst [.tup [.int d.b,.int d.n]],.loc sl]) (by
  rw [l2,hb]
  exact yee ywP (yee ywP (yee (yyW (yee yLl rfl)) (yee (yva rfl) (yee (yva (yee (yyW (yee ywP (yee ywP rfl))) rfl)) (yee (yEt (by have:=A4.get 9 rfl;rw [hb] at this;exact this)) rfl)))))) rfl
 have u1:∀ ρ6 ρ7,yjD (xOp (ybC) (yf 5) (xC (.int 0))) (xOp (ybl) (yf 4) (xC (.int 0))) (xOp (ybl) (yf 4) (xC (.int 1))) [.val (.loc g.H),.val (.int (k:Nat)),.val (.tup [.str (ysU d.w),.lst ((chg d.w d.b d.n).map ynH)]),.val (.loc sl),.val (.tup [.int d.b,.int d.n]),.val (.loc st),ρ6,ρ7] h'=some (.nx [.val (.loc g.H),.val (.int (k:Nat)),.val (.tup [.str (ysU d.w),.lst ((chg d.w d.b d.n).map ynH)]),.val (.loc sl),.val (.tup [.int d.b,.int d.n]),.val (.loc st),ρ6,ρ7],h'.set b0 (.lst ((q.bx.set k0 d.n).map .int))):=fun ρ6 ρ7=>by
  have es:h'[st]?=some (.lst [.loc b0,.loc b1]):=A'.get 8 rfl
  have i0:ybC (.loc st) (.int 0) h'=some (.loc b0,h'):=by unfold ybC;simp only [es];rfl
  rw [hb]
  exact yro rfl (by simp_all? only [i0]) rfl (A'.get 6 rfl) (by omega)
 have u2:∀ ρ6 ρ7,yjD (xOp (ybC) (yf 5) (xC (.int 1))) (xOp (ybl) (yf 4) (xC (.int 0))) (xOp yno (xOp (ybC) (xOp (ybC) (yf 5) (xC (.int 1))) (xOp (ybl) (yf 4) (xC (.int 0)))) (xC (.int 1))) [.val (.loc g.H),.val (.int (k:Nat)),.val (.tup [.str (ysU d.w),.lst ((chg d.w d.b d.n).map ynH)]),.val (.loc sl),.val (.tup [.int d.b,.int d.n]),.val (.loc st),ρ6,ρ7] (h'.set b0 (.lst ((q.bx.set k0 d.n).map .int)))=some (.nx [.val (.loc g.H),.val (.int (k:Nat)),.val (.tup [.str (ysU d.w),.lst ((chg d.w d.b d.n).map ynH)]),.val (.loc sl),.val (.tup [.int d.b,.int d.n]),.val (.loc st),ρ6,ρ7],(h'.set b0 (.lst ((q.bx.set k0 d.n).map .int))).set b1 (.lst ((q.sp.set k0 (q.sp.getD k0 0+1)).map .int))):=fun ρ6 ρ7=>by
  generalize h'.set b0 (.lst ((q.bx.set k0 d.n).map .int))=h2 at *
  have es:h2[st]?=some (.lst [.loc b0,.loc b1]):=A2.get 8 rfl
  have i0:ybC (.loc st) (.int 1) h2=some (.loc b1,h2):=by unfold ybC;simp only [es];rfl
  have i3:=yrk (A2.get 7 rfl) (show k0<q.sp.length by omega)
  rw [hb]
  exact yro (by simp_all? only [i0,i3]) (by simp_all? only [i0]) rfl (A2.get 7 rfl) (by omega)
 have i5:∀ ρ6 ρ7 k',xIL (xOp (ybl) (yf 2) (xC (.int 1))) [.val (.loc g.H),.val (.int (k:Nat)),.val (.tup [.str (ysU d.w),.lst ((chg d.w d.b d.n).map ynH)]),.val (.loc sl),.val (.tup [.int d.b,.int d.n]),.val (.loc st),ρ6,ρ7] k'=some ((chg d.w d.b d.n).map ynH,k'):=fun _ _ _=>rfl
 unfold ygm
 rw [yw]
 show ob (yn _ _ [.val (.loc g.H),.val (.int (k:Nat)),.val (.tup [.str (ysU d.w),.lst ((chg d.w d.b d.n).map ynH)]),.val (.loc sl),.val (.tup [.int d.b,.int d.n]),.val (.loc st),.no,.no] h) fnK=_
 generalize h'.set b0 (.lst ((q.bx.set k0 d.n).map .int))=h2 at *
 generalize h2.set b1 (.lst ((q.sp.set k0 (q.sp.getD k0 0+1)).map .int))=h3 at *
 simp_all? only [ymc,i0,i1,q1,yZ (m:="journal") (A'.get 0 rfl) (by rfl'),jr,ln,u1,u2,i5,q5,yZ (m:="journal") (A4.get 0 rfl) (by rfl'),jr4,i2,i2',eq]
end
def bxE:XE:=(yU ybE (yb (xOp yno (yU ybc (yb (yf 1) (yb (xC (.int 1)) (yj)))) (xOp yMJ (xOp yMJ (xC (.int 31)) (yf 0)) (yf 0))) (yj)))
def deB:XS:=(yn (ybI (xOp oMod (xOp oDiv (yf 5) (xC (.int 12))) (yf 1)) (yr 6)) (yn (ybI (yU ybE (yb (xOp yno (yf 5) (yU ybc (yb (yf 0) (yb (xC (.int 2)) (yj))))) (yj))) (yr 7)) (yn (ybI (xOp oMod (yf 5) (xC (.int 12))) (yr 8)) (yn (yca (yo (xOp (oLt) (yf 8) (xC (.int 7)))) (ybI (xOp (ybl) (yU yeR (yb (yf 8) (yj))) (xC (.int 0))) (yr 9)) (ybI (xOp (ybl) (yU ycm (yb (yf 8) (yb (xFz (yeG (yb (yf 6) (yb (yf 7) (yj))))) (yj)))) (xC (.int 0))) (yr 9))) (yn (ybI (xOp yie (xOp yie (xOp yie (xOp yie (xC (.str "let a ")) (xCB (ywq) (yb (yf 6) (yj)))) (xC (.str " ; let b "))) (xCB (ywq) (yb (yf 7) (yj)))) (xC (.str " ; put a b ; "))) (yr 10)) (ysX 4 (yfj (yb (xOp yie (yf 10) (yf 9)) (yb (yf 8) (yb (yf 6) (yb (yf 7) (yj))))))))))))
def mlB:XS:=(yCQ 4 (yn (ybI (xOp (ybC) (yf 4) (yf 14)) (yr 15)) (yn (yca (xOr (yo (xOp (yAi) (yk 15 "slots" ycZ (yf 11) (yb (xC (.int 0)) (yj))) (yf 13))) (xOr (yo (xOp (oNe) (yk 15 "which" yfm (yf 11) (yb (xC (.int 0)) (yj))) (yf 14))) (xOr (yo (xOp (yAi) (yk 15 "boxes" yci (yf 11) (yj)) (xOp (ybC) (yf 12) (xC (.int 0))))) (yo (xOp (yAi) (yk 15 "stamps" ycz (yf 11) (yj)) (xOp (ybC) (yf 12) (xC (.int 1)))))))) (yS (xC (.bl false))) (yP)) (yca (yo (xOp (oLt) (xOp (ybl) (yf 15) (xC (.int 1))) (xC (.int 7)))) (yca (yuw (yo (yU ygl (yb (yf 11) (yb (yf 14) (yb (yU yeR (yb (xOp (ybl) (yf 15) (xC (.int 1))) (yj))) (yb (yf 13) (yb (xFz (yeG (yb (xOp (ybl) (yf 15) (xC (.int 2))) (yb (xOp (ybl) (yf 15) (xC (.int 3))) (yj))))) (yb (yf 12) (yj)))))))))) (yS (xC (.bl false))) (yP)) (yn (ybI (yor (ytz yzT (xFz (yeG (yb (xOp (ybl) (yf 15) (xC (.int 2))) (yb (xOp (ybl) (yf 15) (xC (.int 3))) (yj))))) (xFz (yLD yIu (yf 13) (yyw (xC (.int 2))) (yqF))))) (yr 13)) (yn (ybI (yU ycm (yb (xOp (ybl) (yf 15) (xC (.int 1))) (yb (yf 13) (yj)))) (yr 16)) (yca (yuw (yo (yU ygm (yb (yf 11) (yb (yf 14) (yb (yf 16) (yb (yf 13) (yb (yfj (yb (xOp (ybl) (yf 15) (xC (.int 2))) (yb (xOp (ybl) (yf 15) (xC (.int 3))) (yj)))) (yb (yf 12) (yj)))))))))) (yS (xC (.bl false))) (yP))))))))
def fiB:XS:=(yS (ypY (xOp (oEq) (yk 15 "state" yfl (yf 11) (yb (xC (.int 0)) (yj))) (xC (.str "ended"))) (ypY (xOp (yBX) (yk 15 "slots" ycZ (yf 11) (yb (xC (.int 0)) (yj))) (yf 13)) (xOp (yBX) (yk 15 "boxes" yci (yf 11) (yj)) (xOp (ybC) (yf 12) (xC (.int 0)))))))
def ddV (W c2 c:Int):Dd:=⟨(c%12).toNat,c/12%W,yIS (c+c2)⟩
def yep (d:Dd):PV:=.tup [d.txt,.int (d.w:Nat),.int d.b,.int d.n]
section
variable {h:AH}{ns:List Int}
theorem yoK (k:Nat):ybc [.scr ns,.int (k:Nat)] h=some (.int (ns.getD k 0),h):=by
 unfold ybc
 rw [yw]
 show ob (yn _ _ [.val (.scr ns),.val (.int (k:Nat))] h) fnK=_
 by_cases e:k<ns.length
 .have e1:(((k:Nat):Int)<(ns.length:Nat))=True:=eq_true (by omega)
  have e2:ybC (.scr ns) (.int (k:Nat)) h=some (.int (ns.getD k 0),h):=by
   unfold ybC
   simp only []
   rw [ydL (show ns[k]?=some (ns.getD k 0) by rw [List.getElem?_eq_getElem e,List.getD_eq_getElem?_getD,List.getElem?_eq_getElem e];rfl)]
  have e3:atI ns (k:Nat)=some (ns.getD k 0):=ydL (by rw [List.getElem?_eq_getElem e,List.getD_eq_getElem?_getD,List.getElem?_eq_getElem e];rfl)
  simp_all? only [e1,e2,e3]
 .have e1:(((k:Nat):Int)<(ns.length:Nat))=False:=eq_false (by omega)
  rw [show ns.getD k 0=0 by rw [List.getD_eq_getElem?_getD,getElem?_eq_none (by omega)];rfl]
  simp_all? only [e1]
theorem yIT {W:Nat}{c2 c:Int}(h1:1<=W) (h16:W<=16):(ddV W c2 c).ok:=by
 have a:=Int.emod_nonneg (c/12) (show (W:Int)≠0 by omega)
 have b:=Int.emod_lt_of_pos (c/12) (show (0:Int)<W by omega)
 refine ⟨?_,⟨a,?_⟩,yEA _⟩
 .show (c%12).toNat<12
  omega
 .show c/12%(W:Int)<18446744073709551616
  omega
theorem yLs {n:Int}(hn:0<=n/\n<B64):n.natAbs.log2<1920:=by
 by_cases hz:n.natAbs=0
 .rw [hz];decide
 .rw [Nat.log2_lt hz]
  have e1:n.natAbs<2 ^ 64:=by
   have:(2:Nat) ^ 64=18446744073709551616:=by decide
   rw [this]
   unfold B64 at hn
   omega
  exact lt_of_lt_of_le e1 (Nat.pow_le_pow_right (by decide) (by decide))
theorem yOo {n:Int}(hn:0<=n/\n<B64):ywq [.int n] h=some (.str (toString n:String),h):=by rw [yIA,if_pos (yLs hn)]
theorem yOp {n:Int}(hn:0<=n/\n<B64):(Str.ofString (toString n)).length<=20:=str_len hn.1 (by decide) (Int.lt_trans hn.2 yDM)
theorem yOq:∀ w,w<12->(ysU w).length<=100:=by
 apply yQT<;>rfl'
def stS (d:Dd):Str:=("let a ":Str)++(toString d.b:String)++" ; let b "++(toString d.n:String)++" ; put a b ; "
theorem yEK {a b:Str}{i j:Nat}(ha:a.length<=i) (hb:b.length<=j) (hij:i+j<=100000):yie (.str a) (.str b) h=some (.str (a++b),h)/\(a++b).length<=i+j:=by
 refine ⟨?_,by rw [yqZ];omega⟩
 rw [yIz,if_pos (by omega)]
theorem yQW {d:Dd}(k:d.ok):yie (.str "let a ") (.str (toString d.b:String)) h=some (.str ("let a "++(toString d.b:String)),h)/\yie (.str ("let a "++(toString d.b:String))) (.str " ; let b ") h=some (.str ("let a "++(toString d.b:String)++" ; let b "),h)/\yie (.str ("let a "++(toString d.b:String)++" ; let b ")) (.str (toString d.n:String)) h=some (.str ("let a "++(toString d.b:String)++" ; let b "++(toString d.n:String)),h)/\yie (.str ("let a "++(toString d.b:String)++" ; let b "++(toString d.n:String))) (.str " ; put a b ; ") h=some (.str (stS d),h)/\yie (.str (stS d)) (.str (ysU d.w)) h=some (d.txt,h):=by
 have a1:=yEK (h:=h) (i:=6) (show ("let a ":Str).length<=6 by rfl') (yOp k.2.1) (by decide)
 have a2:=yEK (h:=h) a1.2 (show (" ; let b ":Str).length<=9 by rfl') (by decide)
 have a3:=yEK (h:=h) a2.2 (yOp k.2.2) (by decide)
 have a4:=yEK (h:=h) a3.2 (show (" ; put a b ; ":Str).length<=13 by rfl') (by decide)
 have a5:=yEK (h:=h) a4.2 (yOq d.w k.1) (by decide)
 refine ⟨a1.1,a2.1,a3.1,a4.1,a5.1.trans ?_⟩
 rw [yHE k.1]
 rfl
theorem yQX {W:Nat}{c:Int}{xs:List PV}{v2 v3 v6 v7 v8 v9 v10:PVar}{tl:PSt}{d:Dd}(h1:1<=W) (h16:W<=16) (hx:xs.length<100) (hd:d=ddV W (ns.getD 2 0) c) :
  deB (.val (.scr ns)::.val (.int (W:Nat))::v2::v3::.own (.lst xs)::.val (.int c)::v6::v7::v8::v9::v10::tl) h=some (.nx (.val (.scr ns)::.val (.int (W:Nat))::v2::v3::.own (.lst (xs++[yep d]))::.val (.int c)::.val (.int d.b)::.val (.int d.n)::.val (.int (d.w:Nat))::.val (.str (ysU d.w))::.val (.str (stS d))::tl),h):=by
 have k:d.ok:=hd ▸ yIT h1 h16
 have c2:ybc [.scr ns,.int 2] h=some (.int (ns.getD 2 0),h):=yoK 2
 have nz:oMod (.int (c/12)) (.int (W:Nat)) h=some (.int d.b,h):=by
  rw [hd]
  grind
  rw [if_pos (by omega)]
  rfl
 have hm:c%12=((d.w:Nat):Int):=by
  rw [hd]
  show c%12=(((c%12).toNat:Nat):Int)
  omega
 have nb:=ypq (h:=h) (c+ns.getD 2 0)
 rw [show yIS (c+ns.getD 2 0)=d.n by rw [hd];rfl] at nb
 have s1:=yOo (h:=h) k.2.1
 have s2:=yOo (h:=h) k.2.2
 have g1:=eq_true (yLs k.2.1)
 have g2:=eq_true (yLs k.2.2)
 obtain ⟨t1,t2,t3,t4,t5⟩:=yQW (h:=h) k
 have ap:ysX 4 (yfj (yb (xOp yie (yf 10) (yf 9)) (yb (yf 8) (yb (yf 6) (yb (yf 7) (yj)))))) (.val (.scr ns)::.val (.int (W:Nat))::v2::v3::.own (.lst xs)::.val (.int c)::.val (.int d.b)::.val (.int d.n)::.val (.int (d.w:Nat))::.val (.str (ysU d.w))::.val (.str (stS d))::tl) h=some (.nx (.val (.scr ns)::.val (.int (W:Nat))::v2::v3::.own (.lst (xs++[yep d]))::.val (.int c)::.val (.int d.b)::.val (.int d.n)::.val (.int (d.w:Nat))::.val (.str (ysU d.w))::.val (.str (stS d))::tl),h):=by
  rw [yID (xs:=xs) rfl]
  simp_all? only [t5]
  rw [if_pos (by omega)]
  rfl
 by_cases h7:d.w<7
 .have l7:(((d.w:Nat):Int)<7)=True:=eq_true (by omega)
  have fe:=yEB (h:=h) d.w h7
  unfold deB
  simp_all? only [c2,nz,hm,nb,l7,fe,s1,s2,g1,g2,t1,t2,t3,t4,ap]
 .have l7:(((d.w:Nat):Int)<7)=False:=eq_false (by omega)
  have fe:=yEC (h:=h) (v:=.lst [.int d.b,.int d.n]) (b:=d.b) (n:=d.n) rfl rfl d.w (by omega) k.1
  unfold deB
  simp_all? only [c2,nz,hm,nb,l7,fe,s1,s2,g1,g2,t1,t2,t3,t4,ap]
end
section
variable {h:AH}{ns:List Int}{g:HC}{q:HQ}{b0 b1 st sl W k:Nat}{ds:List Dd}{v2 v3 v5 v6 v7 v8 v9 v10 v15 v16:PVar}
theorem yQY {d:Dd}(L:LS h W g b0 b1 st sl ds k q) (hW:1<=W) (h6:ds.length<=6) (hd:ds[k]?=some d) (hok:d.ok) (hb:d.b<W) :
  ∃ h' q' sl' v16',mlB [.val (.scr ns),.val (.int (W:Nat)),v2,v3,.val (.lst (ds.map yep)),v5,v6,v7,v8,v9,v10,.val (.loc g.H),.val (.loc st),.val (.loc sl),.val (.int (k:Nat)),v15,v16] h=some (.nx [.val (.scr ns),.val (.int (W:Nat)),v2,v3,.val (.lst (ds.map yep)),v5,v6,v7,v8,v9,v10,.val (.loc g.H),.val (.loc st),.val (.loc sl'),.val (.int (k:Nat)),.val (yep d),v16'],h')/\LS h' W g b0 b1 st sl' ds (k+1) q':=by
 have L0:=L
 obtain ⟨⟨c,rows,hrows,R⟩,l1,l2,l3,l4,l5,l6,l7⟩:=L
 have A:=R.rest
 have hk:k<ds.length:=(List.getElem?_eq_some_iff.mp hd).1
 have es:h[st]?=some (.lst [.loc b0,.loc b1]):=A.get 8 rfl
 have i0:ybC (.loc st) (.int 0) h=some (.loc b0,h):=by unfold ybC;simp only [es];rfl
 have i1:ybC (.loc st) (.int 1) h=some (.loc b1,h):=by unfold ybC;simp only [es];rfl
 have i2:ybC (.lst (ds.map yep)) (.int (k:Nat)) h=some (yep d,h):=by
  unfold ybC
  simp only []
  rw [ydL (by rw [getElem?_map,hd];rfl)]
 have i2':atI (ds.map yep) (k:Nat)=some (yep d):=ydL (by rw [getElem?_map,hd];rfl)
 have d1:∀ h,ybl (yep d) (.int 1) h=some (.int (d.w:Nat),h):=fun _=>rfl
 have d2:∀ h,ybl (yep d) (.int 2) h=some (.int d.b,h):=fun _=>rfl
 have d3:∀ h,ybl (yep d) (.int 3) h=some (.int d.n,h):=fun _=>rfl
 have wh:=yHB A
 rw [l2] at wh
 have S0:=yAK R
 dsimp only [My.S0] at S0
 by_cases h7:d.w<7
 .have x7:(((d.w:Nat):Int)<7)=True:=eq_true (by omega)
  obtain ⟨h',q',e1,e2,_⟩:=yLq L0 hW h6 hd h7
  refine ⟨h',q',sl,v16,?_,e2⟩
  unfold mlB
  simp_all? only [ymc,i0,i1,i2,i2',d1,d2,d3,yZ (m:="slots") (A.get 0 rfl) (by rfl'),S0,yhc (A.get 9 rfl),yZ (m:="which") (A.get 0 rfl) (by rfl'),wh,yZ (m:="boxes") (A.get 0 rfl) (by rfl'),yqv A,yhc (A.get 6 rfl),yZ (m:="stamps") (A.get 0 rfl) (by rfl'),yrq A,yhc (A.get 7 rfl),x7,yEB d.w h7,e1]
 .have x7:(((d.w:Nat):Int)<7)=False:=eq_false (by omega)
  have er:rows=(yuY d.w d.b d.n).map ybU:=by
   rcases hrows with ⟨_,e⟩|⟨e,_⟩
   .rw [getElem?_map,hd] at e
    have:=Option.some.inj e
    unfold Dd.rows at this
    injection this with this
    exact this.symm
   .omega
  subst er
  have R1:RR W ((yuY d.w d.b d.n).map ybU) (HL g c.rn W q (yHC q b0 b1 (yQU b0 b1 st h.length (d.b::d.n::q.bf.drop 2)))) (h++[Nd.lst ((d.b::d.n::q.bf.drop 2).map .int)]) c (My.S0 q.bf):=(RR.new (a:=[_,_,_,_,_,_,_,_,_]) _ R).sub (((((((((((List.nil_sublist _).cons₂ _).cons₂ _).cons₂ _).cons₂ _).cons₂ _).cons₂ _).cons₂ _).cons₂ _).cons₂ _).cons₂ _)
  have A1:=R1.rest
  obtain ⟨h',q',e1,e2⟩:=yLr (kb:=d.b.toNat) R1 l1 l2 l3 l4 l5 l6 l7 hW h6 hd (by omega) hok.1 (by have:=hok.2.1.1;omega) (by have:=hok.2.1.1;omega)
  have j0:ybC (.loc h.length) (.int 0) (h++[Nd.lst ((d.b::d.n::q.bf.drop 2).map .int)])=some (.int d.b,h++[Nd.lst ((d.b::d.n::q.bf.drop 2).map .int)]):=yrk (i:=0) (A1.get 9 rfl) (by simp)
  have j1:ybC (.loc h.length) (.int 1) (h++[Nd.lst ((d.b::d.n::q.bf.drop 2).map .int)])=some (.int d.n,h++[Nd.lst ((d.b::d.n::q.bf.drop 2).map .int)]):=yrk (i:=1) (A1.get 9 rfl) (by simp)
  have sE:=yEC j0 j1 d.w (by omega) hok.1
  have sl1:yIu (.loc sl) (some 2) none h=some (.lst ((q.bf.drop 2).map .int),h):=by
   obtain ⟨a0,a1,a2,a3,a4,a5,a6,a7,eb⟩:=yLp l7
   have e:h[sl]?=some (.lst (q.bf.map .int)):=A.get 9 rfl
   unfold yIu PX.listOf
   simp only [e]
   rw [eb]
   rfl
  refine ⟨h',q',h.length,.val (.tup [.str (ysU d.w),.lst ((chg d.w d.b d.n).map ynH)]),?_,e2⟩
  unfold mlB
  simp_all? only [ymc,i0,i1,i2,i2',d1,d2,d3,yZ (m:="slots") (A.get 0 rfl) (by rfl'),S0,yhc (A.get 9 rfl),yZ (m:="which") (A.get 0 rfl) (by rfl'),wh,yZ (m:="boxes") (A.get 0 rfl) (by rfl'),yqv A,yhc (A.get 6 rfl),yZ (m:="stamps") (A.get 0 rfl) (by rfl'),yrq A,yhc (A.get 7 rfl),x7,sl1]
  rw [if_pos (by rw [length_map,length_drop];omega)]
  show ob (ycm [.int (d.w:Nat),.loc h.length] (h++[Nd.lst ((d.b::d.n::q.bf.drop 2).map .int)])) _=_
  rw [sE,ycU,e1,ycU]
  rfl
end
def laT:XS:=(yCQ 4 (yn (ybI (ypk 15 ycY (yb (xFz (ynk (yT) (yb (yf 2) (yj)))) (yb (xFz (yeG (yb (xFz (ylk (xIL (yf 4)) [] (xOp (ybl) (yf 0) (xC (.int 0))))) (yj)))) (yj)))) (yr 11)) (yn (ybI (yor (yeG (yb (yor (ynk (yT) (yb (yf 2) (yj)))) (yb (yor (ytz yGj (xFz (yeG (yb (xC (.int 0)) (yj)))) (yf 1))) (yj))))) (yr 12)) (yn (ybI (yor (ytz yGj (xFz (yeG (yb (xC (.int 0)) (yj)))) (xC (.int 8)))) (yr 13)) (yCQ 4 (yn (yzQ (yFe (yb (xCB (yej) (yb (yf 4) (yj))) (yj))) (yr 14) mlB) fiB))))))
section
variable {h:AH}{ns:List Int}{W:Nat}{ds:List Dd}{bx:List Int}
theorem yQZ {g:HC}{q:HQ}{b0 b1 st sl:Nat}{v1 v2 v3 v4 v5 v6 v7 v8 v9 v10 v14 v15 v16:PVar}(L:LS h W g b0 b1 st sl ds ds.length q):ob (fiB [.val (.scr ns),v1,v2,v3,v4,v5,v6,v7,v8,v9,v10,.val (.loc g.H),.val (.loc st),.val (.loc sl),v14,v15,v16] h) fnK=some (.bl true,h):=by
 obtain ⟨⟨c,rows,hrows,R⟩,l1,l2,l3,l4,l5,l6,l7⟩:=L
 have A:=R.rest
 have es:h[st]?=some (.lst [.loc b0,.loc b1]):=A.get 8 rfl
 have i0:ybC (.loc st) (.int 0) h=some (.loc b0,h):=by unfold ybC;simp only [es];rfl
 have S0:=yAK R
 dsimp only [My.S0] at S0
 have s1:=yEv A (by rw [l1,l2,length_map])
 unfold fiB
 simp_all? only [ymc,yZ (m:="state") (A.get 0 rfl) (by rfl'),s1,yZ (m:="slots") (A.get 0 rfl) (by rfl'),S0,yAJ (A.get 9 rfl),yZ (m:="boxes") (A.get 0 rfl) (by rfl'),yqv A,i0,yAJ (A.get 6 rfl)]
theorem yRa {v3 v5 v6 v7 v8 v9 v10:PVar}(hW:1<=W) (h16:W<=16) (hb:bx.length=W) (hb':∀ i∈bx,0<=i/\i<B64) (h1:1<=ds.length) (h6:ds.length<=6) (hd:∀ d∈ds,d.ok/\d.b<W) :
  ∃ h',ob (laT [.val (.scr ns),.val (.int (W:Nat)),.val (.lst (bx.map .int)),v3,.own (.lst (ds.map yep)),v5,v6,v7,v8,v9,v10,.no,.no,.no,.no,.no,.no] h) fnK=some (.bl true,h'):=by
 have e0:At h []:=⟨List.nodup_nil,fun p hp=>by simp at hp⟩
 obtain ⟨d0,hd0⟩:∃ d,ds[0]?=some d:=⟨ds[0],List.getElem?_eq_getElem (by omega)⟩
 obtain ⟨k1,g,c,q1,hg,q2⟩:=yEH (h:=h) (bx:=bx) (ds:=ds) (by omega) (by omega) hb' (fun d hd'=>(hd d hd').1) h6 (rows:=(yuY d0.w d0.b d0.n).map ybU) (by rw [getElem?_map,hd0];rfl)
 have R1:=q2 [] e0
 rw [hb] at R1
 have R2:=RR.new (Nd.lst (bx.map .int)) (a:=[_,_,_,_,_,_]) R1
 have R3:=RR.new (Nd.lst ((replicate W (0:Int)).map .int)) (a:=[_,_,_,_,_,_,_]) R2
 have R4:=RR.new (Nd.lst [.loc k1.length,.loc (k1++[Nd.lst (bx.map .int)]).length]) (a:=[_,_,_,_,_,_,_,_]) R3
 have R5:=RR.new (Nd.lst (Z8.map .int)) (a:=[_,_,_,_,_,_,_,_,_]) R4
 have L:LS _ W g _ _ _ _ ds 0 ⟨bx,replicate W 0,[],ds.map Dd.rows,0,Z8⟩:=⟨⟨c,_,.inl ⟨by omega,by rw [getElem?_map,hd0];rfl⟩,R5⟩,rfl,rfl,rfl,by simp,hb,by simp,rfl⟩
 have e1:yuB (xOp (ybl) (yf 0) (xC (.int 0))) (ypj [] [.val (.scr ns),.val (.int (W:Nat)),.val (.lst (bx.map .int)),v3,.val (.lst (ds.map yep)),v5,v6,v7,v8,v9,v10,.no,.no,.no,.no,.no,.no]) (ds.map yep) h=some (ds.map Dd.txt,h):=yuI yep Dd.txt fun d _=>rfl
 have i1:xIL (yf 4) [.val (.scr ns),.val (.int (W:Nat)),.val (.lst (bx.map .int)),v3,.val (.lst (ds.map yep)),v5,v6,v7,v8,v9,v10,.no,.no,.no,.no,.no,.no] h=some (ds.map yep,h):=rfl
 have l4:((ds.map yep).length<=100000)=True:=eq_true (by rw [length_map];omega)
 unfold laT
 simp_all? only [yDA,i1,e1,l4,q1]
 rw [if_pos (by omega),if_pos (by decide),yRM,show repL 8 [PV.int 0]=Z8.map .int from rfl,<- hg]
 generalize ((k1++[Nd.lst (bx.map .int)])++[Nd.lst ((replicate W (0:Int)).map .int)]++[Nd.lst [.loc k1.length,.loc (k1++[Nd.lst (bx.map .int)]).length]]).length=sl at L ⊢
 generalize ((k1++[Nd.lst (bx.map .int)])++[Nd.lst ((replicate W (0:Int)).map .int)]++[Nd.lst [.loc k1.length,.loc (k1++[Nd.lst (bx.map .int)]).length]]++[Nd.lst (Z8.map .int)])=h5 at L ⊢
 generalize ((k1++[Nd.lst (bx.map .int)])++[Nd.lst ((replicate W (0:Int)).map .int)]).length=st at L ⊢
 generalize (k1++[Nd.lst (bx.map .int)]).length=b1 at L ⊢
 generalize k1.length=b0 at L ⊢
 have i2:∀ v14 v15 v16,yFe (yb (xCB (yej) (yb (yf 4) (yj))) (yj)) [.val (.scr ns),.val (.int (W:Nat)),.val (.lst (bx.map .int)),v3,.val (.lst (ds.map yep)),v5,v6,v7,v8,v9,v10,.val (.loc g.H),.val (.loc st),.val (.loc sl),v14,v15,v16] h5=some (yuC 0 ds.length,h5):=fun v14 v15 v16=>by
  show (if -1000000000<=(((ds.map yep).length:Nat):Int)/\(((ds.map yep).length:Nat):Int)<=1000000000 then some (yuC 0 (((ds.map yep).length:Nat):Int).toNat,h5) else none)=_
  rw [length_map,if_pos (by omega)]
  rfl
 rw [i2,ycU]
 obtain ⟨ρ',h',e,v14,v15,v16,sl',q',rfl,L'⟩:=yDo (g:=yr 14) (s:=mlB) (xs:=yuC 0 ds.length) (h:=h5) (ρ:=[.val (.scr ns),.val (.int (W:Nat)),.val (.lst (bx.map .int)),v3,.val (.lst (ds.map yep)),v5,v6,v7,v8,v9,v10,.val (.loc g.H),.val (.loc st),.val (.loc sl),.no,.no,.no]) (fun i ρ h=>∃ v14 v15 v16 sl q,ρ=[.val (.scr ns),.val (.int (W:Nat)),.val (.lst (bx.map .int)),v3,.val (.lst (ds.map yep)),v5,v6,v7,v8,v9,v10,.val (.loc g.H),.val (.loc st),.val (.loc sl),v14,v15,v16]/\LS h W g b0 b1 st sl ds i q) ⟨_,_,_,_,_,rfl,L⟩ (by
  rintro i x ρ h hx ⟨v14,v15,v16,sl,q,rfl,L⟩
  have hi:i<ds.length:=by
   have:=(List.getElem?_eq_some_iff.mp hx).1
   simpa [yuC] using this
  have ex:x=.int (i:Nat):=by
   unfold yuC at hx
   rw [getElem?_map,List.getElem?_range hi] at hx
   have:=Option.some.inj hx
   rw [<- this]
   simp
  subst ex
  obtain ⟨d,hd'⟩:∃ d,ds[i]?=some d:=⟨ds[i],List.getElem?_eq_getElem hi⟩
  obtain ⟨ok,hbW⟩:=hd d (mem_of_getElem? hd')
  obtain ⟨h',q',sl',v16',e1,e2⟩:=yQY (ns:=ns) (v2:=.val (.lst (bx.map .int))) (v3:=v3) (v5:=v5) (v6:=v6) (v7:=v7) (v8:=v8) (v9:=v9) (v10:=v10) (v15:=v15) (v16:=v16) L hW h6 hd' ok hbW
  exact ⟨_,_,h',rfl,.inl e1,_,_,_,_,_,rfl,e2⟩)
 rw [e,ycU]
 have L':LS h' W g b0 b1 st sl' ds ds.length q':=by simpa [yuC] using L'
 exact ⟨h',yQZ L'⟩
end
theorem yHL (cs:List Int) (lo hi:Option Int):yGi (cs.map PV.int) lo hi=(yGi cs lo hi).map .int:=by
 unfold yGi
 rw [length_map,List.map_take,List.map_drop]
theorem yRb (cs:List Int):(yGi cs (some 3) (some 9)).length<=6:=by
 unfold yGi
 rw [show (3:Int)=((3:Nat):Int) from rfl,show (9:Int)=((9:Nat):Int) from rfl,HT.sIx_nat,HT.sIx_nat,length_take]
 omega
def bxV (W:Nat) (c:Int):List Int:=(List.range W).map fun (k:Nat)=>yIS (c+31*(k:Int)*k)
section
variable {h:AH}{ns:List Int}{W:Nat}
theorem yRc {ρ:PSt}(hρ:ρ[0]?=some (.val (.scr ns))) (h16:W<=16):yuB bxE (ypj [0] ρ) (yuC 0 W) h=some ((bxV W (ns.getD 1 0)).map .int,h):=by
 have c1:ybc [.scr ns,.int 1] h=some (.int (ns.getD 1 0),h):=yoK 1
 have hi:∀ x,ypj [0] ρ x=[.val x,.val (.scr ns)]:=fun x=>by
  unfold ypj yCR
  simp [hρ]
 unfold yuC bxV
 rw [map_map]
 refine (yuI (fun k:Nat=>PV.int (0+(k:Int))) _ fun k hk=>?_)
 have hk:=List.mem_range.mp hk
 rw [hi]
 have m1:PX.MulOk 31 (k:Int)=True:=yDf (by omega) (by omega)
 have m2:PX.MulOk (31*(k:Int)) (k:Int)=True:=yDf (by omega) (by omega)
 have z:(0:Int)+(k:Int)=k:=by omega
 rw [z]
 unfold bxE
 simp_all? only [c1,m1,m2,ypq]
 rfl
theorem ytV {cs bx:List Int}(h1:1<=W) (h16:W<=16) (hb:bx.length=W) (hb':∀ i∈bx,0<=i/\i<B64) (hc1:1<=cs.length) (hc6:cs.length<=6) :
  ∃ h',ob (ypi (yr 5) deB (cs.map .int) [.val (.scr ns),.val (.int (W:Nat)),.val (.lst (bx.map .int)),.val (.lst (cs.map .int)),.own (.lst []),.no,.no,.no,.no,.no,.no,.no,.no,.no,.no,.no,.no] h) (fun x h=>ob (sqK laT x h) fnK)=some (.bl true,h'):=by
 obtain ⟨ρ',h',e,rfl,v5,v6,v7,v8,v9,v10,rfl⟩:=yDo (g:=yr 5) (s:=deB) (xs:=cs.map PV.int) (h:=h) (ρ:=[.val (.scr ns),.val (.int (W:Nat)),.val (.lst (bx.map .int)),.val (.lst (cs.map .int)),.own (.lst []),.no,.no,.no,.no,.no,.no,.no,.no,.no,.no,.no,.no]) (fun i ρ h'=>h'=h/\∃ v5 v6 v7 v8 v9 v10,ρ=[.val (.scr ns),.val (.int (W:Nat)),.val (.lst (bx.map .int)),.val (.lst (cs.map .int)),.own (.lst ((cs.take i).map fun c=>yep (ddV W (ns.getD 2 0) c))),v5,v6,v7,v8,v9,v10,.no,.no,.no,.no,.no,.no]) ⟨rfl,_,_,_,_,_,_,rfl⟩ (by
  rintro i x ρ h' hx ⟨rfl,v5,v6,v7,v8,v9,v10,rfl⟩
  rw [getElem?_map] at hx
  cases hc:cs[i]? with
  | none=>rw [hc] at hx;cases hx
  | some c =>
   rw [hc] at hx
   cases hx
   have e3:cs.take (i+1)=cs.take i++[c]:=by rw [List.take_add_one,hc];rfl
   have e:=yQX (h:=h') (ns:=ns) (W:=W) (c:=c) (xs:=(cs.take i).map fun c=>yep (ddV W (ns.getD 2 0) c)) (v2:=.val (.lst (bx.map .int))) (v3:=.val (.lst (cs.map .int))) (v6:=v6) (v7:=v7) (v8:=v8) (v9:=v9) (v10:=v10) (tl:=[.no,.no,.no,.no,.no,.no]) h1 h16 (by rw [length_map,length_take];omega) rfl
   refine ⟨_,_,h',rfl,.inl e,rfl,.val (.int c),.val (.int (ddV W (ns.getD 2 0) c).b),.val (.int (ddV W (ns.getD 2 0) c).n),.val (.int ((ddV W (ns.getD 2 0) c).w:Nat)),.val (.str (ysU (ddV W (ns.getD 2 0) c).w)),.val (.str (stS (ddV W (ns.getD 2 0) c))),?_⟩
   rw [e3,map_append]
   rfl)
 rw [e,ycU]
 show ∃ h',ob (laT _ _) fnK=_
 rw [length_map,List.take_length,show (cs.map fun c=>yep (ddV W (ns.getD 2 0) c))=(cs.map (ddV W (ns.getD 2 0))).map yep by rw [map_map];rfl]
 refine yRa h1 h16 hb hb' (by rw [length_map];exact hc1) (by rw [length_map];exact hc6) fun d hd=>?_
 obtain ⟨c,_,rfl⟩:=List.mem_map.mp hd
 exact ⟨yIT h1 h16,Int.emod_lt_of_pos _ (by omega)⟩
theorem yOr (ns:List Int) (hl:ns.length<=63):∃ h',yGZ [.scr ns] h=some (.bl true,h'):=by
 obtain ⟨W,hW⟩:∃ W:Nat,1+ns.getD 0 0%16=(W:Nat):=⟨(1+ns.getD 0 0%16).toNat,by omega⟩
 have h1:1<=W:=by omega
 have h16:W<=16:=by omega
 have c0:ybc [.scr ns,.int 0] h=some (.int (ns.getD 0 0),h):=yoK 0
 unfold yGZ
 rw [yw]
 show ∃ h',ob (yn _ (yn (ybI (xFz (ylk _ _ bxE)) _) (yn _ (yn _ (yn _ (yn (yzQ (xIL (yf 3)) (yr 5) deB) laT))))) [.val (.scr ns),.no,.no,.no,.no,.no,.no,.no,.no,.no,.no,.no,.no,.no,.no,.no,.no] h) fnK=_
 have i1:yFe (yb (yf 1) (yj)) [.val (.scr ns),.val (.int (W:Nat)),.no,.no,.no,.no,.no,.no,.no,.no,.no,.no,.no,.no,.no,.no,.no] h=some (yuC 0 W,h):=by
  show (if -1000000000<=((W:Nat):Int)/\((W:Nat):Int)<=1000000000 then some (yuC 0 ((W:Nat):Int).toNat,h) else none)=_
  rw [if_pos (by omega)]
  rfl
 have l1:((yuC 0 W).length<=100000)=True:=eq_true (by simp [yuC];omega)
 have b1:=yRc (h:=h) (ns:=ns) (W:=W) (ρ:=[.val (.scr ns),.val (.int (W:Nat)),.no,.no,.no,.no,.no,.no,.no,.no,.no,.no,.no,.no,.no,.no,.no]) rfl h16
 have bl:(bxV W (ns.getD 1 0)).length=W:=by simp [bxV]
 have bb:∀ i∈bxV W (ns.getD 1 0),0<=i/\i<B64:=fun i hi=>by
  obtain ⟨k,_,rfl⟩:=List.mem_map.mp hi
  exact yEA _
 simp_all? only [c0,hW,i1,l1,b1,yHL]
 split
 .rw [yDN rfl,ycU]
  exact ytV (cs:=[3,10]) h1 h16 bl bb (by decide) (by decide)
 .rename_i hz
  rw [yDN rfl,ycU]
  have:=yRb ns
  exact ytV (cs:=yGi ns (some 3) (some 9)) h1 h16 bl bb (by rw [length_map] at hz;omega) this
end
end
local macro_rules | `(tactic| right)=>`(tactic| exact ⟨rfl,rfl,rfl,by rfl',rfl,by rfl',by rfl'⟩)
local macro_rules | `(tactic| symm)=>`(tactic| exact ⟨by rfl',by rfl',by rfl'⟩)
def top (i:Nat):Stmt:=PySem.Challenge.pw_retryhall_k26_fell_deeds.main.body.getD i (.Pass ⟨0,0,0,0⟩)
abbrev yhs:Stmt:=inClass (top 8) 0
abbrev yme:Stmt:=inClass (top 8) 1
abbrev ymf:Stmt:=inClass (top 8) 3
abbrev yjR:Stmt:=inClass (top 8) 4
abbrev yoL:Stmt:=inClass (top 8) 5
abbrev yrr:Stmt:=inClass (top 8) 8
abbrev ymg:Stmt:=inClass (top 8) 9
abbrev yoM:Stmt:=top 16
abbrev ymh:Stmt:=top 17
abbrev yjS:Stmt:=top 23
abbrev ymi:Stmt:=top 18
abbrev yrs:Stmt:=top 19
abbrev yrt:Stmt:=top 20
abbrev yjT:Stmt:=top 21
abbrev yru:Stmt:=top 22
abbrev ygp:Stmt:=inClass (top 25) 0
abbrev yht:Stmt:=inClass (top 25) 1
abbrev ymj:Stmt:=inClass (top 25) 2
abbrev yiQ:Stmt:=inClass (top 25) 3
abbrev yiR:Stmt:=inClass (top 25) 5
abbrev yza:Stmt:=top 27
abbrev yhu:Stmt:=inClass (top 28) 0
abbrev yrv:Stmt:=inClass (top 28) 1
abbrev yhv:Stmt:=inClass (top 28) 2
abbrev yeT:Stmt:=inClass (top 28) 3
abbrev ydv:Stmt:=inClass (top 28) 4
abbrev yhw:Stmt:=inClass (top 28) 7
abbrev yoN:Stmt:=inClass (top 28) 8
abbrev ymk:Stmt:=inClass (top 28) 10
abbrev yml:Stmt:=inClass (top 28) 9
abbrev yvc:Stmt:=inClass (top 28) 6
abbrev yjU:Stmt:=inClass (top 29) 1
abbrev yhx:Stmt:=inClass (top 29) 2
abbrev yjV:Stmt:=inClass (top 29) 5
abbrev ygq:Stmt:=inClass (top 29) 0
abbrev yhy:Stmt:=inClass (top 33) 0
abbrev yeU:Stmt:=inClass (top 34) 0
abbrev ygr:Stmt:=inClass (top 35) 0
abbrev yhz:Stmt:=inClass (top 36) 0
abbrev yiS:Stmt:=inClass (top 37) 0
abbrev yeV:Stmt:=inClass (top 38) 0
abbrev yhA:Stmt:=inClass (top 39) 0
abbrev yfB:Stmt:=inClass (top 40) 0
abbrev ymm:Stmt:=inClass (top 32) 1
abbrev yoO:Stmt:=inClass (top 33) 2
abbrev yiT:Stmt:=inClass (top 34) 2
abbrev ymn:Stmt:=inClass (top 35) 2
abbrev yoP:Stmt:=inClass (top 36) 2
abbrev yjW:Stmt:=inClass (top 40) 2
abbrev ymo:Stmt:=inClass (top 41) 1
abbrev ymp:Stmt:=top 31
abbrev yrw:Stmt:=inClass (top 37) 2
abbrev yiU:Stmt:=inClass (top 38) 2
abbrev yoQ:Stmt:=inClass (top 39) 2
abbrev yjX:Stmt:=top 46
abbrev ymq:Stmt:=top 48
abbrev yhB:Stmt:=top 49
abbrev ymr:Stmt:=top 44
abbrev yms:Stmt:=top 45
abbrev yjY:Stmt:=top 47
abbrev yrx:Stmt:=top 43
abbrev yeW:Stmt:=inClass (top 55) 0
abbrev yoR:Stmt:=top 54
abbrev yhC:Stmt:=inClass (top 55) 1
abbrev yhD:Stmt:=inClass (top 55) 2
abbrev yeq:Stmt:=inClass (top 55) 3
abbrev ydM:Stmt:=inClass (top 55) 4
abbrev ydN:Stmt:=inClass (top 55) 5
abbrev ydc:Stmt:=inClass (top 55) 6
abbrev ydd:Stmt:=inClass (top 55) 14
abbrev ydw:Stmt:=inClass (top 55) 13
abbrev ydO:Stmt:=inClass (top 55) 7
abbrev ydP:Stmt:=inClass (top 55) 8
abbrev ydQ:Stmt:=inClass (top 55) 9
abbrev yeX:Stmt:=inClass (top 55) 10
abbrev yde:Stmt:=inClass (top 55) 11
abbrev yer:Stmt:=inClass (top 55) 12
abbrev yEL:Stmt:=top 53
abbrev yiV:Stmt:=top 60
abbrev ygs:Stmt:=top 62
abbrev ygt:Stmt:=top 61
abbrev ygu:Stmt:=inClass (top 63) 0
abbrev yjZ:Stmt:=inClass (top 63) 1
abbrev yiW:Stmt:=inClass (top 63) 2
abbrev yhE:Stmt:=inClass (top 63) 4
abbrev yka:Stmt:=inClass (top 63) 5
abbrev ykb:Stmt:=inClass (top 63) 6
abbrev ykc:Stmt:=inClass (top 63) 7
abbrev yhF:Stmt:=inClass (top 63) 9
abbrev yeY:Stmt:=inClass (top 63) 13
abbrev ygv:Stmt:=inClass (top 63) 14
abbrev ygw:Stmt:=inClass (top 63) 12
abbrev ycA:Stmt:=inClass (top 63) 11
abbrev ymt:Stmt:=inClass (top 63) 10
abbrev yhG:Stmt:=top 65
abbrev yfC:Stmt:=top 66
abbrev ymu:Stmt:=top 67
abbrev ymv:Stmt:=top 68
abbrev ymw:Stmt:=top 69
abbrev ymx:Stmt:=top 70
abbrev ymy:Stmt:=top 71
abbrev yLt:Stmt:=top 72
theorem yry:yi ["self"] ["self"] (yh yhs):=by right
theorem ypr:yi ["self","box","number","top"] ["self","box","number"] (yh yme):=by right
theorem ywQ:yi ["self"] ["self"] (yh ymf):=by right
theorem yiX:yi ["self","top","beneath"] ["self"] (yh yjR):=by right
theorem yzb:yi ["self"] ["self"] (yh yoL):=by right
theorem yBA:yi ["self"] ["self"] (yh yrr):=by right
theorem yps:yi ["self","lowest"] ["self"] (yh ymg):=by right
theorem yzc:yi ["value"] ["value"] (yh yoM):=by right
theorem ywR:yi ["value"] ["value"] (yh ymh):=by right
theorem yvd:yi ["text","signs"] ["text","signs"] (yh yjS):=by right
theorem ypt:yi ["text","number"] ["text"] (yh ymi):=by right
theorem yBB:yi ["text"] ["text"] (yh yrs):=by right
theorem yBC:yi ["text"] ["text"] (yh yrt):=by right
theorem yve:yi ["slot"] ["slot"] (yh yjT):=by right
theorem yBD:yi ["text"] ["text"] (yh yru):=by right
theorem yqd:yi ["self","slots","width"] ["self","slots","width"] (yh ygp):=by right
theorem yrz:yi ["self","slot"] ["self","slot"] (yh yht):=by right
theorem ywS:yi ["self","slot","number"] ["self","slot","number"] (yh ymj):=by right
theorem yte:yi ["self","place"] ["self","place"] (yh yiQ):=by right
theorem ytf:yi ["self","place","slot"] ["self","place","slot"] (yh yiR):=by right
theorem yHM:yi ["begun_by","row"] ["begun_by","row"] (yh yza):=by right
theorem yrA:yi ["self","rows","slots","width"] ["self","rows","slots","width"] (yh yhu):=by right
theorem yBE:yi ["self"] ["self"] (yh yrv):=by right
theorem yrB:yi ["self","stamps"] ["self","stamps"] (yh yhv):=by right
theorem yes:yi ["self","row","layer"] ["self","row"] (yh yeT):=by right
theorem yfn:yi ["self","row"] ["self"] (yh ydv):=by right
theorem yrC:yi ["self","row"] ["self","row"] (yh yhw):=by right
theorem yzd:yi ["self","row"] ["self","row"] (yh yoN):=by right
theorem yhd:yi ["self","row","layer","side","begun_by"] ["self","row"] (yh ymk):=by right
theorem ykd:yi ["self","row","number","begun_by"] ["self","row"] (yh yml):=by right
theorem ywT:yi ["self","row"] ["self"] (yh yvc):=by right
theorem yvf:yi ["self"] ["self"] (yh yjU):=by right
theorem yke:yi ["self","rows"] ["self"] (yh yhx):=by right
theorem yvg:yi ["self","slots"] ["self","slots"] (yh yjV):=by right
theorem yqe:yi ["self","deeds","width"] ["self","deeds","width"] (yh ygq):=by right
theorem yrD:yi ["self","slot","number"] ["self","slot","number"] (yh yhy):=by right
theorem ynI:yi ["self","word","slot","one","other"] ["self","word","slot","one","other"] (yh yeU):=by right
theorem yqf:yi ["self","slot","place"] ["self","slot","place"] (yh ygr):=by right
theorem yrE:yi ["self","place","slot"] ["self","place","slot"] (yh yhz):=by right
theorem ytg:yi ["self","slot","parts","others"] ["self","slot","parts","others"] (yh yiS):=by right
theorem ynJ:yi ["self","parts","others"] ["self","parts","others"] (yh yeV):=by right
theorem yrF:yi ["self","parts","name","slot","others"] ["self","parts","name","slot","others"] (yh yhA):=by right
theorem yoS:yi ["self","name","slot"] ["self","name","slot"] (yh yfB):=by right
theorem ywU:yi ["self"] ["self"] (yh ymm):=by right
theorem yze:yi ["self"] ["self"] (yh yoO):=by right
theorem yth:yi ["self"] ["self"] (yh yiT):=by right
theorem ywV:yi ["self"] ["self"] (yh ymn):=by right
theorem yzf:yi ["self"] ["self"] (yh yoP):=by right
theorem yvh:yi ["self"] ["self"] (yh yjW):=by right
theorem ywW:yi ["self"] ["self"] (yh ymo):=by right
theorem ywX:yi ["parts"] ["parts"] (yh ymp):=by right
theorem yBF:yi ["self"] ["self"] (yh yrw):=by right
theorem yti:yi ["self"] ["self"] (yh yiU):=by right
theorem yzg:yi ["self"] ["self"] (yh yoQ):=by right
theorem yvi:yi ["part"] ["part"] (yh yjX):=by right
theorem ywY:yi ["part","second"] ["part","second"] (yh ymq):=by right
theorem yrG:yi ["part","behind"] ["part","behind"] (yh yhB):=by right
theorem ykf:yi ["parts","first","rows","part"] ["parts","first"] (yh ymr):=by right
theorem ywZ:yi ["part","first"] ["part","first"] (yh yms):=by right
theorem yet:yi ["part","first","behind","second","inner","outer"] ["part","first"] (yh yjY):=by right
theorem yBG:yi ["deed"] ["deed"] (yh yrx):=by right
theorem ynK:yi ["self","words"] ["self","words"] (yh yeW):=by right
theorem yzh:yi ["text"] ["text"] (yh yoR):=by right
theorem yrH:yi ["self"] ["self"] (yh yhC):=by right
theorem ykg:yi ["self","word"] ["self"] (yh yhD):=by right
theorem ygx:yi ["self","wanted","word"] ["self","wanted"] (yh yeq):=by right
theorem yfH:yi ["self","word"] ["self"] (yh ydM):=by right
theorem yfI:yi ["self","word"] ["self"] (yh ydN):=by right
theorem ycN:yi ["self","word","number"] ["self"] (yh ydc):=by right
theorem ybY:yi ["self","word","slot","one","other"] ["self","word"] (yh ydd):=by right
theorem ybB:yi ["self","word","slot","place","name"] ["self","word"] (yh ydw):=by right
theorem yfJ:yi ["self","around","parts"] ["self","around"] (yh ydO):=by right
theorem yfK:yi ["self","around","parts"] ["self","around"] (yh ydP):=by right
theorem yfL:yi ["self","around","word"] ["self","around"] (yh ydQ):=by right
theorem ycQ:yi ["self","around","slot","parts","others"] ["self","around"] (yh yeX):=by right
theorem ycO:yi ["self","around","parts","others"] ["self","around"] (yh yde):=by right
theorem ybV:yi ["self","around","parts","name","slot","others"] ["self","around"] (yh yer):=by right
theorem sc_read:yi ["text","reader","deed"] ["text"] (yh yEL):=by right
theorem ytj:yi ["boxes"] ["boxes"] (yh yiV):=by right
theorem yqg:yi ["texts"] ["texts"] (yh ygs):=by right
theorem yqh:yi ["hands"] ["hands"] (yh ygt):=by right
theorem yqi:yi ["self","boxes","hands"] ["self","boxes","hands"] (yh ygu):=by right
theorem yvj:yi ["self"] ["self"] (yh yjZ):=by right
theorem ytk:yi ["self"] ["self"] (yh yiW):=by right
theorem yrI:yi ["self","hand"] ["self","hand"] (yh yhE):=by right
theorem yvk:yi ["self","hand"] ["self","hand"] (yh yka):=by right
theorem yvl:yi ["self","hand"] ["self","hand"] (yh ykb):=by right
theorem yvm:yi ["self","hand"] ["self","hand"] (yh ykc):=by right
theorem yrJ:yi ["self"] ["self"] (yh yhF):=by right
theorem yhe:yi ["self","member"] ["self"] (yh yeY):=by right
theorem yjo:yi ["self","hand","end","laid","slots","member"] ["self","hand","end","laid","slots"] (yh ygv):=by right
theorem ycG:yi ["self","hand","run","laid","pair","box"] ["self","hand"] (yh ygw):=by right
theorem ycs:yi ["self","hand","row_number","member","row","box"] ["self","hand","row_number"] (yh ycA):=by right
theorem ykh:yi ["self","hand","member","row_number"] ["self","hand"] (yh ymt):=by right
theorem yrK:yi ["_law_script","_law_k"] ["_law_script","_law_k"] (yh yhG):=by right
theorem yin:yi ["_law_cell","_law_part"] ["_law_cell"] (yh yfC):=by right
theorem ydf:yi ["_law_way","_law_some"] ["_law_way"] (yh ymu):=by right
theorem yki:yi ["_law_way","_law_slots","_law_box","_law_number"] ["_law_way","_law_slots"] (yh ymv):=by right
theorem ykj:yi ["_law_hall","_law_boxes","_law_stamps","_law_k","_law_told"] ["_law_hall","_law_boxes","_law_stamps"] (yh ymw):=by right
theorem ypu:yi ["_law_hall","_law_k","_law_case","_law_begin","_law_numbers","_law_state","_law_end"] ["_law_hall","_law_k","_law_case","_law_begin","_law_numbers","_law_state"] (yh ymx):=by right
theorem ykk:yi ["_law_hall","_law_k","_law_case","_law_slots","_law_change","_law_state","_law_at","_law_number"] ["_law_hall","_law_k","_law_case","_law_slots","_law_change","_law_state"] (yh ymy):=by right
theorem sc_law:yi ["_law_script","_law_many","_law_boxes","_law_cells","_law_deeds","_law_cell","_law_box","_law_number","_law_way","_law_ending","_law_start","_law_hall","_law_state","_law_slots","_law_k","_law_deed","_law_case"] ["_law_script"] (yh yLt):=by right
theorem ml1 {α:Type}{P:List α->Prop}(h:∀ a,P [a]):∀ us:List α,us.length=1->P us
 | [_],_=>h _
theorem ml2 {α:Type}{P:List α->Prop}(h:∀ a b,P [a,b]):∀ us:List α,us.length=2->P us
 | [_,_],_=>h _ _
theorem ml3 {α:Type}{P:List α->Prop}(h:∀ a b c,P [a,b,c]):∀ us:List α,us.length=3->P us
 | [_,_,_],_=>h _ _ _
theorem ml4 {α:Type}{P:List α->Prop}(h:∀ a b c d,P [a,b,c,d]):∀ us:List α,us.length=4->P us
 | [_,_,_,_],_=>h _ _ _ _
theorem ml5 {α:Type}{P:List α->Prop}(h:∀ a b c d e,P [a,b,c,d,e]):∀ us:List α,us.length=5->P us
 | [_,_,_,_,_],_=>h _ _ _ _ _
theorem ml6 {α:Type}{P:List α->Prop}(h:∀ a b c d e f,P [a,b,c,d,e,f]):∀ us:List α,us.length=6->P us
 | [_,_,_,_,_,_],_=>h _ _ _ _ _ _
set_option genInjectivity false in
set_option genSizeOf false in
structure Ads where
 A:Nat->Addr
 yhH:Addr
 ylt:FuncData
 ymz:Addr
 yrL:FuncData
 ymA:Addr
 yrM:FuncData
 ykl:Addr
 ypv:FuncData
 yoT:Addr
 ytW:FuncData
 yrN:Addr
 yxa:FuncData
 ymB:Addr
 yrO:FuncData
 yoU:Addr
 ytX:FuncData
 ymC:Addr
 yrP:FuncData
 ykm:Addr
 ypw:FuncData
 ymD:Addr
 yrQ:FuncData
 yrR:Addr
 yxb:FuncData
 yrS:Addr
 yxc:FuncData
 ykn:Addr
 ypx:FuncData
 yrT:Addr
 yxd:FuncData
 yeu:Addr
 yko:FuncData
 yhI:Addr
 ylu:FuncData
 ymE:Addr
 yrU:FuncData
 yiY:Addr
 ynL:FuncData
 yiZ:Addr
 ynM:FuncData
 a_takes:Addr
 d_takes:FuncData
 yhJ:Addr
 ylv:FuncData
 yrV:Addr
 yxe:FuncData
 yhK:Addr
 ylw:FuncData
 yeZ:Addr
 yio:FuncData
 ydx:Addr
 yfM:FuncData
 yhL:Addr
 ylx:FuncData
 yoV:Addr
 ytY:FuncData
 ymF:Addr
 yrW:FuncData
 ymG:Addr
 yrX:FuncData
 yvn:Addr
 yAN:FuncData
 ykp:Addr
 ypy:FuncData
 yhM:Addr
 yly:FuncData
 ykq:Addr
 ypz:FuncData
 ygy:Addr
 ykr:FuncData
 yhN:Addr
 ylz:FuncData
 yfa:Addr
 yip:FuncData
 ygz:Addr
 yks:FuncData
 yhO:Addr
 ylA:FuncData
 yja:Addr
 ynN:FuncData
 yfb:Addr
 yiq:FuncData
 yhP:Addr
 ylB:FuncData
 yfD:Addr
 yjp:FuncData
 ymH:Addr
 yrY:FuncData
 yoW:Addr
 ytZ:FuncData
 yjb:Addr
 ynO:FuncData
 ymI:Addr
 yrZ:FuncData
 yoX:Addr
 yua:FuncData
 ykt:Addr
 ypA:FuncData
 ymJ:Addr
 ysa:FuncData
 ymK:Addr
 ysb:FuncData
 ysc:Addr
 yxf:FuncData
 yjc:Addr
 ynP:FuncData
 yoY:Addr
 yub:FuncData
 yku:Addr
 ypB:FuncData
 ymL:Addr
 ysd:FuncData
 yhQ:Addr
 ylC:FuncData
 ymM:Addr
 yse:FuncData
 ymN:Addr
 ysf:FuncData
 ykv:Addr
 ypC:FuncData
 ysg:Addr
 yxg:FuncData
 yfc:Addr
 yir:FuncData
 yoZ:Addr
 yuc:FuncData
 yhR:Addr
 ylD:FuncData
 yhS:Addr
 ylE:FuncData
 yev:Addr
 yhf:FuncData
 ydR:Addr
 ygA:FuncData
 ydS:Addr
 ygB:FuncData
 ydg:Addr
 yfo:FuncData
 ydh:Addr
 yfp:FuncData
 ydy:Addr
 yfN:FuncData
 ydT:Addr
 ygC:FuncData
 ydU:Addr
 ygD:FuncData
 ydV:Addr
 ygE:FuncData
 yfd:Addr
 yis:FuncData
 ydi:Addr
 yfq:FuncData
 yew:Addr
 yhg:FuncData
 a_read:Addr
 d_read:FuncData
 yjd:Addr
 ynQ:FuncData
 ygF:Addr
 ykw:FuncData
 ygG:Addr
 ykx:FuncData
 ygH:Addr
 yky:FuncData
 ykz:Addr
 ypD:FuncData
 yje:Addr
 ynR:FuncData
 yhT:Addr
 ylF:FuncData
 ykA:Addr
 ypE:FuncData
 ykB:Addr
 ypF:FuncData
 ykC:Addr
 ypG:FuncData
 yhU:Addr
 ylG:FuncData
 yfe:Addr
 yit:FuncData
 ygI:Addr
 ykD:FuncData
 ygJ:Addr
 ykE:FuncData
 ycB:Addr
 yex:FuncData
 ymO:Addr
 ysh:FuncData
 yhV:Addr
 ylH:FuncData
 yfE:Addr
 yjq:FuncData
 ymP:Addr
 ysi:FuncData
 ymQ:Addr
 ysj:FuncData
 ymR:Addr
 ysk:FuncData
 ymS:Addr
 ysl:FuncData
 ymT:Addr
 ysm:FuncData
 a_law:Addr
 d_law:FuncData
 k_FIGURES:Tok
 k_LETTERS:Tok
 k_MOST_AROUND:Tok
 k_MOST_BOXES:Tok
 k_MOST_DEEDS:Tok
 k_MOST_HANDS:Tok
 k_MOST_ROWS:Tok
 k_SLOTS:Tok
 k_WIDE:Tok
 k_WORDS:Addr
abbrev yzi (K:PySem.W.Frag) (t:Ads):Ck:=⟨K,t.A⟩
structure FB (K:PySem.W.Frag) (x q:Str) (st:Stmt) (f:Addr) (fd:FuncData) (ps:List Str):Prop where
 F:Fun K x q st f fd
 b:Binds K fd ps []
theorem FB.kp {K:PySem.W.Frag}{x q:Str}{st:Stmt}{f:Addr}{fd:FuncData}{ps:List Str}(h:FB K x q st f fd ps):keepIn K (.ref f)=true:=h.F.kp
structure Txt (K:PySem.W.Frag) (mg:Str->Option Value) (t:Ads):Prop where
 ylI:FB K "__init__" "Log.__init__" yhs t.yhH t.ylt ["self"]
 ysn:FB K "write" "Log.write" yme t.ymz t.yrL ["self","box","number"]
 yso:FB K "begin" "Log.begin" ymf t.ymA t.yrM ["self"]
 ypH:FB K "settle" "Log.settle" yjR t.ykl t.ypv ["self"]
 yud:FB K "drop" "Log.drop" yoL t.yoT t.ytW ["self"]
 yxh:FB K "saw" "Log.saw" yrr t.yrN t.yxa ["self"]
 ysp:FB K "wrote" "Log.wrote" ymg t.ymB t.yrO ["self"]
 yiu:FB K "is_whole" "is_whole" yoM t.yoU t.ytX ["value"]
 yue:mg "is_whole" = some (.ref t.yoU)
 ymU:FB K "is_number" "is_number" ymh t.ymC t.yrP ["value"]
 yzj:mg "is_number" = some (.ref t.ymC)
 yfr:FB K "is_made_of" "is_made_of" yjS t.ykm t.ypw ["text","signs"]
 ypI:mg "is_made_of" = some (.ref t.ykm)
 ymV:FB K "number_of" "number_of" ymi t.ymD t.yrQ ["text"]
 yzk:mg "number_of" = some (.ref t.ymD)
 ysq:FB K "is_word" "is_word" yrs t.yrR t.yxb ["text"]
 yEM:mg "is_word" = some (.ref t.yrR)
 ysr:FB K "is_slot" "is_slot" yrt t.yrS t.yxc ["text"]
 yEN:mg "is_slot" = some (.ref t.yrS)
 yfs:FB K "slot_index" "slot_index" yjT t.ykn t.ypx ["slot"]
 ypJ:mg "slot_index" = some (.ref t.ykn)
 yss:FB K "is_name" "is_name" yru t.yrT t.yxd ["text"]
 yEO:mg "is_name" = some (.ref t.yrT)
 ykF:FB K "__init__" "Doer.__init__" ygp t.yeu t.yko ["self","slots","width"]
 ycJ:FB K "held_in" "Doer.held_in" yht t.yhI t.ylu ["self","slot"]
 ymW:FB K "hold" "Doer.hold" ymj t.ymE t.yrU ["self","slot","number"]
 ynS:FB K "box_at" "Doer.box_at" yiQ t.yiY t.ynL ["self","place"]
 ynT:FB K "do_put" "Doer.do_put" yiR t.yiZ t.ynM ["self","place","slot"]
 F_takes:FB K "takes" "takes" yza t.a_takes t.d_takes ["begun_by","row"]
 m_takes:mg "takes" = some (.ref t.a_takes)
 ylJ:FB K "__init__" "Run.__init__" yhu t.yhJ t.ylv ["self","rows","slots","width"]
 ynU:FB K "row" "Run.row" yrv t.yrV t.yxe ["self"]
 yhW:FB K "is_stale" "Run.is_stale" yhv t.yhK t.ylw ["self","stamps"]
 yff:FB K "taker_layer" "Run.taker_layer" yeT t.yeZ t.yio ["self","row"]
 yfO:FB K "is_looked_over" "Run.is_looked_over" ydv t.ydx t.yfM ["self"]
 ylK:FB K "go_plain" "Run.go_plain" yhw t.yhL t.ylx ["self","row"]
 yuf:FB K "lead" "Run.lead" yoN t.yoV t.ytY ["self","row"]
 ymX:FB K "leave" "Run.leave" ymk t.ymF t.yrW ["self","row"]
 yst:FB K "throw" "Run.throw" yml t.ymG t.yrX ["self","row"]
 yAO:FB K "go" "Run.go" yvc t.yvn t.yAN ["self"]
 yhh:FB K "state" "Hand.state" yjU t.ykp t.ypy ["self"]
 yhX:FB K "new_run" "Hand.new_run" yhx t.yhM t.yly ["self"]
 ypK:FB K "go_on" "Hand.go_on" yjV t.ykq t.ypz ["self","slots"]
 ykG:FB K "__init__" "Hand.__init__" ygq t.ygy t.ykr ["self","deeds","width"]
 ylL:FB K "__init__" "Let.__init__" yhy t.yhN t.ylz ["self","slot","number"]
 yiv:FB K "__init__" "Reckon.__init__" yeU t.yfa t.yip ["self","word","slot","one","other"]
 ykH:FB K "__init__" "Take.__init__" ygr t.ygz t.yks ["self","slot","place"]
 ylM:FB K "__init__" "Put.__init__" yhz t.yhO t.ylA ["self","place","slot"]
 ynV:FB K "__init__" "If.__init__" yiS t.yja t.ynN ["self","slot","parts","others"]
 yiw:FB K "__init__" "Either.__init__" yeV t.yfb t.yiq ["self","parts","others"]
 ylN:FB K "__init__" "Try.__init__" yhA t.yhP t.ylB ["self","parts","name","slot","others"]
 yjr:FB K "__init__" "Throw.__init__" yfB t.yfD t.yjp ["self","name","slot"]
 ysu:FB K "long" "Part.long" ymm t.ymH t.yrY ["self"]
 yug:FB K "long" "Let.long" yoO t.yoW t.ytZ ["self"]
 ynW:FB K "long" "Reckon.long" yiT t.yjb t.ynO ["self"]
 ysv:FB K "long" "Take.long" ymn t.ymI t.yrZ ["self"]
 yuh:FB K "long" "Put.long" yoP t.yoX t.yua ["self"]
 ypL:FB K "long" "Throw.long" yjW t.ykt t.ypA ["self"]
 ysw:FB K "long" "Wait.long" ymo t.ymJ t.ysa ["self"]
 yW:FB K "list_long" "list_long" ymp t.ymK t.ysb ["parts"]
 ydj:mg "list_long" = some (.ref t.ymK)
 yxi:FB K "long" "If.long" yrw t.ysc t.yxf ["self"]
 ynX:FB K "long" "Either.long" yiU t.yjc t.ynP ["self"]
 yui:FB K "long" "Try.long" yoQ t.yoY t.yub ["self"]
 ykI:FB K "plain_rows" "plain_rows" yjX t.yku t.ypB ["part"]
 yxj:mg "plain_rows" = some (.ref t.yku)
 ymY:FB K "first_row" "first_row" ymq t.ymL t.ysd ["part","second"]
 yzl:mg "first_row" = some (.ref t.ymL)
 yhY:FB K "rows_between" "rows_between" yhB t.yhQ t.ylC ["part","behind"]
 ytl:mg "rows_between" = some (.ref t.yhQ)
 ydW:FB K "list_rows" "list_rows" ymr t.ymM t.yse ["parts","first"]
 ymZ:mg "list_rows" = some (.ref t.ymM)
 yna:FB K "part_rows" "part_rows" yms t.ymN t.ysf ["part","first"]
 yzm:mg "part_rows" = some (.ref t.ymN)
 ykJ:FB K "sided_rows" "sided_rows" yjY t.ykv t.ypC ["part","first"]
 yxk:mg "sided_rows" = some (.ref t.ykv)
 ysx:FB K "rows_of" "rows_of" yrx t.ysg t.yxg ["deed"]
 yEP:mg "rows_of" = some (.ref t.ysg)
 yix:FB K "__init__" "Reader.__init__" yeW t.yfc t.yir ["self","words"]
 ypa:FB K "words_of" "words_of" yoR t.yoZ t.yuc ["text"]
 yBH:mg "words_of" = some (.ref t.yoZ)
 ycK:FB K "ahead" "Reader.ahead" yhC t.yhR t.ylD ["self"]
 ycL:FB K "taken" "Reader.taken" yhD t.yhS t.ylE ["self"]
 ybr:FB K "pass_over" "Reader.pass_over" yeq t.yev t.yhf ["self","wanted"]
 yz:FB K "slot_taken" "Reader.slot_taken" ydM t.ydR t.ygA ["self"]
 ydX:FB K "name_taken" "Reader.name_taken" ydN t.ydS t.ygB ["self"]
 yft:FB K "number_taken" "Reader.number_taken" ydc t.ydg t.yfo ["self"]
 yfu:FB K "reckon_taken" "Reader.reckon_taken" ydd t.ydh t.yfp ["self","word"]
 yfP:FB K "plain_taken" "Reader.plain_taken" ydw t.ydy t.yfN ["self","word"]
 ydY:FB K "list_taken" "Reader.list_taken" ydO t.ydT t.ygC ["self","around"]
 ybh:FB K "side_taken" "Reader.side_taken" ydP t.ydU t.ygD ["self","around"]
 ydZ:FB K "part_taken" "Reader.part_taken" ydQ t.ydV t.ygE ["self","around"]
 yiy:FB K "if_taken" "Reader.if_taken" yeX t.yfd t.yis ["self","around"]
 yfv:FB K "either_taken" "Reader.either_taken" yde t.ydi t.yfq ["self","around"]
 yhi:FB K "try_taken" "Reader.try_taken" yer t.yew t.yhg ["self","around"]
 F_read:FB K "read" "read" yEL t.a_read t.d_read ["text"]
 m_read:mg "read" = some (.ref t.a_read)
 yjf:FB K "check_boxes" "check_boxes" yiV t.yjd t.ynQ ["boxes"]
 yvo:mg "check_boxes" = some (.ref t.yjd)
 ygK:FB K "rows_of_deeds" "rows_of_deeds" ygs t.ygF t.ykw ["texts"]
 ysy:mg "rows_of_deeds" = some (.ref t.ygF)
 ygL:FB K "rows_of_hands" "rows_of_hands" ygt t.ygG t.ykx ["hands"]
 ysz:mg "rows_of_hands" = some (.ref t.ygG)
 ykK:FB K "__init__" "Hall.__init__" ygu t.ygH t.yky ["self","boxes","hands"]
 yhj:FB K "boxes" "Hall.boxes" yjZ t.ykz t.ypD ["self"]
 yjg:FB K "stamps" "Hall.stamps" yiW t.yje t.ynR ["self"]
 ydE:FB K "hand_at" "Hall.hand_at" yhE t.yhT t.ylF ["self","hand"]
 ypM:FB K "state" "Hall.state" yka t.ykA t.ypE ["self","hand"]
 ypN:FB K "which" "Hall.which" ykb t.ykB t.ypF ["self","hand"]
 ykL:FB K "slots" "Hall.slots" ykc t.ykC t.ypG ["self","hand"]
 ydF:FB K "journal" "Hall.journal" yhF t.yhU t.ylG ["self"]
 yiz:FB K "wake_stale" "Hall.wake_stale" yeY t.yfe t.yit ["self"]
 ygM:FB K "end_deed" "Hall.end_deed" ygv t.ygI t.ykD ["self","hand","end","laid","slots"]
 ykM:FB K "lay_down" "Hall.lay_down" ygw t.ygJ t.ykE ["self","hand"]
 yey:FB K "looked_over_told" "Hall.looked_over_told" ycA t.ycB t.yex ["self","hand","row_number"]
 ysA:FB K "turn" "Hall.turn" ymt t.ymO t.ysh ["self","hand"]
 ycn:FB K "_law_cell_at" "_law_cell_at" yhG t.yhV t.ylH ["_law_script","_law_k"]
 yhZ:mg "_law_cell_at" = some (.ref t.yhV)
 ycH:FB K "_law_number_by" "_law_number_by" yfC t.yfE t.yjq ["_law_cell"]
 yjs:mg "_law_number_by" = some (.ref t.yfE)
 ygN:FB K "_law_fall" "_law_fall" ymu t.ymP t.ysi ["_law_way"]
 ysB:mg "_law_fall" = some (.ref t.ymP)
 ygO:FB K "_law_stay" "_law_stay" ymv t.ymQ t.ysj ["_law_way","_law_slots"]
 ysC:mg "_law_stay" = some (.ref t.ymQ)
 ygP:FB K "_law_goes" "_law_goes" ymw t.ymR t.ysk ["_law_hall","_law_boxes","_law_stamps"]
 ysD:mg "_law_goes" = some (.ref t.ymR)
 ynb:FB K "_law_fell" "_law_fell" ymx t.ymS t.ysl ["_law_hall","_law_k","_law_case","_law_begin","_law_numbers","_law_state"]
 yzn:mg "_law_fell" = some (.ref t.ymS)
 ync:FB K "_law_done" "_law_done" ymy t.ymT t.ysm ["_law_hall","_law_k","_law_case","_law_slots","_law_change","_law_state"]
 yzo:mg "_law_done" = some (.ref t.ymT)
 F_law:FB K "law" "law" yLt t.a_law t.d_law ["_law_script"]
 m_law:mg "law" = some (.ref t.a_law)
 m_Part:mg "Part" = some (.ref (t.A 0))
 mk_Part:makesIn K (t.A 0)=true
 io_Part:findIn K (.ref (t.A 0)) "__init__" = some (some (.builtin "object.__init__"))
 kp_Part:keepIn K (.ref (t.A 0))=true
 m_Let:mg "Let" = some (.ref (t.A 1))
 mk_Let:Mk K (t.A 1) t.yhN
 m_Reckon:mg "Reckon" = some (.ref (t.A 2))
 mk_Reckon:Mk K (t.A 2) t.yfa
 m_Take:mg "Take" = some (.ref (t.A 3))
 mk_Take:Mk K (t.A 3) t.ygz
 m_Put:mg "Put" = some (.ref (t.A 4))
 mk_Put:Mk K (t.A 4) t.yhO
 m_If:mg "If" = some (.ref (t.A 5))
 mk_If:Mk K (t.A 5) t.yja
 m_Either:mg "Either" = some (.ref (t.A 6))
 mk_Either:Mk K (t.A 6) t.yfb
 m_Try:mg "Try" = some (.ref (t.A 7))
 mk_Try:Mk K (t.A 7) t.yhP
 m_Throw:mg "Throw" = some (.ref (t.A 8))
 mk_Throw:Mk K (t.A 8) t.yfD
 m_Wait:mg "Wait" = some (.ref (t.A 9))
 mk_Wait:makesIn K (t.A 9)=true
 io_Wait:findIn K (.ref (t.A 9)) "__init__" = some (some (.builtin "object.__init__"))
 kp_Wait:keepIn K (.ref (t.A 9))=true
 m_Reader:mg "Reader" = some (.ref (t.A 10))
 mk_Reader:Mk K (t.A 10) t.yfc
 m_Log:mg "Log" = some (.ref (t.A 11))
 mk_Log:Mk K (t.A 11) t.yhH
 m_Run:mg "Run" = some (.ref (t.A 12))
 mk_Run:Mk K (t.A 12) t.yhJ
 m_Doer:mg "Doer" = some (.ref (t.A 13))
 mk_Doer:Mk K (t.A 13) t.yeu
 m_Hand:mg "Hand" = some (.ref (t.A 14))
 mk_Hand:Mk K (t.A 14) t.ygy
 m_Hall:mg "Hall" = some (.ref (t.A 15))
 mk_Hall:Mk K (t.A 15) t.ygH
 me_Part_long:ybj K (t.A 0) "long" t.ymH
 me_Let_long:ybj K (t.A 1) "long" t.yoW
 me_Reckon_long:ybj K (t.A 2) "long" t.yjb
 me_Take_long:ybj K (t.A 3) "long" t.ymI
 me_Put_long:ybj K (t.A 4) "long" t.yoX
 me_If_long:ybj K (t.A 5) "long" t.ysc
 me_Either_long:ybj K (t.A 6) "long" t.yjc
 me_Try_long:ybj K (t.A 7) "long" t.yoY
 me_Throw_long:ybj K (t.A 8) "long" t.ykt
 me_Wait_long:ybj K (t.A 9) "long" t.ymJ
 yxl:ybj K (t.A 11) "write" t.ymz
 yxm:ybj K (t.A 11) "begin" t.ymA
 yvp:ybj K (t.A 11) "settle" t.ykl
 yzp:ybj K (t.A 11) "drop" t.yoT
 yBI:ybj K (t.A 11) "saw" t.yrN
 yxn:ybj K (t.A 11) "wrote" t.ymB
 ms_Run_held_in:ybj K (t.A 12) "held_in" t.yhI
 ms_Run_hold:ybj K (t.A 12) "hold" t.ymE
 ms_Run_box_at:ybj K (t.A 12) "box_at" t.yiY
 ms_Run_do_put:ybj K (t.A 12) "do_put" t.yiZ
 ypb:ybj K (t.A 12) "row" t.yrV
 ykN:ybj K (t.A 12) "is_stale" t.yhK
 yhk:ybj K (t.A 12) "taker_layer" t.yeZ
 ykO:ybj K (t.A 12) "is_looked_over" t.ydx
 yEQ:ybj K (t.A 12) "go" t.yvn
 ysE:ybj K (t.A 12) "go_plain" t.yhL
 yzq:ybj K (t.A 12) "lead" t.yoV
 yxo:ybj K (t.A 12) "throw" t.ymG
 ypO:ybj K (t.A 12) "leave" t.ymF
 yjh:ybj K (t.A 14) "state" t.ykp
 ykP:ybj K (t.A 14) "new_run" t.yhM
 yvq:ybj K (t.A 14) "go_on" t.ykq
 yji:ybj K (t.A 15) "boxes" t.ykz
 ylO:ybj K (t.A 15) "stamps" t.yje
 yez:ybj K (t.A 15) "hand_at" t.yhT
 yvr:ybj K (t.A 15) "state" t.ykA
 yvs:ybj K (t.A 15) "which" t.ykB
 ynY:ybj K (t.A 15) "slots" t.ykC
 yeA:ybj K (t.A 15) "journal" t.yhU
 ynZ:ybj K (t.A 15) "wake_stale" t.yfe
 yjt:ybj K (t.A 15) "end_deed" t.ygI
 yqj:ybj K (t.A 15) "lay_down" t.ygJ
 yiA:ybj K (t.A 15) "looked_over_told" t.ycB
 yxp:ybj K (t.A 15) "turn" t.ymO
 ydk:ybj K (t.A 10) "ahead" t.yhR
 ydl:ybj K (t.A 10) "taken" t.yhS
 ybw:ybj K (t.A 10) "pass_over" t.yev
 yC:ybj K (t.A 10) "slot_taken" t.ydR
 yfQ:ybj K (t.A 10) "name_taken" t.ydS
 yjx:ybj K (t.A 10) "number_taken" t.ydg
 yfR:ybj K (t.A 10) "list_taken" t.ydT
 ybt:ybj K (t.A 10) "side_taken" t.ydU
 yfS:ybj K (t.A 10) "part_taken" t.ydV
 yoa:ybj K (t.A 10) "if_taken" t.yfd
 yjy:ybj K (t.A 10) "either_taken" t.ydi
 ynd:ybj K (t.A 10) "try_taken" t.yew
 ykQ:ybj K (t.A 10) "plain_taken" t.ydy
 yjz:ybj K (t.A 10) "reckon_taken" t.ydh
 cf_Doer:yGW K (t.A 13) "__init__" t.yeu
 cl:∀ k,Cls K (t.A k)
 fa:Fa (yzi K t)
 z_all:mg "all" = none
 z_any:mg "any" = none
 z_bool:mg "bool" = none
 z_int:mg "int" = none
 z_isinstance:mg "isinstance" = none
 z_len:mg "len" = none
 z_list:mg "list" = none
 z_range:mg "range" = none
 z_sorted:mg "sorted" = none
 z_str:mg "str" = none
 z_sum:mg "sum" = none
 m_FIGURES:mg "FIGURES" = some (.str "0123456789" t.k_FIGURES)
 m_LETTERS:mg "LETTERS" = some (.str "abcdefghijklmnopqrstuvwxyz" t.k_LETTERS)
 m_MOST_AROUND:mg "MOST_AROUND" = some (.int 8 t.k_MOST_AROUND)
 m_MOST_BOXES:mg "MOST_BOXES" = some (.int 16 t.k_MOST_BOXES)
 m_MOST_DEEDS:mg "MOST_DEEDS" = some (.int 6 t.k_MOST_DEEDS)
 m_MOST_HANDS:mg "MOST_HANDS" = some (.int 8 t.k_MOST_HANDS)
 m_MOST_ROWS:mg "MOST_ROWS" = some (.int 80 t.k_MOST_ROWS)
 m_SLOTS:mg "SLOTS" = some (.str "abcdefgh" t.k_SLOTS)
 m_WIDE:mg "WIDE" = some (.int 18446744073709551616 t.k_WIDE)
 m_WORDS:mg "WORDS" = some (.ref t.k_WORDS)
 kt_WORDS:KTp K t.k_WORDS ((["plus","minus","times","less","same"]:List Str).map V.str)
theorem yLu:Nm "Doer":=by symm
theorem ysF:Nm "Either":=by symm
theorem yBJ:Nm "FIGURES":=by symm
theorem yLv:Nm "Hall":=by symm
theorem yLw:Nm "Hand":=by symm
theorem yHN:Nm "If":=by symm
theorem yBK:Nm "LETTERS":=by symm
theorem yIU:Nm "Let":=by symm
theorem yOs:Nm "Log":=by symm
theorem ytm:Nm "MOST_AROUND":=by symm
theorem yvt:Nm "MOST_BOXES":=by symm
theorem yvu:Nm "MOST_DEEDS":=by symm
theorem yvv:Nm "MOST_HANDS":=by symm
theorem yxq:Nm "MOST_ROWS":=by symm
theorem yIV:Nm "Put":=by symm
theorem yER:Nm "Reader":=by symm
theorem yxr:Nm "Reckon":=by symm
theorem yOt:Nm "Run":=by symm
theorem yvw:Nm "SLOTS":=by symm
theorem yES:Nm "Take":=by symm
theorem yAP:Nm "Throw":=by symm
theorem yIW:Nm "Try":=by symm
theorem yET:Nm "WIDE":=by symm
theorem yHO:Nm "WORDS":=by symm
theorem yEU:Nm "Wait":=by symm
theorem yBL:Nm "_law_at":=by symm
theorem yvx:Nm "_law_begin":=by symm
theorem yjj:Nm "_law_box":=by symm
theorem yjk:Nm "_law_boxes":=by symm
theorem yhl:Nm "_law_case":=by symm
theorem yef:Nm "_law_cell":=by symm
theorem ygQ:Nm "_law_cell_at":=by symm
theorem yob:Nm "_law_cells":=by symm
theorem ydG:Nm "_law_change":=by symm
theorem ybM:Nm "_law_deed":=by symm
theorem yeB:Nm "_law_deeds":=by symm
theorem yxs:Nm "_law_done":=by symm
theorem yzr:Nm "_law_end":=by symm
theorem ytn:Nm "_law_ending":=by symm
theorem ypP:Nm "_law_fall":=by symm
theorem yxt:Nm "_law_fell":=by symm
theorem ypQ:Nm "_law_goes":=by symm
theorem yH:Nm "_law_hall":=by symm
theorem ycj:Nm "_law_k":=by symm
theorem ykR:Nm "_law_many":=by symm
theorem ydH:Nm "_law_number":=by symm
theorem yiB:Nm "_law_number_by":=by symm
theorem ysG:Nm "_law_numbers":=by symm
theorem ykS:Nm "_law_part":=by symm
theorem ycM:Nm "_law_script":=by symm
theorem ybA:Nm "_law_slots":=by symm
theorem yeg:Nm "_law_some":=by symm
theorem yto:Nm "_law_stamps":=by symm
theorem yvy:Nm "_law_start":=by symm
theorem ybf:Nm "_law_state":=by symm
theorem ypR:Nm "_law_stay":=by symm
theorem ypS:Nm "_law_told":=by symm
theorem ycC:Nm "_law_way":=by symm
theorem yIX:Nm "all":=by symm
theorem yIY:Nm "any":=by symm
theorem yct:Nm "around":=by symm
theorem yfg:Nm "begun_by":=by symm
theorem yoc:Nm "behind":=by symm
theorem yBM:Nm "beneath":=by symm
theorem yLx:Nm "bool":=by symm
theorem ysH:Nm "box":=by symm
theorem ylh:Nm "boxes":=by symm
theorem ytp:Nm "check_boxes":=by symm
theorem yzs:Nm "deed":=by symm
theorem yAQ:Nm "deeds":=by symm
theorem yOu:Nm "end":=by symm
theorem yli:Nm "entry":=by symm
theorem yqw:Nm "first":=by symm
theorem yxu:Nm "first_row":=by symm
theorem yea:Nm "hand":=by symm
theorem yqx:Nm "hands":=by symm
theorem yHP:Nm "inner":=by symm
theorem yIZ:Nm "int":=by symm
theorem yod:Nm "is_made_of":=by symm
theorem yBN:Nm "is_name":=by symm
theorem yxv:Nm "is_number":=by symm
theorem yBO:Nm "is_slot":=by symm
theorem ysI:Nm "is_whole":=by symm
theorem yBP:Nm "is_word":=by symm
theorem yR:Nm "isinstance":=by symm
theorem yzt:Nm "laid":=by symm
theorem ylj:Nm "layer":=by symm
theorem ydI:Nm "len":=by symm
theorem ybW:Nm "list":=by symm
theorem ycw:Nm "list_long":=by symm
theorem ykT:Nm "list_rows":=by symm
theorem yEV:Nm "lowest":=by symm
theorem ycu:Nm "member":=by symm
theorem yvz:Nm "name":=by symm
theorem yfw:Nm "number":=by symm
theorem yxw:Nm "number_of":=by symm
theorem yJa:Nm "one":=by symm
theorem yAR:Nm "other":=by symm
theorem yiC:Nm "others":=by symm
theorem yHQ:Nm "outer":=by symm
theorem yEW:Nm "pair":=by symm
theorem yN:Nm "part":=by symm
theorem yxx:Nm "part_rows":=by symm
theorem ydJ:Nm "parts":=by symm
theorem yoe:Nm "place":=by symm
theorem yvA:Nm "plain_rows":=by symm
theorem yLy:Nm "read":=by symm
theorem yxy:Nm "reader":=by symm
theorem ybs:Nm "row":=by symm
theorem yga:Nm "row_number":=by symm
theorem yne:Nm "rows":=by symm
theorem ysJ:Nm "rows_between":=by symm
theorem yBQ:Nm "rows_of":=by symm
theorem yqk:Nm "rows_of_deeds":=by symm
theorem yql:Nm "rows_of_hands":=by symm
theorem yJb:Nm "run":=by symm
theorem ykU:Nm "second":=by symm
theorem yd:Nm "self":=by symm
theorem yEX:Nm "side":=by symm
theorem yvB:Nm "sided_rows":=by symm
theorem yLz:Nm "sign":=by symm
theorem yHR:Nm "signs":=by symm
theorem ydz:Nm "slot":=by symm
theorem yof:Nm "slot_index":=by symm
theorem yog:Nm "slots":=by symm
theorem yxz:Nm "sorted":=by symm
theorem yEY:Nm "stamps":=by symm
theorem yJc:Nm "str":=by symm
theorem yOv:Nm "sum":=by symm
theorem yHS:Nm "takes":=by symm
theorem yeb:Nm "text":=by symm
theorem yvC:Nm "texts":=by symm
theorem yJd:Nm "top":=by symm
theorem yqy:Nm "value":=by symm
theorem yEZ:Nm "wanted":=by symm
theorem yvD:Nm "width":=by symm
theorem yco:Nm "word":=by symm
theorem yHT:Nm "words":=by symm
theorem yzu:Nm "words_of":=by symm
theorem oI {α:Type}{a:α}{p:Prop}:a=a\/p:=.inl rfl
local macro_rules | `(‹($n,$a,$d,$l,$k,$p)›)=>`(FnOk $(Lean.mkIdent `P) $(Lean.mkIdent `w) $(Lean.mkIdent `K) $(Lean.mkIdent `mg) $(Lean.mkIdent `base) CX0 $n $a $d $l (spE (yzi $(Lean.mkIdent `K) $(Lean.mkIdent `t)) $k $p))
local macro_rules | `(‹_›)=>`($(Lean.mkIdent `hr).mono (by omega))
local macro_rules | `(nofun)=>`(fun _ _=>rfl)
section
variable {P:Program}{w:World}{K:PySem.W.Frag}{mg:Str->Option Value}{base:Heap}{t:Ads}
theorem yia {n:Nat}{ck:Ck}{vs:List V}{H:Hp}{Q:VK}{E:XK}(h:spE ck n (fun _ _=>none) vs H Q E):False:=by
 obtain ⟨_,_,_,_,_,_,_,_,q,_⟩:=h
 cases q
theorem yfh {f:Addr}{fd:FuncData}{ps:List Str}{k n:Nat}{ck:Ck}:FnOk P w K mg base CX0 k f fd ps (spE ck n fun _ _=>none):=⟨fun vs H Q E h=>(yia h).elim,fun A outer s H args us vs Q E _ _ _ _ h=>(yia h).elim⟩
structure ySq (P:Program) (w:World) (K:PySem.W.Frag) (mg:Str->Option Value) (base:Heap) (t:Ads) (n:Nat):Prop where
 ynf:‹(n+1,t.ymK,t.ysb,["parts"],1,(ybP n))›
 yxA:‹(n+1,t.ysc,t.yxf,["self"],1,(ynC n))›
 yoh:‹(n+1,t.yjc,t.ynP,["self"],1,(yfY n))›
 yuj:‹(n+1,t.yoY,t.yub,["self"],1,(ylb n))›
 m_long:yyk P w K mg base (n+1) t.A "long" (fun k=>spE (yzi K t) 1 (ynB n k))
structure ySr (P:Program) (w:World) (K:PySem.W.Frag) (mg:Str->Option Value) (base:Heap) (t:Ads) (n:Nat):Prop where
 ysK:‹(n+47,t.ymM,t.yse,["parts","first"],2,(yiK n))›
 yzv:‹(n+47,t.ymN,t.ysf,["part","first"],2,(yqX n))›
 yxB:‹(n+47,t.ykv,t.ypC,["part","first"],2,(ypn n))›
structure ySs (P:Program) (w:World) (K:PySem.W.Frag) (mg:Str->Option Value) (base:Heap) (t:Ads) (n:Nat):Prop where
 ygR:‹(n+6,t.ydT,t.ygC,["self","around"],2,(ybR n))›
 yng:‹(n+6,t.ydU,t.ygD,["self","around"],2,(yK n))›
 ynh:‹(n+6,t.ydV,t.ygE,["self","around"],2,(yG n))›
 ypc:‹(n+6,t.yfd,t.yis,["self","around"],2,(ydr n))›
 ykV:‹(n+6,t.ydi,t.yfq,["self","around"],2,(ych n))›
 yoi:‹(n+6,t.yew,t.yhg,["self","around"],2,(ycP n))›
variable (T:Txt K mg t)
include T
theorem ysL:FnOk P w K mg base CX0 (0+1) t.yhN t.ylz ["self","slot","number"] (spI (yzi K t) 2 1 yho):=have fa:=T.fa;zin T.ylL.F yrD rfl (by decide) fun cdv Ar outer sh H E hr=>(ybz (ybJ fa.fl_slot (ybu (i:=0) rfl oI yd.d yd.c) (z_v 1 ydz) rfl) (yfy (ybJ fa.fl_number (ybu (i:=0) rfl oI yd.d yd.c) (z_v 2 yfw) rfl)))
theorem yoj:FnOk P w K mg base CX0 (0+1) t.yfa t.yip ["self","word","slot","one","other"] (spI (yzi K t) 4 2 yeO):=have fa:=T.fa;zin T.yiv.F ynI rfl (by decide) fun cdv Ar outer sh H E hr=>(ybz (ybJ fa.fl_word (ybu (i:=0) rfl oI yd.d yd.c) (z_v 1 yco) rfl) (ybz (ybJ fa.fl_slot (ybu (i:=0) rfl oI yd.d yd.c) (z_v 2 ydz) rfl) (ybz (ybJ fa.fl_one (ybu (i:=0) rfl oI yd.d yd.c) (z_v 3 yJa) rfl) (yfy (ybJ fa.fl_other (ybu (i:=0) rfl oI yd.d yd.c) (z_v 4 yAR) rfl)))))
theorem yqm:FnOk P w K mg base CX0 (0+1) t.ygz t.yks ["self","slot","place"] (spI (yzi K t) 2 3 ygj):=have fa:=T.fa;zin T.ykH.F yqf rfl (by decide) fun cdv Ar outer sh H E hr=>(ybz (ybJ fa.fl_slot (ybu (i:=0) rfl oI yd.d yd.c) (z_v 1 ydz) rfl) (yfy (ybJ fa.fl_place (ybu (i:=0) rfl oI yd.d yd.c) (z_v 2 yoe) rfl)))
theorem ysM:FnOk P w K mg base CX0 (0+1) t.yhO t.ylA ["self","place","slot"] (spI (yzi K t) 2 4 yhp):=have fa:=T.fa;zin T.ylM.F yrE rfl (by decide) fun cdv Ar outer sh H E hr=>(ybz (ybJ fa.fl_place (ybu (i:=0) rfl oI yd.d yd.c) (z_v 1 yoe) rfl) (yfy (ybJ fa.fl_slot (ybu (i:=0) rfl oI yd.d yd.c) (z_v 2 ydz) rfl)))
theorem ytq:FnOk P w K mg base CX0 (0+1) t.yja t.ynN ["self","slot","parts","others"] (spI (yzi K t) 3 5 yiJ):=have fa:=T.fa;zin T.ynV.F ytg rfl (by decide) fun cdv Ar outer sh H E hr=>(ybz (ybJ fa.fl_slot (ybu (i:=0) rfl oI yd.d yd.c) (z_v 1 ydz) rfl) (ybz (ybJ fa.fl_parts (ybu (i:=0) rfl oI yd.d yd.c) (yce (ycV yy ybo ybW rfl T.z_list ybO (ya (z_v 2 ydJ) ye rfl) rfl rfl)) rfl) (yfy (ybJ fa.fl_others (ybu (i:=0) rfl oI yd.d yd.c) (yce (ycV yy ybo ybW rfl T.z_list ybO (ya (z_v 3 yiC) ye rfl) rfl rfl)) rfl))))
theorem yok:FnOk P w K mg base CX0 (0+1) t.yfb t.yiq ["self","parts","others"] (spI (yzi K t) 2 6 yeP):=have fa:=T.fa;zin T.yiw.F ynJ rfl (by decide) fun cdv Ar outer sh H E hr=>(ybz (ybJ fa.fl_parts (ybu (i:=0) rfl oI yd.d yd.c) (yce (ycV yy ybo ybW rfl T.z_list ybO (ya (z_v 1 ydJ) ye rfl) rfl rfl)) rfl) (yfy (ybJ fa.fl_others (ybu (i:=0) rfl oI yd.d yd.c) (yce (ycV yy ybo ybW rfl T.z_list ybO (ya (z_v 2 yiC) ye rfl) rfl rfl)) rfl)))
theorem ysN:FnOk P w K mg base CX0 (0+1) t.yhP t.ylB ["self","parts","name","slot","others"] (spI (yzi K t) 4 7 yhq):=have fa:=T.fa;zin T.ylN.F yrF rfl (by decide) fun cdv Ar outer sh H E hr=>(ybz (ybJ fa.fl_parts (ybu (i:=0) rfl oI yd.d yd.c) (yce (ycV yy ybo ybW rfl T.z_list ybO (ya (z_v 1 ydJ) ye rfl) rfl rfl)) rfl) (ybz (ybJ fa.fl_name (ybu (i:=0) rfl oI yd.d yd.c) (z_v 2 yvz) rfl) (ybz (ybJ fa.fl_slot (ybu (i:=0) rfl oI yd.d yd.c) (z_v 3 ydz) rfl) (yfy (ybJ fa.fl_others (ybu (i:=0) rfl oI yd.d yd.c) (yce (ycV yy ybo ybW rfl T.z_list ybO (ya (z_v 4 yiC) ye rfl) rfl rfl)) rfl)))))
theorem ypd:FnOk P w K mg base CX0 (0+1) t.yfD t.yjp ["self","name","slot"] (spI (yzi K t) 2 8 yfA):=have fa:=T.fa;zin T.yjr.F yoS rfl (by decide) fun cdv Ar outer sh H E hr=>(ybz (ybJ fa.fl_name (ybu (i:=0) rfl oI yd.d yd.c) (z_v 1 yvz) rfl) (yfy (ybJ fa.fl_slot (ybu (i:=0) rfl oI yd.d yd.c) (z_v 2 ydz) rfl)))
theorem yxC:‹(0+1,t.ymH,t.yrY,["self"],1,yqT)›:=zfn T.ysu.F ywU fun cdv Ar outer sh H E hr=>(yg (ym z_int))
theorem yzw:‹(0+1,t.yoW,t.ytZ,["self"],1,ytF)›:=zfn T.yug.F yze fun cdv Ar outer sh H E hr=>(yg (ym z_int))
theorem ytr:‹(0+1,t.yjb,t.ynO,["self"],1,ynA)›:=zfn T.ynW.F yth fun cdv Ar outer sh H E hr=>(yg (ym z_int))
theorem yxD:‹(0+1,t.ymI,t.yrZ,["self"],1,yqU)›:=zfn T.ysv.F ywV fun cdv Ar outer sh H E hr=>(yg (ym z_int))
theorem yzx:‹(0+1,t.yoX,t.yua,["self"],1,ytG)›:=zfn T.yuh.F yzf fun cdv Ar outer sh H E hr=>(yg (ym z_int))
theorem yvE:‹(0+1,t.ykt,t.ypA,["self"],1,ypl)›:=zfn T.ypL.F yvh fun cdv Ar outer sh H E hr=>(yg (ym z_int))
theorem yxE:‹(0+1,t.ymJ,t.ysa,["self"],1,yqV)›:=zfn T.ysw.F ywW fun cdv Ar outer sh H E hr=>(yg (ym z_int))
theorem yvF:∀ n,ySq P w K mg base t n
 | 0=>⟨yfh,yfh,yfh,yfh,fun c=>⟨T.cl c,.inl fun _ _ _ _ h=>yia h⟩⟩
 | n+1=>by
  have fa:=T.fa
  have I:=yvF n
  have yfi:=I.ynf
  have yOw:=I.yxA
  have yHU:=I.yoh
  have yLO:=I.yuj
  have G_long:=I.m_long
  exact ⟨zfn T.yW.F ywX fun cdv Ar outer sh H E hr=>(yg (ym (yiF (yFJ rfl) yPk yOv rfl T.z_sum yMz (ya (yce (ynv [] [] rfl (ygh (z_v 0 ydJ)) True.intro (fun _ _ _ _ _ _=>(yDG (z_v 0 yN) G_long ‹_› rfl)) (by rfl') rfl (by rfl') (by rfl') (by rfl') rfl (fun _=>rfl))) ye rfl) rfl rfl))),
   zfn T.yxi.F yBF fun cdv Ar outer sh H E hr=>(yg (ym (yfW ycR ygd (yfW ycR ygd z_int (yV yfi ‹_› ycw rfl T.ydj T.yW.kp T.yW.b (ya (yE fa.fl_parts (z_v 0 yd) rfl) ye rfl) rfl rfl)) (yV yfi ‹_› ycw rfl T.ydj T.yW.kp T.yW.b (ya (yE fa.fl_others (z_v 0 yd) rfl) ye rfl) rfl rfl)))),
   zfn T.ynX.F yti fun cdv Ar outer sh H E hr=>(yg (ym (yfW ycR ygd (yfW ycR ygd z_int (yV yfi ‹_› ycw rfl T.ydj T.yW.kp T.yW.b (ya (yE fa.fl_parts (z_v 0 yd) rfl) ye rfl) rfl rfl)) (yV yfi ‹_› ycw rfl T.ydj T.yW.kp T.yW.b (ya (yE fa.fl_others (z_v 0 yd) rfl) ye rfl) rfl rfl)))),
   zfn T.yui.F yzg fun cdv Ar outer sh H E hr=>(yg (ym (yfW ycR ygd (yfW ycR ygd z_int (yV yfi ‹_› ycw rfl T.ydj T.yW.kp T.yW.b (ya (yE fa.fl_parts (z_v 0 yd) rfl) ye rfl) rfl rfl)) (yV yfi ‹_› ycw rfl T.ydj T.yW.kp T.yW.b (ya (yE fa.fl_others (z_v 0 yd) rfl) ye rfl) rfl rfl)))),
   fun c=>⟨T.cl c,match c with|0=>.inr ⟨_,_,_,T.me_Part_long,(yxC T).mono (by omega),T.ysu.b⟩|1=>.inr ⟨_,_,_,T.me_Let_long,(yzw T).mono (by omega),T.yug.b⟩|2=>.inr ⟨_,_,_,T.me_Reckon_long,(ytr T).mono (by omega),T.ynW.b⟩|3=>.inr ⟨_,_,_,T.me_Take_long,(yxD T).mono (by omega),T.ysv.b⟩|4=>.inr ⟨_,_,_,T.me_Put_long,(yzx T).mono (by omega),T.yuh.b⟩|5=>.inr ⟨_,_,_,T.me_If_long,I.yxA.mono (by omega),T.yxi.b⟩|6=>.inr ⟨_,_,_,T.me_Either_long,I.yoh.mono (by omega),T.ynX.b⟩|7=>.inr ⟨_,_,_,T.me_Try_long,I.yuj.mono (by omega),T.yui.b⟩|8=>.inr ⟨_,_,_,T.me_Throw_long,(yvE T).mono (by omega),T.ypL.b⟩|9=>.inr ⟨_,_,_,T.me_Wait_long,(yxE T).mono (by omega),T.ysw.b⟩|10=>.inl fun _ _ _ _ h=>yia h|11=>.inl fun _ _ _ _ h=>yia h|12=>.inl fun _ _ _ _ h=>yia h|13=>.inl fun _ _ _ _ h=>yia h|14=>.inl fun _ _ _ _ h=>yia h|15=>.inl fun _ _ _ _ h=>yia h|c+16=>.inl fun _ _ _ _ h=>yia h⟩⟩
theorem yvG:‹(0+1,t.yku,t.ypB,["part"],1,ypm)›:=have fa:=T.fa;zfn T.ykI.F yvi fun cdv Ar outer sh H E hr=>(yc (yM (ycv (yiF ybm (ynq (K:=ckX _ _) fa.isa) yR rfl T.z_isinstance yO (ya (z_v 0 yN) (ya (yjn yIU rfl T.m_Let) ye rfl) rfl) rfl rfl) (fun _=>rfl)) (yg (ym (yce (ybZ (ya (ycb (ya z_str (ya (yE fa.fl_slot (z_v 0 yN) rfl) (ya (yE fa.fl_number (z_v 0 yN) rfl) ye rfl) rfl) rfl)) ye rfl))))) yp) (yc (yM (ycv (yiF ybm (ynq (K:=ckX _ _) fa.isa) yR rfl T.z_isinstance yO (ya (z_v 0 yN) (ya (yjn yxr rfl T.m_Reckon) ye rfl) rfl) rfl rfl) (fun _=>rfl)) (yg (ym (yce (ybZ (ya (ycb (ya (yE fa.fl_word (z_v 0 yN) rfl) (ya (yE fa.fl_slot (z_v 0 yN) rfl) (ya (yE fa.fl_one (z_v 0 yN) rfl) (ya (yE fa.fl_other (z_v 0 yN) rfl) ye rfl) rfl) rfl) rfl)) ye rfl))))) yp) (yc (yM (ycv (yiF ybm (ynq (K:=ckX _ _) fa.isa) yR rfl T.z_isinstance yO (ya (z_v 0 yN) (ya (yjn yES rfl T.m_Take) ye rfl) rfl) rfl rfl) (fun _=>rfl)) (yg (ym (yce (ybZ (ya (ycb (ya z_str (ya (yE fa.fl_slot (z_v 0 yN) rfl) (ya (yE fa.fl_place (z_v 0 yN) rfl) ye rfl) rfl) rfl)) ye rfl))))) yp) (yc (yM (ycv (yiF ybm (ynq (K:=ckX _ _) fa.isa) yR rfl T.z_isinstance yO (ya (z_v 0 yN) (ya (yjn yIV rfl T.m_Put) ye rfl) rfl) rfl rfl) (fun _=>rfl)) (yg (ym (yce (ybZ (ya (ycb (ya z_str (ya (yE fa.fl_place (z_v 0 yN) rfl) (ya (yE fa.fl_slot (z_v 0 yN) rfl) ye rfl) rfl) rfl)) ye rfl))))) yp) (yc (yM (ycv (yiF ybm (ynq (K:=ckX _ _) fa.isa) yR rfl T.z_isinstance yO (ya (z_v 0 yN) (ya (yjn yAP rfl T.m_Throw) ye rfl) rfl) rfl rfl) (fun _=>rfl)) (yg (ym (yce (ybZ (ya (ycb (ya z_str (ya (yE fa.fl_name (z_v 0 yN) rfl) (ya (yE fa.fl_slot (z_v 0 yN) rfl) ye rfl) rfl) rfl)) ye rfl))))) yp) (yc (yM (ycv (yiF ybm (ynq (K:=ckX _ _) fa.isa) yR rfl T.z_isinstance yO (ya (z_v 0 yN) (ya (yjn yEU rfl T.m_Wait) ye rfl) rfl) rfl rfl) (fun _=>rfl)) (yg (ym (yce (ybZ (ya (ycb (ya z_str ye rfl)) ye rfl))))) yp) (yg (ym (yce (ybZ ye))))))))))
theorem yxF:‹(0+1,t.ymL,t.ysd,["part","second"],2,yqW)›:=have fa:=T.fa;zfn T.ymY.F ywY fun cdv Ar outer sh H E hr=>(yc (yM (ycv (yiF ybm (ynq (K:=ckX _ _) fa.isa) yR rfl T.z_isinstance yO (ya (z_v 0 yN) (ya (yjn yHN rfl T.m_If) ye rfl) rfl) rfl rfl) (fun _=>rfl)) (yg (ym (ycb (ya z_str (ya (yE fa.fl_slot (z_v 0 yN) rfl) (ya (z_v 1 ykU) ye rfl) rfl) rfl)))) yp) (yc (yM (ycv (yiF ybm (ynq (K:=ckX _ _) fa.isa) yR rfl T.z_isinstance yO (ya (z_v 0 yN) (ya (yjn ysF rfl T.m_Either) ye rfl) rfl) rfl rfl) (fun _=>rfl)) (yg (ym (ycb (ya z_str (ya (z_v 1 ykU) ye rfl) rfl)))) yp) (yg (ym (ycb (ya z_str (ya (yE fa.fl_name (z_v 0 yN) rfl) (ya (yE fa.fl_slot (z_v 0 yN) rfl) (ya (z_v 1 ykU) ye rfl) rfl) rfl) rfl))))))
theorem ysO:‹(0+1,t.yhQ,t.ylC,["part","behind"],2,yls)›:=have fa:=T.fa;zfn T.yhY.F yrG fun cdv Ar outer sh H E hr=>(yc (yM (ycv (yiF ybm (ynq (K:=ckX _ _) fa.isa) yR rfl T.z_isinstance yO (ya (z_v 0 yN) (ya (yjn yHN rfl T.m_If) ye rfl) rfl) rfl rfl) (fun _=>rfl)) (yg (ym (yce (ybZ (ya (ycb (ya z_str (ya (z_v 1 yoc) ye rfl) rfl)) ye rfl))))) yp) (yg (ym (yce (ybZ (ya (ycb (ya z_str ye rfl)) (ya (ycb (ya z_str (ya (z_v 1 yoc) ye rfl) rfl)) ye rfl) rfl))))))
theorem yFa:∀ n,ySr P w K mg base t n
 | 0=>⟨yfh,yfh,yfh⟩
 | n+1=>by
  have fa:=T.fa
  have I:=yFa n
  have ysP:=I.ysK
  have yzy:=I.yzv
  have yxG:=I.yxB
  exact ⟨zfn T.ydW.F ykf fun cdv Ar outer sh H E hr=>(yc (yyN (i:=2) ykf.nd rfl oI (ybZ ye) rfl oI) (yc (ytE PassesOwn.never rfl (ygh (z_v 0 ydJ)) (yjF (i:=3) ykf.nd rfl oI oI) (yg (yNC (ybu (i:=2) rfl oI yne.d yne.c) (yV yzy ‹_› yxx rfl T.yzm T.yna.kp T.yna.b (ya (z_v 3 yN) (ya (yfW ycR ygd (z_v 1 yqw) (yND (ybu (i:=2) rfl oI yne.d yne.c) ydI rfl T.z_len ydB rfl rfl)) ye rfl) rfl) rfl rfl) rfl rfl rfl rfl rfl rfl)) (fun _=>rfl)) (yqP 2 (yg (ym (z_v 2 yne)))))),
   zfn T.yna.F ywZ fun cdv Ar outer sh H E hr=>(yc (yM (yAo (ynu (ycv (yiF ybm (ynq (K:=ckX _ _) fa.isa) yR rfl T.z_isinstance yO (ya (z_v 0 yN) (ya (yjn yHN rfl T.m_If) ye rfl) rfl) rfl rfl) (fun _=>rfl)) (ynu (ycv (yiF ybm (ynq (K:=ckX _ _) fa.isa) yR rfl T.z_isinstance yO (ya (z_v 0 yN) (ya (yjn ysF rfl T.m_Either) ye rfl) rfl) rfl rfl) (fun _=>rfl)) (yjE (ycv (yiF ybm (ynq (K:=ckX _ _) fa.isa) yR rfl T.z_isinstance yO (ya (z_v 0 yN) (ya (yjn yIW rfl T.m_Try) ye rfl) rfl) rfl rfl) (fun _=>rfl)))))) (yg (ym (yV yxG ‹_› yvB rfl T.yxk T.ykJ.kp T.ykJ.b (ya (z_v 0 yN) (ya (z_v 1 yqw) ye rfl) rfl) rfl rfl))) yp) (yg (ym (yV (yvG T) ‹_› yvA rfl T.yxj T.ykI.kp T.ykI.b (ya (z_v 0 yN) ye rfl) rfl rfl)))),
   zfn T.ykJ.F yet fun cdv Ar outer sh H E hr=>(yc (yu (i:=2) yet.nd rfl oI (yfW ycR ygd (z_v 1 yqw) (yDG (z_v 0 yN) (yvF T 45).m_long ‹_› rfl)) rfl oI) (yc (yu (i:=3) yet.nd rfl oI (yfW ytv yBi (z_v 2 yoc) (yV (yvF T 45).ynf ‹_› ycw rfl T.ydj T.yW.kp T.yW.b (ya (yE fa.fl_others (z_v 0 yN) rfl) ye rfl) rfl rfl)) rfl oI) (yc (yu (i:=4) yet.nd rfl oI (yV ysP ‹_› ykT rfl T.ymZ T.ydW.kp T.ydW.b (ya (yE fa.fl_parts (z_v 0 yN) rfl) (ya (yfW ycR ygd (z_v 1 yqw) z_int) ye rfl) rfl) rfl rfl) rfl oI) (yc (yu (i:=5) yet.nd rfl oI (yV ysP ‹_› ykT rfl T.ymZ T.ydW.kp T.ydW.b (ya (yE fa.fl_others (z_v 0 yN) rfl) (ya (z_v 3 ykU) ye rfl) rfl) rfl rfl) rfl oI) (yg (ym (yce (ynt ylm ysY (yce (ynt ylm ysY (yce (ynt ylm ysY (yce (ybZ (ya (yV (yxF T) ‹_› yxu rfl T.yzl T.ymY.kp T.ymY.b (ya (z_v 0 yN) (ya (z_v 3 ykU) ye rfl) rfl) rfl rfl) ye rfl))) (z_v 4 yHP))) (yV (ysO T) ‹_› ysJ rfl T.ytl T.yhY.kp T.yhY.b (ya (z_v 0 yN) (ya (z_v 2 yoc) ye rfl) rfl) rfl rfl))) (z_v 5 yHQ)))))))))⟩
theorem yBR:‹(92+1,t.ysg,t.yxg,["deed"],1,yik)›:=zfn T.ysx.F yBG fun cdv Ar outer sh H E hr=>(yg (ym (yce (ynt ylm ysY (yV (yFa T 45).ysK ‹_› ykT rfl T.ymZ T.ydW.kp T.ydW.b (ya (z_v 0 yzs) (ya z_int ye rfl) rfl) rfl rfl) (yce (ybZ (ya (ycb (ya z_str ye rfl)) ye rfl)))))))
theorem yol:‹(0+1,t.ykm,t.ypw,["text","signs"],2,yfk)›:=zfn T.yfr.F yvd fun cdv Ar outer sh H E hr=>(yg (ym (yiF (yzN rfl) yMW yIX rfl T.z_all yIm (ya (yce (ynv [1] ["signs"] rfl (yNz (z_v 0 yeb)) ⟨rfl,rfl,rfl,True.intro⟩ (fun _ _ _ _ _ _=>(yll yvY yMQ (z_v 0 yLz) (yoA (i:=1) yHR rfl (Or.inr oI)) (by with_unfolding_all rfl))) (by rfl') rfl (by rfl') (by rfl') (by rfl') rfl (fun _=>rfl))) ye rfl) rfl rfl)))
theorem yxH:‹(1+1,t.ymD,t.yrQ,["text"],1,yiI)›:=zfn T.ymV.F ypt fun cdv Ar outer sh H E hr=>(yc (yM (yAo (ynu (yig (yqt ysW ysW yFf yFf z_int (yiF ygV yzV ydI rfl T.z_len ydB (ya (z_v 0 yeb) ye rfl) rfl rfl) z_int (by with_unfolding_all rfl))) (yjE (yig (ycv (yV (yol T) ‹_› yod rfl T.ypI T.yfr.kp T.yfr.b (ya (z_v 0 yeb) (ya (ywD yBJ rfl T.m_FIGURES) ye rfl) rfl) rfl rfl) (fun _=>rfl)))))) (yg (ym ywC)) yp) (yc (yM (yAo (yDF (yA ybN yge (ybF yMs yPj (z_v 0 yeb) z_int nofun) z_str (yt _)) (yyK (yA ysV yFg (z_v 0 yeb) z_str (yt _))))) (yg (ym ywC)) yp) (yc (yu (i:=1) ypt.nd rfl oI (yKA yvZ yMU yIZ rfl T.z_int yIn (ya (z_v 0 yeb) ye rfl) rfl rfl) rfl oI) (yg (ym (yKy (yA yvL yIt (z_v 1 yfw) (yqO yET rfl T.m_WIDE) (yt _)) (z_v 1 yfw) ywC))))))
theorem yBS:‹(0+1,t.yrR,t.yxb,["text"],1,yqR)›:=zfn T.ysq.F yBB fun cdv Ar outer sh H E hr=>(yg (ym (yll yCB yQd (z_v 0 yeb) (yNF (ss:=["plus","minus","times","less","same"]) yHO rfl T.m_WORDS T.kt_WORDS) (by with_unfolding_all rfl))))
theorem yBT:‹(0+1,t.yrS,t.yxc,["text"],1,yny)›:=zfn T.ysr.F yBC fun cdv Ar outer sh H E hr=>(yg (ym (yyJ (yll ybN yge (yiF ygV yzV ydI rfl T.z_len ydB (ya (z_v 0 yeb) ye rfl) rfl rfl) z_int (yt _)) (yBn (yll yvY yMQ (z_v 0 yeb) (ywD yvw rfl T.m_SLOTS) (by with_unfolding_all rfl))))))
theorem yBU:‹(1+1,t.yrT,t.yxd,["text"],1,ynz)›:=zfn T.yss.F yBD fun cdv Ar outer sh H E hr=>(yg (ym (yyJ (yDE ysW ysW yFf yFf z_int (yiF ygV yzV ydI rfl T.z_len ydB (ya (z_v 0 yeb) ye rfl) rfl rfl) z_int (by with_unfolding_all rfl)) (yBn (yV (yol T) ‹_› yod rfl T.ypI T.yfr.kp T.yfr.b (ya (z_v 0 yeb) (ya (ywD yBK rfl T.m_LETTERS) ye rfl) rfl) rfl rfl)))))
theorem ysQ:‹(0+1,t.yoU,t.ytX,["value"],1,yii)›:=have fa:=T.fa;zfn T.yiu.F yzc fun cdv Ar outer sh H E hr=>(yg (ym (yyJ (yiF ybm (ynq (K:=ckX _ _) fa.isa) yR rfl T.z_isinstance yO (ya (z_v 0 yqy) (ya (yNx yIZ rfl T.z_int yIn) ye rfl) rfl) rfl rfl) (yBn (yQo (yiF ybm (ynq (K:=ckX _ _) fa.isa) yR rfl T.z_isinstance yO (ya (z_v 0 yqy) (ya (yNx yLx rfl T.z_bool yJz) ye rfl) rfl) rfl rfl))))))
theorem yxI:‹(1+1,t.ymC,t.yrP,["value"],1,yeL)›:=zfn T.ymU.F ywR fun cdv Ar outer sh H E hr=>(yg (ym (yyJ (yV (ysQ T) ‹_› ysI rfl T.yue T.yiu.kp T.yiu.b (ya (z_v 0 yqy) ye rfl) rfl rfl) (yBn (yDE ysW yvL yFf yIt z_int (z_v 0 yqy) (yqO yET rfl T.m_WIDE) (by with_unfolding_all rfl))))))
theorem yom:FnOk P w K mg base CX0 (0+1) t.yfc t.yir ["self","words"] (spI (yzi K t) 1 10 yeQ):=have fa:=T.fa;zin T.yix.F ynK rfl (by decide) fun cdv Ar outer sh H E hr=>(ybz (ybJ fa.fl_words (ybu (i:=0) rfl oI yd.d yd.c) (yce (ycV yy ybo ybW rfl T.z_list ybO (ya (z_v 1 yHT) ye rfl) rfl rfl)) rfl) (yfy (ybJ fa.fl_at (ybu (i:=0) rfl oI yd.d yd.c) z_int rfl)))
theorem yzz:‹(0+1,t.yoZ,t.yuc,["text"],1,ylc)›:=zfn T.ypa.F yzh fun cdv Ar outer sh H E hr=>(yc (yM (yA ybN yge (z_v 0 yeb) z_str (yt _)) (yg (ym (yce (ybZ ye)))) yp) (yg (ym (yLL PySem.F.plainAttrs_str PySem.F.slot_str_split PySem.F.type_str_split yGX m_split (z_v 0 yeb) (ya z_str ye rfl) rfl rfl rfl rfl rfl))))
theorem ydm:‹(0+1,t.yhR,t.ylD,["self"],1,ybb)›:=have fa:=T.fa;zfn T.ycK.F yrH fun cdv Ar outer sh H E hr=>(yc (yM (yA yvL yIt (yE fa.fl_at (z_v 0 yd) rfl) (yiF yJ yfF ydI rfl T.z_len ydB (ya (yE fa.fl_words (z_v 0 yd) rfl) ye rfl) rfl rfl) (yt _)) (yg (ym (ybF yX ydp (yE fa.fl_words (z_v 0 yd) rfl) (yE fa.fl_at (z_v 0 yd) rfl) nofun))) yp) (yg (ym ywC)))
theorem ydn:‹(1+1,t.yhS,t.ylE,["self"],1,ybL)›:=have fa:=T.fa;zfn T.ycL.F ykg fun cdv Ar outer sh H E hr=>(yc (yu (i:=1) ykg.nd rfl oI (yq (z_v 0 yd) (T.cl 10) T.ydk (ydm T) ‹_› T.ycK.b rfl) rfl oI) (yc (yM (yA yCq yKb (z_v 1 yco) ywC (yt _)) (yg ybe) yp) (yc (ycx fa.fl_at (z_v 0 yd) (yfW ycR ygd (yE fa.fl_at (z_v 0 yd) rfl) z_int) rfl) (yg (ym (z_v 1 yco))))))
theorem ybx:‹(2+1,t.yev,t.yhf,["self","wanted"],2,yI)›:=zfn T.ybr.F ygx fun cdv Ar outer sh H E hr=>(yc (yu (i:=2) ygx.nd rfl oI (yq (z_v 0 yd) (T.cl 10) T.ydl (ydn T) ‹_› T.ycL.b rfl) rfl oI) (yg (yM (yA ysV yFg (z_v 2 yco) (z_v 1 yEZ) (yt _)) (yg ybe) yp)))
theorem yD:‹(2+1,t.ydR,t.ygA,["self"],1,yv)›:=zfn T.yz.F yfH fun cdv Ar outer sh H E hr=>(yc (yu (i:=1) yfH.nd rfl oI (yq (z_v 0 yd) (T.cl 10) T.ydl (ydn T) ‹_› T.ycL.b rfl) rfl oI) (yc (yM (yig (ycv (yV (yBT T) ‹_› yBO rfl T.yEN T.ysr.kp T.ysr.b (ya (z_v 1 yco) ye rfl) rfl rfl) (fun _=>rfl))) (yg ybe) yp) (yg (ym (z_v 1 yco)))))
theorem yfT:‹(2+1,t.ydS,t.ygB,["self"],1,ybQ)›:=zfn T.ydX.F yfI fun cdv Ar outer sh H E hr=>(yc (yu (i:=1) yfI.nd rfl oI (yq (z_v 0 yd) (T.cl 10) T.ydl (ydn T) ‹_› T.ycL.b rfl) rfl oI) (yc (yM (yig (ycv (yV (yBU T) ‹_› yBN rfl T.yEO T.yss.kp T.yss.b (ya (z_v 1 yco) ye rfl) rfl rfl) (fun _=>rfl))) (yg ybe) yp) (yg (ym (z_v 1 yco)))))
theorem yjA:‹(2+1,t.ydg,t.yfo,["self"],1,ycf)›:=zfn T.yft.F ycN fun cdv Ar outer sh H E hr=>(yc (yu (i:=1) ycN.nd rfl oI (yq (z_v 0 yd) (T.cl 10) T.ydl (ydn T) ‹_› T.ycL.b rfl) rfl oI) (yc (yu (i:=2) ycN.nd rfl oI (yV (yxH T) ‹_› yxw rfl T.yzk T.ymV.kp T.ymV.b (ya (z_v 1 yco) ye rfl) rfl rfl) rfl oI) (yc (yM (yA yCq yKb (z_v 2 yfw) ywC (yt _)) (yg ybe) yp) (yg (ym (z_v 2 yfw))))))
theorem yjB:‹(3+1,t.ydh,t.yfp,["self","word"],2,ycg)›:=zfn T.yfu.F ybY fun cdv Ar outer sh H E hr=>(yc (yu (i:=2) ybY.nd rfl oI (yq (z_v 0 yd) (T.cl 10) T.yC (yD T) ‹_› T.yz.b rfl) rfl oI) (yc (yu (i:=3) ybY.nd rfl oI (yq (z_v 0 yd) (T.cl 10) T.yC (yD T) ‹_› T.yz.b rfl) rfl oI) (yc (yu (i:=4) ybY.nd rfl oI (yq (z_v 0 yd) (T.cl 10) T.yC (yD T) ‹_› T.yz.b rfl) rfl oI) (yg (ym (yce (ylq T.mk_Reckon (yoj T) ‹_› yxr rfl T.m_Reckon T.yiv.b (ya (z_v 1 yco) (ya (z_v 2 ydz) (ya (z_v 3 yJa) (ya (z_v 4 yAR) ye rfl) rfl) rfl) rfl) rfl rfl)))))))
theorem ykW:‹(4+1,t.ydy,t.yfN,["self","word"],2,ycp)›:=zfn T.yfP.F ybB fun cdv Ar outer sh H E hr=>(yc (yM (yA ybN yge (z_v 1 yco) z_str (yt _)) (yc (yu (i:=2) ybB.nd rfl oI (yq (z_v 0 yd) (T.cl 10) T.yC (yD T) ‹_› T.yz.b rfl) rfl oI) (yg (ym (yce (ylq T.mk_Let (ysL T) ‹_› yIU rfl T.m_Let T.ylL.b (ya (z_v 2 ydz) (ya (yq (z_v 0 yd) (T.cl 10) T.yjx (yjA T) ‹_› T.yft.b rfl) ye rfl) rfl) rfl rfl))))) yp) (yc (yM (yA ybN yge (z_v 1 yco) z_str (yt _)) (yc (yu (i:=2) ybB.nd rfl oI (yq (z_v 0 yd) (T.cl 10) T.yC (yD T) ‹_› T.yz.b rfl) rfl oI) (yg (ym (yce (ylq T.mk_Take (yqm T) ‹_› yES rfl T.m_Take T.ykH.b (ya (z_v 2 ydz) (ya (yq (z_v 0 yd) (T.cl 10) T.yC (yD T) ‹_› T.yz.b rfl) ye rfl) rfl) rfl rfl))))) yp) (yc (yM (yA ybN yge (z_v 1 yco) z_str (yt _)) (yc (yu (i:=3) ybB.nd rfl oI (yq (z_v 0 yd) (T.cl 10) T.yC (yD T) ‹_› T.yz.b rfl) rfl oI) (yg (ym (yce (ylq T.mk_Put (ysM T) ‹_› yIV rfl T.m_Put T.ylM.b (ya (z_v 3 yoe) (ya (yq (z_v 0 yd) (T.cl 10) T.yC (yD T) ‹_› T.yz.b rfl) ye rfl) rfl) rfl rfl))))) yp) (yc (yM (yA ybN yge (z_v 1 yco) z_str (yt _)) (yc (yu (i:=4) ybB.nd rfl oI (yq (z_v 0 yd) (T.cl 10) T.yfQ (yfT T) ‹_› T.ydX.b rfl) rfl oI) (yg (ym (yce (ylq T.mk_Throw (ypd T) ‹_› yAP rfl T.m_Throw T.yjr.b (ya (z_v 4 yvz) (ya (yq (z_v 0 yd) (T.cl 10) T.yC (yD T) ‹_› T.yz.b rfl) ye rfl) rfl) rfl rfl))))) yp) (yc (yM (yA ybN yge (z_v 1 yco) z_str (yt _)) (yg (ym (yce (yKz T.mk_Wait T.io_Wait T.kp_Wait yEU rfl T.m_Wait)))) yp) (yc (yM (ycv (yV (yBS T) ‹_› yBP rfl T.yEM T.ysq.kp T.ysq.b (ya (z_v 1 yco) ye rfl) rfl rfl) (fun _=>rfl)) (yg (ym (yx (z_v 0 yd) (T.cl 10) T.yjz (yjB T) ‹_› T.yfu.b (ya (z_v 1 yco) ye rfl) rfl rfl rfl))) yp) (yg ybe)))))))
theorem yFb:∀ n,ySs P w K mg base t n
 | 0=>⟨yfh,yfh,yfh,yfh,yfh,yfh⟩
 | n+1=>by
  have fa:=T.fa
  have I:=yFb n
  have yni:=I.ygR
  have yby:=I.yng
  have ygS:=I.ynh
  have ype:=I.ypc
  have ykX:=I.ykV
  have yon:=I.yoi
  exact ⟨zfn T.ydY.F yfJ fun cdv Ar outer sh H E hr=>(yc (yM (yAo (ynu (yA yCq yKb (yq (z_v 0 yd) (T.cl 10) T.ydk (ydm T) ‹_› T.ycK.b rfl) ywC (yt _)) (yjE (yA ybN yge (yq (z_v 0 yd) (T.cl 10) T.ydk (ydm T) ‹_› T.ycK.b rfl) z_str (yt _))))) (yg (ym (yce (ybZ ye)))) yp) (yc (yyN (i:=2) yfJ.nd rfl oI (ybZ (ya (yx (z_v 0 yd) (T.cl 10) T.yfS ygS ‹_› T.ydZ.b (ya (z_v 1 yct) ye rfl) rfl rfl rfl) ye rfl)) rfl oI) (yc (yuN 100 PassesOwn.never (yA ybN yge (yq (z_v 0 yd) (T.cl 10) T.ydk (ydm T) ‹_› T.ycK.b rfl) z_str (yt _)) (yc (ybg (yx (z_v 0 yd) (T.cl 10) T.ybw (ybx T) ‹_› T.ybr.b (ya z_str ye rfl) rfl rfl rfl) rfl) (yg (yII (ybu (i:=2) rfl oI ydJ.d ydJ.c) (yx (z_v 0 yd) (T.cl 10) T.yfS ygS ‹_› T.ydZ.b (ya (z_v 1 yct) ye rfl) rfl rfl rfl) rfl rfl rfl rfl rfl rfl)))) (yqP 2 (yg (ym (z_v 2 ydJ))))))),
   zfn T.ybh.F yfK fun cdv Ar outer sh H E hr=>(yc (ybg (yx (z_v 0 yd) (T.cl 10) T.ybw (ybx T) ‹_› T.ybr.b (ya z_str ye rfl) rfl rfl rfl) rfl) (yc (yu (i:=2) yfK.nd rfl oI (yx (z_v 0 yd) (T.cl 10) T.yfR yni ‹_› T.ydY.b (ya (z_v 1 yct) ye rfl) rfl rfl rfl) rfl oI) (yc (ybg (yx (z_v 0 yd) (T.cl 10) T.ybw (ybx T) ‹_› T.ybr.b (ya z_str ye rfl) rfl rfl rfl) rfl) (yg (ym (z_v 2 ydJ)))))),
   zfn T.ydZ.F yfL fun cdv Ar outer sh H E hr=>(yc (yM (yA yFu yOB (z_v 1 yct) (yqO ytm rfl T.m_MOST_AROUND) (yt _)) (yg ybe) yp) (yc (yu (i:=2) yfL.nd rfl oI (yq (z_v 0 yd) (T.cl 10) T.ydl (ydn T) ‹_› T.ycL.b rfl) rfl oI) (yc (yM (yA ybN yge (z_v 2 yco) z_str (yt _)) (yg (ym (yx (z_v 0 yd) (T.cl 10) T.yoa ype ‹_› T.yiy.b (ya (yfW ycR ygd (z_v 1 yct) z_int) ye rfl) rfl rfl rfl))) yp) (yc (yM (yA ybN yge (z_v 2 yco) z_str (yt _)) (yg (ym (yx (z_v 0 yd) (T.cl 10) T.yjy ykX ‹_› T.yfv.b (ya (yfW ycR ygd (z_v 1 yct) z_int) ye rfl) rfl rfl rfl))) yp) (yc (yM (yA ybN yge (z_v 2 yco) z_str (yt _)) (yg (ym (yx (z_v 0 yd) (T.cl 10) T.ynd yon ‹_› T.yhi.b (ya (yfW ycR ygd (z_v 1 yct) z_int) ye rfl) rfl rfl rfl))) yp) (yg (ym (yx (z_v 0 yd) (T.cl 10) T.ykQ (ykW T) ‹_› T.yfP.b (ya (z_v 2 yco) ye rfl) rfl rfl rfl)))))))),
   zfn T.yiy.F ycQ fun cdv Ar outer sh H E hr=>(yc (yu (i:=2) ycQ.nd rfl oI (yq (z_v 0 yd) (T.cl 10) T.yC (yD T) ‹_› T.yz.b rfl) rfl oI) (yc (yu (i:=3) ycQ.nd rfl oI (yx (z_v 0 yd) (T.cl 10) T.ybt yby ‹_› T.ybh.b (ya (z_v 1 yct) ye rfl) rfl rfl rfl) rfl oI) (yc (ybg (yx (z_v 0 yd) (T.cl 10) T.ybw (ybx T) ‹_› T.ybr.b (ya z_str ye rfl) rfl rfl rfl) rfl) (yc (yu (i:=4) ycQ.nd rfl oI (yx (z_v 0 yd) (T.cl 10) T.ybt yby ‹_› T.ybh.b (ya (z_v 1 yct) ye rfl) rfl rfl rfl) rfl oI) (yg (ym (yce (ylq T.mk_If (ytq T) ‹_› yHN rfl T.m_If T.ynV.b (ya (z_v 2 ydz) (ya (z_v 3 ydJ) (ya (z_v 4 yiC) ye rfl) rfl) rfl) rfl rfl)))))))),
   zfn T.yfv.F ycO fun cdv Ar outer sh H E hr=>(yc (yu (i:=2) ycO.nd rfl oI (yx (z_v 0 yd) (T.cl 10) T.ybt yby ‹_› T.ybh.b (ya (z_v 1 yct) ye rfl) rfl rfl rfl) rfl oI) (yc (ybg (yx (z_v 0 yd) (T.cl 10) T.ybw (ybx T) ‹_› T.ybr.b (ya z_str ye rfl) rfl rfl rfl) rfl) (yc (yu (i:=3) ycO.nd rfl oI (yx (z_v 0 yd) (T.cl 10) T.ybt yby ‹_› T.ybh.b (ya (z_v 1 yct) ye rfl) rfl rfl rfl) rfl oI) (yg (ym (yce (ylq T.mk_Either (yok T) ‹_› ysF rfl T.m_Either T.yiw.b (ya (z_v 2 ydJ) (ya (z_v 3 yiC) ye rfl) rfl) rfl rfl))))))),
   zfn T.yhi.F ybV fun cdv Ar outer sh H E hr=>(yc (yu (i:=2) ybV.nd rfl oI (yx (z_v 0 yd) (T.cl 10) T.ybt yby ‹_› T.ybh.b (ya (z_v 1 yct) ye rfl) rfl rfl rfl) rfl oI) (yc (ybg (yx (z_v 0 yd) (T.cl 10) T.ybw (ybx T) ‹_› T.ybr.b (ya z_str ye rfl) rfl rfl rfl) rfl) (yc (yu (i:=3) ybV.nd rfl oI (yq (z_v 0 yd) (T.cl 10) T.yfQ (yfT T) ‹_› T.ydX.b rfl) rfl oI) (yc (yu (i:=4) ybV.nd rfl oI (yq (z_v 0 yd) (T.cl 10) T.yC (yD T) ‹_› T.yz.b rfl) rfl oI) (yc (yu (i:=5) ybV.nd rfl oI (yx (z_v 0 yd) (T.cl 10) T.ybt yby ‹_› T.ybh.b (ya (z_v 1 yct) ye rfl) rfl rfl rfl) rfl oI) (yg (ym (yce (ylq T.mk_Try (ysN T) ‹_› yIW rfl T.m_Try T.ylN.b (ya (z_v 2 ydJ) (ya (z_v 3 yvz) (ya (z_v 4 ydz) (ya (z_v 5 yiC) ye rfl) rfl) rfl) rfl) rfl rfl)))))))))⟩
theorem yLA:‹(51+1,t.a_read,t.d_read,["text"],1,yqY)›:=zfn T.F_read.F sc_read fun cdv Ar outer sh H E hr=>(yc (yu (i:=1) sc_read.nd rfl oI (yif (ylq T.mk_Reader (yom T) ‹_› yER rfl T.m_Reader T.yix.b (ya (yV (yzz T) ‹_› yzu rfl T.yBH T.ypa.kp T.ypa.b (ya (z_v 0 yeb) ye rfl) rfl rfl) ye rfl) rfl rfl)) rfl oI) (yc (yu (i:=2) sc_read.nd rfl oI (yx (z_v 1 yxy) (T.cl 10) T.yfR (yFb T 45).ygR ‹_› T.ydY.b (ya z_int ye rfl) rfl rfl rfl) rfl oI) (yc (yM (yA yJk yMO (yq (z_v 1 yxy) (T.cl 10) T.ydk (ydm T) ‹_› T.ycK.b rfl) ywC (yt _)) (yg ybe) yp) (yc (yM (yA yFu yOB (yfW ycR ygd (yV (yvF T 45).ynf ‹_› ycw rfl T.ydj T.yW.kp T.yW.b (ya (z_v 2 yzs) ye rfl) rfl rfl) z_int) (yqO yxq rfl T.m_MOST_ROWS) (yt _)) (yg ybe) yp) (yg (ym (z_v 2 yzs)))))))
theorem ysR:FnOk P w K mg base CX0 (0+1) t.yhH t.ylt ["self"] (spI (yzi K t) 0 11 ylr):=have fa:=T.fa;zin T.ylI.F yry rfl (by decide) fun cdv Ar outer sh H E hr=>(ybz (ybJ fa.fl_stack (ybu (i:=0) rfl oI yd.d yd.c) (yif (ybZ (ya (yif yAq) ye rfl))) rfl) (yfy (ybJ fa.fl_last_seen (ybu (i:=0) rfl oI yd.d yd.c) (yif yAq) rfl)))
theorem yxJ:‹(0+1,t.ymz,t.yrL,["self","box","number"],3,yiH)›:=have fa:=T.fa;zfn T.ysn.F ypr fun cdv Ar outer sh H E hr=>(yc (yu (i:=3) ypr.nd rfl oI (ybF yX ydp (yE fa.fl_stack (z_v 0 yd) rfl) (yQn yCl yKa z_int) nofun) rfl oI) (yg (yKC (yMu hr) (z_v 3 yJd) (z_v 1 ysH) (z_v 2 yfw) rfl)))
theorem yxK:‹(0+1,t.ymA,t.yrM,["self"],1,yeK)›:=have fa:=T.fa;zfn T.yso.F ywQ fun cdv Ar outer sh H E hr=>(yg (ybg (yLL plainAttrs_list PySem.F.slot_list_append PySem.F.type_list_append yid yDk (yE fa.fl_stack (z_v 0 yd) rfl) (ya (yif yAq) ye rfl) rfl rfl rfl rfl rfl) rfl))
theorem yvH:‹(0+1,t.ykl,t.ypv,["self"],1,yec)›:=have fa:=T.fa;zfn T.ypH.F yiX fun cdv Ar outer sh H E hr=>(yc (yu (i:=1) yiX.nd rfl oI (yGQ plainAttrs_list slot_list_pop type_list_pop yzL yAd (yE fa.fl_stack (z_v 0 yd) rfl) rfl rfl) rfl oI) (yc (yu (i:=2) yiX.nd rfl oI (ybF yX ydp (yE fa.fl_stack (z_v 0 yd) rfl) (yQn yCl yKa z_int) nofun) rfl oI) (yg (ybg (yLL PySem.F.plainAttrs_dict PySem.F.slot_dict_update PySem.F.type_dict_update yNE yQl (z_v 2 yBM) (ya (z_v 1 yJd) ye rfl) rfl rfl rfl rfl rfl) rfl))))
theorem yzA:‹(0+1,t.yoT,t.ytW,["self"],1,yih)›:=have fa:=T.fa;zfn T.yud.F yzb fun cdv Ar outer sh H E hr=>(yg (ybg (yGQ plainAttrs_list slot_list_pop type_list_pop yzL yAd (yE fa.fl_stack (z_v 0 yd) rfl) rfl rfl) rfl))
theorem yBV:‹(0+1,t.yrN,t.yxa,["self"],1,ynx)›:=have fa:=T.fa;zfn T.yxh.F yBA fun cdv Ar outer sh H E hr=>(yg (ym (yce (PXS.z_sortI rfl (yE fa.fl_last_seen (z_v 0 yd) rfl) yxz rfl T.z_sorted ywE rfl rfl rfl rfl))))
theorem yxL:‹(0+1,t.ymB,t.yrO,["self"],1,ygi)›:=have fa:=T.fa;zfn T.ysp.F yps fun cdv Ar outer sh H E hr=>(yc (yu (i:=1) yps.nd rfl oI (ybF yX ydp (yE fa.fl_stack (z_v 0 yd) rfl) z_int nofun) rfl oI) (yg (ym (yce (PXS.z_sortI rfl (z_v 1 yEV) yxz rfl T.z_sorted ywE rfl rfl rfl rfl)))))
theorem yoo:‹(0+1,t.ykn,t.ypx,["slot"],1,ygY)›:=zfn T.yfs.F yve fun cdv Ar outer sh H E hr=>(yg (ym (yLL PySem.F.plainAttrs_str PySem.F.slot_str_find PySem.F.type_str_find yKI yGl (ywD yvw rfl T.m_SLOTS) (ya (z_v 0 ydz) ye rfl) rfl rfl rfl rfl rfl)))
theorem ydo:‹(1+1,t.yhI,t.ylu,["self","slot"],2,ybK)›:=have fa:=T.fa;zfn T.ycJ.F yrz fun cdv Ar outer sh H E hr=>(yg (ym (ybF yX ydp (yE fa.fl_held (z_v 0 yd) rfl) (yV (yoo T) ‹_› yof rfl T.ypJ T.yfs.kp T.yfs.b (ya (z_v 1 ydz) ye rfl) rfl rfl) nofun)))
theorem ypT:‹(1+1,t.ymE,t.yrU,["self","slot","number"],3,yeM)›:=have fa:=T.fa;zfn T.ymW.F ywS fun cdv Ar outer sh H E hr=>(yg (yoB (z_v 2 yfw) (yE fa.fl_held (z_v 0 yd) rfl) (yV (yoo T) ‹_› yof rfl T.ypJ T.yfs.kp T.yfs.b (ya (z_v 1 ydz) ye rfl) rfl rfl) (fun _=>rfl) rfl rfl rfl))
theorem yts:‹(2+1,t.yiY,t.ynL,["self","place"],2,yfX)›:=have fa:=T.fa;zfn T.ynS.F yte fun cdv Ar outer sh H E hr=>(yg (ym (yfW ynl yuD (yx (z_v 0 yd) (T.cl 12) T.ms_Run_held_in (ydo T) ‹_› T.ycJ.b (ya (z_v 1 yoe) ye rfl) rfl rfl rfl) (yE fa.fl_width (z_v 0 yd) rfl))))
theorem yqn:FnOk P w K mg base CX0 (2+1) t.yeu t.yko ["self","slots","width"] (spJ (yzi K t) 2 12 yjG):=have fa:=T.fa;ySg T.ykF.F yqd rfl (by decide) fun cdv Ar outer sh H E hr=>(ybz (ybJ fa.fl_held (ybu (i:=0) rfl oI yd.d yd.c) (yif (ycV yy ybo ybW rfl T.z_list ybO (ya (z_v 1 yog) ye rfl) rfl rfl)) rfl) (ybz (ybJ fa.fl_width (ybu (i:=0) rfl oI yd.d yd.c) (z_v 2 yvD) rfl) (yfy (ybJ fa.fl_log (ybu (i:=0) rfl oI yd.d yd.c) (yif (yKG T.mk_Log (ysR T) ‹_› yOs rfl T.m_Log T.ylI.b)) rfl))))
theorem ytt:‹(3+1,t.yiZ,t.ynM,["self","place","slot"],3,yel)›:=have fa:=T.fa;zfn T.ynT.F ytf fun cdv Ar outer sh H E hr=>(yg (ybg (yx (yE fa.fl_log (z_v 0 yd) rfl) (T.cl 11) T.yxl (yxJ T) ‹_› T.ysn.b (ya (yx (z_v 0 yd) (T.cl 12) T.ms_Run_box_at (yts T) ‹_› T.ynS.b (ya (z_v 1 yoe) ye rfl) rfl rfl rfl) (ya (yx (z_v 0 yd) (T.cl 12) T.ms_Run_held_in (ydo T) ‹_› T.ycJ.b (ya (z_v 2 ydz) ye rfl) rfl rfl rfl) ye rfl) rfl) rfl rfl rfl) rfl))
theorem yHV:‹(0+1,t.a_takes,t.d_takes,["begun_by","row"],2,yqS)›:=zfn T.F_takes.F yHM fun cdv Ar outer sh H E hr=>(yc (yM (yA ybN yge (ybF yB yY (z_v 1 ybs) z_int nofun) z_str (yt _)) (yg (ym (yll ybN yge (ybF yB yY (z_v 0 yfg) z_int nofun) z_str (yt _)))) yp) (yg (ym (yyJ (yll ybN yge (ybF yB yY (z_v 0 yfg) z_int nofun) z_str (yt _)) (yBn (yll ybN yge (ybF yB yY (z_v 0 yfg) z_int nofun) (ybF yB yY (z_v 1 ybs) z_int nofun) (yt _)))))))
theorem ysS:FnOk P w K mg base CX0 (4+1) t.yhJ t.ylv ["self","rows","slots","width"] (spI (yzi K t) 3 12 yhn):=have fa:=T.fa;zin T.ylJ.F yrA rfl (by decide) fun cdv Ar outer sh H E hr=>(ybz (yKK T.cf_Doer yLu rfl T.m_Doer (yqn T) ‹_› T.ykF.b (ybu (i:=0) rfl oI yd.d yd.c) (ya (z_v 2 yog) (ya (z_v 3 yvD) ye rfl) rfl) rfl rfl rfl rfl) (ybz (ybJ fa.fl_rows (ybu (i:=0) rfl oI yd.d yd.c) (z_v 1 yne) rfl) (ybz (ybJ fa.fl_at (ybu (i:=0) rfl oI yd.d yd.c) z_int rfl) (ybz (ybJ fa.fl_seen_stamps (ybu (i:=0) rfl oI yd.d yd.c) (yif yAq) rfl) (yfy (ybJ fa.fl_sides (ybu (i:=0) rfl oI yd.d yd.c) (yif (ybZ ye)) rfl))))))
theorem ypf:‹(0+1,t.yrV,t.yxe,["self"],1,yij)›:=have fa:=T.fa;zfn T.ynU.F yBE fun cdv Ar outer sh H E hr=>(yg (ym (ybF yX ydp (yE fa.fl_rows (z_v 0 yd) rfl) (yE fa.fl_at (z_v 0 yd) rfl) nofun)))
theorem ykY:‹(0+1,t.yhK,t.ylw,["self","stamps"],2,ydC)›:=have fa:=T.fa;zfn T.yhW.F yrB fun cdv Ar outer sh H E hr=>(yg (ym (yiF (yAw rfl) yNw yIY rfl T.z_any yIK (ya (yce (ynv [1,0] ["stamps","self"] rfl (yKL (yE fa.fl_seen_stamps (yoA (i:=0) yd rfl (Or.inr oI)) rfl)) ⟨rfl,rfl,rfl,⟨rfl,rfl,rfl,True.intro⟩⟩ (fun _ _ _ _ _ _=>(yll ysV yFg (ybF yX ydp (yoA (i:=1) yEY rfl (Or.inr oI)) (z_v 0 ysH) nofun) (yNB (yMu hr) (yE fa.fl_seen_stamps (yoA (i:=2) yd rfl (Or.inr oI)) rfl) (z_v 0 ysH) nofun) (yt _))) (by rfl') rfl (by rfl') (by rfl') (by rfl') rfl (fun _=>rfl))) ye rfl) rfl rfl)))
theorem yhm:‹(1+1,t.yeZ,t.yio,["self","row"],2,ybi)›:=have fa:=T.fa;zfn T.yff.F yes fun cdv Ar outer sh H E hr=>(yc (yu (i:=2) yes.nd rfl oI (yiF yJ yfF ydI rfl T.z_len ydB (ya (yE fa.fl_sides (z_v 0 yd) rfl) ye rfl) rfl rfl) rfl oI) (yc (yuN 1000 PassesOwn.never (yAo (yDF (yA yFu yOB (z_v 2 ylj) z_int (yt _)) (yyK (yig (ycv (yV (yHV T) ‹_› yHS rfl T.m_takes T.F_takes.kp T.F_takes.b (ya (ybF yB yY (ybF yX ydp (yE fa.fl_sides (z_v 0 yd) rfl) (yfW ytv yBi (z_v 2 ylj) z_int) nofun) z_int nofun) (ya (z_v 1 ybs) ye rfl) rfl) rfl rfl) (fun _=>rfl)))))) (yg (yu (i:=2) yes.nd rfl oI (yfW ytv yBi (z_v 2 ylj) z_int) rfl oI))) (yg (ym (z_v 2 ylj)))))
theorem ykZ:‹(2+1,t.ydx,t.yfM,["self"],1,ybH)›:=zfn T.yfO.F yfn fun cdv Ar outer sh H E hr=>(yc (yu (i:=1) yfn.nd rfl oI (yq (z_v 0 yd) (T.cl 12) T.ypb (ypf T) ‹_› T.ynU.b rfl) rfl oI) (yc (yM (yA ybN yge (ybF yB yY (z_v 1 ybs) z_int nofun) z_str (yt _)) (yg ybe) yp) (yc (yM (yAo (ynu (yA ybN yge (ybF yB yY (z_v 1 ybs) z_int nofun) z_str (yt _)) (yjE (yA ybN yge (ybF yB yY (z_v 1 ybs) z_int nofun) z_str (yt _))))) (yg (ym (yll ybN yge (yx (z_v 0 yd) (T.cl 12) T.yhk (yhm T) ‹_› T.yff.b (ya (z_v 1 ybs) ye rfl) rfl rfl rfl) z_int (yt _)))) yp) (yg (ym (yll ybN yge (ybF yB yY (z_v 1 ybs) z_int nofun) z_str (yt _)))))))
theorem ysT:‹(4+1,t.yhL,t.ylx,["self","row"],2,yba)›:=zfn T.ylK.F yrC fun cdv Ar outer sh H E hr=>(yg (yM (yA ybN yge (ybF yB yY (z_v 1 ybs) z_int nofun) z_str (yt _)) (yg (ybg (yx (z_v 0 yd) (T.cl 12) T.ms_Run_hold (ypT T) ‹_› T.ymW.b (ya (ybF yB yY (z_v 1 ybs) z_int nofun) (ya (ybF yB yY (z_v 1 ybs) z_int nofun) ye rfl) rfl) rfl rfl rfl) rfl)) (yg (yM (yA ybN yge (ybF yB yY (z_v 1 ybs) z_int nofun) z_str (yt _)) (yg ybe) (yg (yM (yA ybN yge (ybF yB yY (z_v 1 ybs) z_int nofun) z_str (yt _)) (yg (ybg (yx (z_v 0 yd) (T.cl 12) T.ms_Run_do_put (ytt T) ‹_› T.ynT.b (ya (ybF yB yY (z_v 1 ybs) z_int nofun) (ya (ybF yB yY (z_v 1 ybs) z_int nofun) ye rfl) rfl) rfl rfl rfl) rfl)) (yg ybe)))))))
theorem yzB:‹(2+1,t.yoV,t.ytY,["self","row"],2,yeN)›:=have fa:=T.fa;zfn T.yuf.F yzd fun cdv Ar outer sh H E hr=>(yg (yM (yA ybN yge (ybF yB yY (z_v 1 ybs) z_int nofun) z_str (yt _)) (yg (ycx fa.fl_at (z_v 0 yd) (ybF yB yY (z_v 1 ybs) z_int nofun) rfl)) (yg (yM (yA ybN yge (yx (z_v 0 yd) (T.cl 12) T.ms_Run_held_in (ydo T) ‹_› T.ycJ.b (ya (ybF yB yY (z_v 1 ybs) z_int nofun) ye rfl) rfl rfl rfl) z_int (yt _)) (yg (ycx fa.fl_at (z_v 0 yd) (ybF yB yY (z_v 1 ybs) z_int nofun) rfl)) yp))))
theorem ypU:‹(2+1,t.ymF,t.yrW,["self","row"],2,ycy)›:=have fa:=T.fa;zfn T.ymX.F yhd fun cdv Ar outer sh H E hr=>(yc (yu (i:=2) yhd.nd rfl oI (yx (z_v 0 yd) (T.cl 12) T.yhk (yhm T) ‹_› T.yff.b (ya (z_v 1 ybs) ye rfl) rfl rfl rfl) rfl oI) (yc (yu (i:=3) yhd.nd rfl oI (ybF yX ydp (yE fa.fl_sides (z_v 0 yd) rfl) (yfW ytv yBi (z_v 2 ylj) z_int) nofun) rfl oI) (yc (yuN 1000 PassesOwn.never (yA yOO yRV (yiF yJ yfF ydI rfl T.z_len ydB (ya (yE fa.fl_sides (z_v 0 yd) rfl) ye rfl) rfl rfl) (z_v 2 ylj) (yt _)) (yc (ybg (yGQ plainAttrs_list slot_list_pop type_list_pop yzL yAd (yE fa.fl_sides (z_v 0 yd) rfl) rfl rfl) rfl) (yg (ybg (yq (yE fa.fl_log (z_v 0 yd) rfl) (T.cl 11) T.yzp (yzA T) ‹_› T.yud.b rfl) rfl)))) (yc (yu (i:=4) yhd.nd rfl oI (ybF yB yY (z_v 3 yEX) z_int nofun) rfl oI) (yc (ycx fa.fl_held (z_v 0 yd) (yif (ycV yy ybo ybW rfl T.z_list ybO (ya (ybF yB yY (z_v 3 yEX) z_int nofun) ye rfl) rfl rfl)) rfl) (yc (ycx fa.fl_at (z_v 0 yd) (ybF yB yY (z_v 4 yfg) (yQn yCl yKa z_int) nofun) rfl) (yg (ym (z_v 4 yfg)))))))))
theorem yxM:‹(3+1,t.ymG,t.yrX,["self","row"],2,ycW)›:=zfn T.yst.F ykd fun cdv Ar outer sh H E hr=>(yc (yu (i:=2) ykd.nd rfl oI (yx (z_v 0 yd) (T.cl 12) T.ms_Run_held_in (ydo T) ‹_› T.ycJ.b (ya (ybF yB yY (z_v 1 ybs) z_int nofun) ye rfl) rfl rfl rfl) rfl oI) (yc (yu (i:=3) ykd.nd rfl oI (yx (z_v 0 yd) (T.cl 12) T.ypO (ypU T) ‹_› T.ymX.b (ya (z_v 1 ybs) ye rfl) rfl rfl rfl) rfl oI) (yg (ybg (yx (z_v 0 yd) (T.cl 12) T.ms_Run_hold (ypT T) ‹_› T.ymW.b (ya (ybF yB yY (z_v 3 yfg) z_int nofun) (ya (z_v 2 yfw) ye rfl) rfl) rfl rfl rfl) rfl))))
theorem yFc:‹(5+1,t.yvn,t.yAN,["self"],1,yem)›:=have fa:=T.fa;zfn T.yAO.F ywT fun cdv Ar outer sh H E hr=>(yc (yu (i:=1) ywT.nd rfl oI (yq (z_v 0 yd) (T.cl 12) T.ypb (ypf T) ‹_› T.ynU.b rfl) rfl oI) (yc (ycx fa.fl_at (z_v 0 yd) (yfW ycR ygd (yE fa.fl_at (z_v 0 yd) rfl) z_int) rfl) (yg (yM (yA ybN yge (ybF yB yY (z_v 1 ybs) z_int nofun) z_str (yt _)) (yg (ybg (yx (z_v 0 yd) (T.cl 12) T.ypO (ypU T) ‹_› T.ymX.b (ya (z_v 1 ybs) ye rfl) rfl rfl rfl) rfl)) (yg (yM (yA ybN yge (ybF yB yY (z_v 1 ybs) z_int nofun) z_str (yt _)) (yg (ybg (yx (z_v 0 yd) (T.cl 12) T.yxo (yxM T) ‹_› T.yst.b (ya (z_v 1 ybs) ye rfl) rfl rfl rfl) rfl)) (yg (yM (yAo (ynu (yA ybN yge (ybF yB yY (z_v 1 ybs) z_int nofun) z_str (yt _)) (yjE (yA ybN yge (ybF yB yY (z_v 1 ybs) z_int nofun) z_str (yt _))))) (yg (ybg (yx (z_v 0 yd) (T.cl 12) T.yzq (yzB T) ‹_› T.yuf.b (ya (z_v 1 ybs) ye rfl) rfl rfl rfl) rfl)) (yg (yM (yAo (ynu (yA ybN yge (ybF yB yY (z_v 1 ybs) z_int nofun) z_str (yt _)) (yjE (yA ybN yge (ybF yB yY (z_v 1 ybs) z_int nofun) z_str (yt _))))) (yc (ybg (yLL plainAttrs_list PySem.F.slot_list_append PySem.F.type_list_append yid yDk (yE fa.fl_sides (z_v 0 yd) rfl) (ya (ycb (ya (z_v 1 ybs) (ya (yce (ycV yy ybo ybW rfl T.z_list ybO (ya (yE fa.fl_held (z_v 0 yd) rfl) ye rfl) rfl rfl)) ye rfl) rfl)) ye rfl) rfl rfl rfl rfl rfl) rfl) (yg (ybg (yq (yE fa.fl_log (z_v 0 yd) rfl) (T.cl 11) T.yxm (yxK T) ‹_› T.yso.b rfl) rfl))) (yg (yM (yA ybN yge (ybF yB yY (z_v 1 ybs) z_int nofun) z_str (yt _)) (yc (ybg (yGQ plainAttrs_list slot_list_pop type_list_pop yzL yAd (yE fa.fl_sides (z_v 0 yd) rfl) rfl rfl) rfl) (yg (ybg (yq (yE fa.fl_log (z_v 0 yd) rfl) (T.cl 11) T.yvp (yvH T) ‹_› T.ypH.b rfl) rfl))) (yg (ybg (yx (z_v 0 yd) (T.cl 12) T.ysE (ysT T) ‹_› T.ylK.b (ya (z_v 1 ybs) ye rfl) rfl rfl rfl) rfl))))))))))))))
theorem yjl:‹(0+1,t.ykp,t.ypy,["self"],1,yed)›:=have fa:=T.fa;zfn T.yhh.F yvf fun cdv Ar outer sh H E hr=>(yc (yM (yA ybN yge (yE fa.fl_nth (z_v 0 yd) rfl) (yiF yJ yfF ydI rfl T.z_len ydB (ya (yE fa.fl_deeds (z_v 0 yd) rfl) ye rfl) rfl rfl) (yt _)) (yg (ym z_str)) yp) (yg (ym (yKy (ycv (yE fa.fl_sleeps (z_v 0 yd) rfl) (fun _=>rfl)) z_str z_str))))
theorem yla:‹(6+1,t.yhM,t.yly,["self"],1,ydD)›:=have fa:=T.fa;zfn T.yhX.F yke fun cdv Ar outer sh H E hr=>(yc (yu (i:=1) yke.nd rfl oI (yKy (yA yvL yIt (yE fa.fl_nth (z_v 0 yd) rfl) (yiF yJ yfF ydI rfl T.z_len ydB (ya (yE fa.fl_deeds (z_v 0 yd) rfl) ye rfl) rfl rfl) (yt _)) (ybF yX ydp (yE fa.fl_deeds (z_v 0 yd) rfl) (yE fa.fl_nth (z_v 0 yd) rfl) nofun) (yce (ybZ ye))) rfl oI) (yg (ym (yif (ylq T.mk_Run (ysS T) ‹_› yOt rfl T.m_Run T.ylJ.b (ya (z_v 1 yne) (ya (yE fa.fl_before (z_v 0 yd) rfl) (ya (yE fa.fl_width (z_v 0 yd) rfl) ye rfl) rfl) rfl) rfl rfl)))))
theorem yvI:‹(7+1,t.ykq,t.ypz,["self","slots"],2,ygZ)›:=have fa:=T.fa;zfn T.ypK.F yvg fun cdv Ar outer sh H E hr=>(yc (ycx fa.fl_nth (z_v 0 yd) (yfW ycR ygd (yE fa.fl_nth (z_v 0 yd) rfl) z_int) rfl) (yc (ycx fa.fl_before (z_v 0 yd) (yce (ycV yy ybo ybW rfl T.z_list ybO (ya (z_v 1 yog) ye rfl) rfl rfl)) rfl) (yg (ycx fa.fl_run (z_v 0 yd) (yq (z_v 0 yd) (T.cl 14) T.ykP (yla T) ‹_› T.yhX.b rfl) rfl))))
theorem yqo:‹(7+1,t.ygy,t.ykr,["self","deeds","width"],3,ycq)›:=have fa:=T.fa;zfn T.ykG.F yqe fun cdv Ar outer sh H E hr=>(yc (ycx fa.fl_deeds (z_v 0 yd) (yce (ycV yy ybo ybW rfl T.z_list ybO (ya (z_v 1 yAQ) ye rfl) rfl rfl)) rfl) (yc (ycx fa.fl_width (z_v 0 yd) (z_v 2 yvD) rfl) (yc (ycx fa.fl_nth (z_v 0 yd) z_int rfl) (yc (ycx fa.fl_sleeps (z_v 0 yd) yLK rfl) (yc (ycx fa.fl_before (z_v 0 yd) (yce (ynt yzM yGk (yce (ybZ (ya z_int ye rfl))) (yiF ygV yzV ydI rfl T.z_len ydB (ya (ywD yvw rfl T.m_SLOTS) ye rfl) rfl rfl))) rfl) (yg (ycx fa.fl_run (z_v 0 yd) (yq (z_v 0 yd) (T.cl 14) T.ykP (yla T) ‹_› T.yhX.b rfl) rfl)))))))
theorem ytu:‹(2+1,t.yjd,t.ynQ,["boxes"],1,yfZ)›:=zfn T.yjf.F ytj fun cdv Ar outer sh H E hr=>(yc (yM (yig (yqt ysW ysW yFf yFf z_int (yiF yJ yfF ydI rfl T.z_len ydB (ya (z_v 0 ylh) ye rfl) rfl rfl) (yqO yvt rfl T.m_MOST_BOXES) (by with_unfolding_all rfl))) (yg ybe) yp) (yg (yM (yig (ycv (yiF (yzN rfl) yMW yIX rfl T.z_all yIm (ya (yce (ynv [] [] rfl (ygh (z_v 0 ylh)) True.intro (fun _ _ _ _ _ _=>(yV (yxI T) ‹_› yxv rfl T.yzj T.ymU.kp T.ymU.b (ya (z_v 0 ysH) ye rfl) rfl rfl)) (by rfl') rfl (by rfl') (by rfl') (by rfl') rfl (fun _=>rfl))) ye rfl) rfl rfl) (fun _=>rfl))) (yg ybe) yp)))
theorem yqp:‹(93+1,t.ygF,t.ykw,["texts"],1,ycr)›:=zfn T.ygK.F yqg fun cdv Ar outer sh H E hr=>(yg (ym (yce (ynv [] [] rfl (ygh (z_v 0 yvC)) True.intro (fun _ _ _ _ _ _=>(yV (yBR T) ‹_› yBQ rfl T.yEP T.ysx.kp T.ysx.b (ya (yV (yLA T) ‹_› yLy rfl T.m_read T.F_read.kp T.F_read.b (ya (z_v 0 yeb) ye rfl) rfl rfl) ye rfl) rfl rfl)) (by rfl') rfl (by rfl') (by rfl') (by rfl') rfl (fun _=>rfl)))))
theorem yqq:‹(94+1,t.ygG,t.ykx,["hands"],1,ycX)›:=zfn T.ygL.F yqh fun cdv Ar outer sh H E hr=>(yc (yM (yig (yqt ysW ysW yFf yFf z_int (yiF yJ yfF ydI rfl T.z_len ydB (ya (z_v 0 yqx) ye rfl) rfl rfl) (yqO yvv rfl T.m_MOST_HANDS) (by with_unfolding_all rfl))) (yg ybe) yp) (yc (yM (ycv (yiF (yAw rfl) yNw yIY rfl T.z_any yIK (ya (yce (ynv [] [] rfl (ygh (z_v 0 yqx)) True.intro (fun _ _ _ _ _ _=>(yll yFu yOB (yiF yJ yfF ydI rfl T.z_len ydB (ya (z_v 0 yvC) ye rfl) rfl rfl) (yqO yvu rfl T.m_MOST_DEEDS) (yt _))) (by rfl') rfl (by rfl') (by rfl') (by rfl') rfl (fun _=>rfl))) ye rfl) rfl rfl) (fun _=>rfl)) (yg ybe) yp) (yg (ym (yce (ynv [] [] rfl (ygh (z_v 0 yqx)) True.intro (fun _ _ _ _ _ _=>(yV (yqp T) ‹_› yqk rfl T.ysy T.ygK.kp T.ygK.b (ya (z_v 0 yvC) ye rfl) rfl rfl)) (by rfl') rfl (by rfl') (by rfl') (by rfl') rfl (fun _=>rfl)))))))
theorem yqr:‹(95+1,t.ygH,t.yky,["self","boxes","hands"],3,ycY)›:=have fa:=T.fa;zfn T.ykK.F yqi fun cdv Ar outer sh H E hr=>(yc (ybg (yV (ytu T) ‹_› ytp rfl T.yvo T.yjf.kp T.yjf.b (ya (yoA (i:=1) ylh rfl (Or.inr oI)) ye rfl) rfl rfl) rfl) (yc (ycx fa.fl_numbers (z_v 0 yd) (yif (ycV yy ybo ybW rfl T.z_list ybO (ya (yoA (i:=1) ylh rfl (Or.inr oI)) ye rfl) rfl rfl)) rfl) (yc (ycx fa.fl_marks (z_v 0 yd) (yif (ynt yzM yGk (yce (ybZ (ya z_int ye rfl))) (yiF yJ yfF ydI rfl T.z_len ydB (ya (yoA (i:=1) ylh rfl (Or.inr oI)) ye rfl) rfl rfl))) rfl) (yc (ycx fa.fl_crew (z_v 0 yd) (yif (ynv [1] ["boxes"] rfl (ygh (yV (yqq T) ‹_› yql rfl T.ysz T.ygL.kp T.ygL.b (ya (z_v 2 yqx) ye rfl) rfl rfl)) ⟨rfl,rfl,rfl,True.intro⟩ (fun _ _ _ _ _ _=>(yDI T.mk_Hand (yqo T) ‹_› yLw rfl T.m_Hand T.ykG.b (ya (z_v 0 yAQ) (ya (yiF yJ yfF ydI rfl T.z_len ydB (ya (yoA (i:=1) ylh rfl (Or.inr oI)) ye rfl) rfl rfl) ye rfl) rfl) rfl rfl)) (by rfl') rfl (by rfl') (by rfl') (by rfl') rfl (fun _=>rfl))) rfl) (yg (ycx fa.fl_entries (z_v 0 yd) (yif (ybZ ye)) rfl))))))
theorem yjm:‹(0+1,t.ykz,t.ypD,["self"],1,yci)›:=have fa:=T.fa;zfn T.yhj.F yvj fun cdv Ar outer sh H E hr=>(yg (ym (yce (ycV yy ybo ybW rfl T.z_list ybO (ya (yE fa.fl_numbers (z_v 0 yd) rfl) ye rfl) rfl rfl))))
theorem ylP:‹(0+1,t.yje,t.ynR,["self"],1,ycz)›:=have fa:=T.fa;zfn T.yjg.F ytk fun cdv Ar outer sh H E hr=>(yg (ym (yce (ycV yy ybo ybW rfl T.z_list ybO (ya (yE fa.fl_marks (z_v 0 yd) rfl) ye rfl) rfl rfl))))
theorem yeC:‹(1+1,t.yhT,t.ylF,["self","hand"],2,yck)›:=have fa:=T.fa;zfn T.ydE.F yrI fun cdv Ar outer sh H E hr=>(yc (yM (yAo (ynu (yig (ycv (yV (ysQ T) ‹_› ysI rfl T.yue T.yiu.kp T.yiu.b (ya (z_v 1 yea) ye rfl) rfl rfl) (fun _=>rfl))) (yjE (yig (yqt ysW yvL yFf yIt z_int (z_v 1 yea) (yiF yJ yfF ydI rfl T.z_len ydB (ya (yE fa.fl_crew (z_v 0 yd) rfl) ye rfl) rfl rfl) (by with_unfolding_all rfl)))))) (yg ybe) yp) (yg (ym (ybF yX ydp (yE fa.fl_crew (z_v 0 yd) rfl) (z_v 1 yea) nofun))))
theorem yvJ:‹(2+1,t.ykA,t.ypE,["self","hand"],2,yfl)›:=zfn T.ypM.F yvk fun cdv Ar outer sh H E hr=>(yg (ym (yq (yx (z_v 0 yd) (T.cl 15) T.yez (yeC T) ‹_› T.ydE.b (ya (z_v 1 yea) ye rfl) rfl rfl rfl) (T.cl 14) T.yjh (yjl T) ‹_› T.yhh.b rfl)))
theorem yvK:‹(2+1,t.ykB,t.ypF,["self","hand"],2,yfm)›:=have fa:=T.fa;zfn T.ypN.F yvl fun cdv Ar outer sh H E hr=>(yg (ym (yE fa.fl_nth (yx (z_v 0 yd) (T.cl 15) T.yez (yeC T) ‹_› T.ydE.b (ya (z_v 1 yea) ye rfl) rfl rfl rfl) rfl)))
theorem yop:‹(2+1,t.ykC,t.ypG,["self","hand"],2,ycZ)›:=have fa:=T.fa;zfn T.ykL.F yvm fun cdv Ar outer sh H E hr=>(yg (ym (yce (ycV yy ybo ybW rfl T.z_list ybO (ya (yE fa.fl_held (yE fa.fl_run (yx (z_v 0 yd) (T.cl 15) T.yez (yeC T) ‹_› T.ydE.b (ya (z_v 1 yea) ye rfl) rfl rfl rfl) rfl) rfl) ye rfl) rfl rfl))))
theorem yeD:‹(0+1,t.yhU,t.ylG,["self"],1,ycl)›:=have fa:=T.fa;zfn T.ydF.F yrJ fun cdv Ar outer sh H E hr=>(yg (ym (yce (yKM [] [] rfl (yE fa.fl_entries (z_v 0 yd) rfl) True.intro (fun _ _ _ _ _ _=>(ycb (ya (ybF yB yY (z_v 0 yli) z_int nofun) (ya (ybF yB yY (z_v 0 yli) z_int nofun) (ya (ybF yB yY (z_v 0 yli) z_int nofun) (ya (yce (ycV yy ybo ybW rfl T.z_list ybO (ya (ybF yB yY (z_v 0 yli) z_int nofun) ye rfl) rfl rfl)) (ya (yce (ycV yy ybo ybW rfl T.z_list ybO (ya (ybF yB yY (z_v 0 yli) z_int nofun) ye rfl) rfl rfl)) (ya (yce (ycV yy ybo ybW rfl T.z_list ybO (ya (ybF yB yY (z_v 0 yli) z_int nofun) ye rfl) rfl rfl)) ye rfl) rfl) rfl) rfl) rfl) rfl))) (by rfl') rfl (by rfl') (by rfl') (by rfl') rfl (fun _=>rfl)))))
theorem yoq:‹(1+1,t.yfe,t.yit,["self"],1,yds)›:=have fa:=T.fa;zfn T.yiz.F yhe fun cdv Ar outer sh H E hr=>(yg (yKE PassesOwn.never rfl (yE fa.fl_crew (z_v 0 yd) rfl) (yjF (i:=1) yhe.nd rfl oI oI) (yg (yM (yAo (yDF (yA ybN yge (yq (z_v 1 ycu) (T.cl 14) T.yjh (yjl T) ‹_› T.yhh.b rfl) z_str (yt _)) (yyK (ycv (yx (yE fa.fl_run (z_v 1 ycu) rfl) (T.cl 12) T.ykN (ykY T) ‹_› T.yhW.b (ya (yE fa.fl_marks (z_v 0 yd) rfl) ye rfl) rfl rfl rfl) (fun _=>rfl))))) (yg ybe) yp)) (fun _=>rfl)))
theorem yju:‹(8+1,t.ygI,t.ykD,["self","hand","end","laid","slots"],5,yda)›:=have fa:=T.fa;zfn T.ygM.F yjo fun cdv Ar outer sh H E hr=>(yc (yu (i:=5) yjo.nd rfl oI (ybF yX ydp (yE fa.fl_crew (z_v 0 yd) rfl) (z_v 1 yea) nofun) rfl oI) (yc (ybg (yLL plainAttrs_list PySem.F.slot_list_append PySem.F.type_list_append yid yDk (yE fa.fl_entries (z_v 0 yd) rfl) (ya (ycb (ya (z_v 1 yea) (ya (yE fa.fl_nth (z_v 5 ycu) rfl) (ya (z_v 2 yOu) (ya (yq (yE fa.fl_log (yE fa.fl_run (z_v 5 ycu) rfl) rfl) (T.cl 11) T.yBI (yBV T) ‹_› T.yxh.b rfl) (ya (z_v 3 yzt) (ya (yce (ycV yy ybo ybW rfl T.z_list ybO (ya (z_v 4 yog) ye rfl) rfl rfl)) ye rfl) rfl) rfl) rfl) rfl) rfl)) ye rfl) rfl rfl rfl rfl rfl) rfl) (yg (ybg (yx (z_v 5 ycu) (T.cl 14) T.yvq (yvI T) ‹_› T.ypK.b (ya (z_v 4 yog) ye rfl) rfl rfl rfl) rfl))))
theorem yqs:‹(9+1,t.ygJ,t.ykE,["self","hand"],2,yen)›:=have fa:=T.fa;zfn T.ykM.F ycG fun cdv Ar outer sh H E hr=>(yc (yu (i:=2) ycG.nd rfl oI (yE fa.fl_run (ybF yX ydp (yE fa.fl_crew (z_v 0 yd) rfl) (z_v 1 yea) nofun) rfl) rfl oI) (yc (yu (i:=3) ycG.nd rfl oI (yq (yE fa.fl_log (z_v 2 yJb) rfl) (T.cl 11) T.yxn (yxL T) ‹_› T.ysp.b rfl) rfl oI) (yc (ytE PassesOwn.never rfl (ygh (z_v 3 yzt)) (yjF (i:=4) ycG.nd rfl oI oI) (yc (yu (i:=5) ycG.nd rfl oI (ybF yB yY (z_v 4 yEW) z_int nofun) rfl oI) (yc (yoB (ybF yB yY (z_v 4 yEW) z_int nofun) (yE fa.fl_numbers (z_v 0 yd) rfl) (z_v 5 ysH) (fun _=>rfl) rfl rfl rfl) (yg (yoB (yfW ycR ygd (ybF yX ydp (yE fa.fl_marks (z_v 0 yd) rfl) (z_v 5 ysH) nofun) z_int) (yE fa.fl_marks (z_v 0 yd) rfl) (z_v 5 ysH) (fun _=>rfl) rfl rfl rfl)))) (fun _=>rfl)) (yc (ybg (yx (z_v 0 yd) (T.cl 15) T.yjt (yju T) ‹_› T.ygM.b (ya (z_v 1 yea) (ya (ycb (ya z_str ye rfl)) (ya (z_v 3 yzt) (ya (yE fa.fl_held (z_v 2 yJb) rfl) ye rfl) rfl) rfl) rfl) rfl rfl rfl) rfl) (yg (ybg (yq (z_v 0 yd) (T.cl 15) T.ynZ (yoq T) ‹_› T.yiz.b rfl) rfl))))))
theorem yiD:‹(10+1,t.ycB,t.yex,["self","hand","row_number"],3,ybp)›:=have fa:=T.fa;zfn T.yey.F ycs fun cdv Ar outer sh H E hr=>(yc (yu (i:=3) ycs.nd rfl oI (ybF yX ydp (yE fa.fl_crew (z_v 0 yd) rfl) (z_v 1 yea) nofun) rfl oI) (yc (yu (i:=4) ycs.nd rfl oI (yq (yE fa.fl_run (z_v 3 ycu) rfl) (T.cl 12) T.ypb (ypf T) ‹_› T.ynU.b rfl) rfl oI) (yc (yM (yA ybN yge (ybF yB yY (z_v 4 ybs) z_int nofun) z_str (yt _)) (yc ybe (yg ybe)) yp) (yc (yM (yA ybN yge (ybF yB yY (z_v 4 ybs) z_int nofun) z_str (yt _)) (yc ybe (yg ybe)) yp) (yc (yM (yA ybN yge (ybF yB yY (z_v 4 ybs) z_int nofun) z_str (yt _)) (yc (ybg (yx (z_v 0 yd) (T.cl 15) T.yjt (yju T) ‹_› T.ygM.b (ya (z_v 1 yea) (ya (ycb (ya z_str (ya (ybF yB yY (z_v 4 ybs) z_int nofun) (ya (yx (yE fa.fl_run (z_v 3 ycu) rfl) (T.cl 12) T.ms_Run_held_in (ydo T) ‹_› T.ycJ.b (ya (ybF yB yY (z_v 4 ybs) z_int nofun) ye rfl) rfl rfl rfl) ye rfl) rfl) rfl)) (ya (yce (ybZ ye)) (ya (yE fa.fl_before (z_v 3 ycu) rfl) ye rfl) rfl) rfl) rfl) rfl rfl rfl) rfl) (yg (ym (ycb (ya z_str (ya (z_v 2 yga) ye rfl) rfl))))) yp) (yc (ybg (yx (z_v 0 yd) (T.cl 15) T.yqj (yqs T) ‹_› T.ykM.b (ya (z_v 1 yea) ye rfl) rfl rfl rfl) rfl) (yg (ym (ycb (ya z_str (ya (z_v 2 yga) ye rfl) rfl))))))))))
theorem yxN:‹(11+1,t.ymO,t.ysh,["self","hand"],2,ybS)›:=have fa:=T.fa;zfn T.ysA.F ykh fun cdv Ar outer sh H E hr=>(yc (yu (i:=2) ykh.nd rfl oI (yx (z_v 0 yd) (T.cl 15) T.yez (yeC T) ‹_› T.ydE.b (ya (z_v 1 yea) ye rfl) rfl rfl rfl) rfl oI) (yc (yM (yA ysV yFg (yq (z_v 2 ycu) (T.cl 14) T.yjh (yjl T) ‹_› T.yhh.b rfl) z_str (yt _)) (yg ybe) yp) (yc (yu (i:=3) ykh.nd rfl oI (yE fa.fl_at (yE fa.fl_run (z_v 2 ycu) rfl) rfl) rfl oI) (yc (yM (yig (ycv (yq (yE fa.fl_run (z_v 2 ycu) rfl) (T.cl 12) T.ykO (ykZ T) ‹_› T.yfO.b rfl) (fun _=>rfl))) (yc (ybg (yq (yE fa.fl_run (z_v 2 ycu) rfl) (T.cl 12) T.yEQ (yFc T) ‹_› T.yAO.b rfl) rfl) (yg (ym (ycb (ya z_str (ya (z_v 3 yga) ye rfl) rfl))))) yp) (yc (yM (ycv (yx (yE fa.fl_run (z_v 2 ycu) rfl) (T.cl 12) T.ykN (ykY T) ‹_› T.yhW.b (ya (yE fa.fl_marks (z_v 0 yd) rfl) ye rfl) rfl rfl rfl) (fun _=>rfl)) (yc ybe (yg ybe)) yp) (yg (ym (yx (z_v 0 yd) (T.cl 15) T.yiA (yiD T) ‹_› T.yey.b (ya (z_v 1 yea) (ya (z_v 3 yga) ye rfl) rfl) rfl rfl rfl))))))))
theorem ygT:‹(0+1,t.yhV,t.ylH,["_law_script","_law_k"],2,ybc)›:=zfn T.ycn.F yrK fun cdv Ar outer sh H E hr=>(yc (yM (yA yvL yIt (z_v 1 ycj) (yiF yJ yfF ydI rfl T.z_len ydB (ya (z_v 0 ycM) ye rfl) rfl rfl) (yt _)) (yg (ym (ybF yX ydp (z_v 0 ycM) (z_v 1 ycj) nofun))) yp) (yg (ym z_int)))
theorem yiE:‹(0+1,t.yfE,t.yjq,["_law_cell"],1,ybE)›:=zfn T.ycH.F yin fun cdv Ar outer sh H E hr=>(yc (yu (i:=1) yin.nd rfl oI (yfW yCk yMM (z_v 0 yef) z_int) rfl oI) (yc (yM (yA ybN yge (yfW ynl yuD (z_v 0 yef) z_int) z_int (yt _)) (yg (ym (yfW ynl yuD (z_v 1 ykS) z_int))) yp) (yc (yM (yA ybN yge (yfW ynl yuD (z_v 0 yef) z_int) z_int (yt _)) (yg (ym (yfW ytv yBi (yfW ytv yBi (yfW yIc yMN z_int z_int) z_int) (yfW ynl yuD (z_v 1 ykS) z_int)))) yp) (yg (ym (yfW ynl yuD (z_v 1 ykS) (yfW yIc yMN z_int z_int)))))))
theorem ypV:‹(0+1,t.ymP,t.ysi,["_law_way"],1,yeR)›:=zfn T.ygN.F ydf fun cdv Ar outer sh H E hr=>(yc (yu (i:=1) ydf.nd rfl oI (yce (ybZ (ya (ycb (ya z_str (ya z_str (ya z_int ye rfl) rfl) rfl)) (ya (ycb (ya z_str (ya z_str (ya z_int ye rfl) rfl) rfl)) ye rfl) rfl))) rfl oI) (yc (yu (i:=1) ydf.nd rfl oI (yce (ynt ylm ysY (z_v 1 yeg) (yce (ybZ (ya (ycb (ya z_str (ya z_str (ya z_int ye rfl) rfl) rfl)) ye rfl))))) rfl oI) (yc (yu (i:=1) ydf.nd rfl oI (yce (ynt ylm ysY (z_v 1 yeg) (yce (ybZ (ya (ycb (ya z_str (ya z_str (ya z_int ye rfl) rfl) rfl)) ye rfl))))) rfl oI) (yc (yu (i:=1) ydf.nd rfl oI (yce (ynt ylm ysY (z_v 1 yeg) (yce (ybZ (ya (ycb (ya z_str (ya z_str (ya z_int ye rfl) rfl) rfl)) ye rfl))))) rfl oI) (yc (yu (i:=1) ydf.nd rfl oI (yce (ynt ylm ysY (z_v 1 yeg) (yce (ybZ (ya (ycb (ya z_str (ya z_str (ya z_int ye rfl) rfl) rfl)) ye rfl))))) rfl oI) (yc (yu (i:=1) ydf.nd rfl oI (yce (ynt ylm ysY (z_v 1 yeg) (yce (ybZ (ya (ycb (ya z_str (ya z_str (ya z_int ye rfl) rfl) rfl)) ye rfl))))) rfl oI) (yg (ym (ybF yX ydp (z_v 1 yeg) (z_v 0 ycC) nofun)))))))))
theorem ypW:‹(0+1,t.ymQ,t.ysj,["_law_way","_law_slots"],2,ycm)›:=zfn T.ygO.F yki fun cdv Ar outer sh H E hr=>(yc (yu (i:=2) yki.nd rfl oI (ybF yX ydp (z_v 1 ybA) z_int nofun) rfl oI) (yc (yu (i:=3) yki.nd rfl oI (ybF yX ydp (z_v 1 ybA) z_int nofun) rfl oI) (yc (yM (yA ybN yge (z_v 0 ycC) z_int (yt _)) (yg (ym (ycb (ya z_str (ya (yce (ybZ (ya (ycb (ya z_int (ya (z_v 3 ydH) ye rfl) rfl)) ye rfl))) ye rfl) rfl)))) yp) (yc (yM (yA ybN yge (z_v 0 ycC) z_int (yt _)) (yg (ym (ycb (ya z_str (ya (yce (ybZ (ya (ycb (ya z_int (ya z_int ye rfl) rfl)) ye rfl))) ye rfl) rfl)))) yp) (yc (yM (yA ybN yge (z_v 0 ycC) z_int (yt _)) (yg (ym (ycb (ya z_str (ya (yce (ybZ (ya (ycb (ya z_int (ya z_int ye rfl) rfl)) ye rfl))) ye rfl) rfl)))) yp) (yc (yM (yA ybN yge (z_v 0 ycC) z_int (yt _)) (yg (ym (ycb (ya z_str (ya (yce (ybZ (ya (ycb (ya z_int (ya (z_v 2 yjj) ye rfl) rfl)) (ya (ycb (ya z_int (ya z_int ye rfl) rfl)) ye rfl) rfl))) ye rfl) rfl)))) yp) (yg (ym (ycb (ya z_str (ya (yce (ybZ (ya (ycb (ya z_int (ya z_int ye rfl) rfl)) ye rfl))) ye rfl) rfl))))))))))
theorem ypX:‹(12+1,t.ymR,t.ysk,["_law_hall","_law_boxes","_law_stamps"],3,ygk)›:=zfn T.ygP.F ykj fun cdv Ar outer sh H E hr=>(yc (ytE PassesOwn.never rfl (yyM rfl T.z_range (ya z_int ye rfl) rfl) (yjF (i:=3) ykj.nd rfl oI oI) (yc (yu (i:=4) ykj.nd rfl oI (yx (z_v 0 yH) (T.cl 15) T.yxp (yxN T) ‹_› T.ysA.b (ya z_int ye rfl) rfl rfl rfl) rfl oI) (yc (yM (yA ysV yFg (ybF yB yY (z_v 4 ypS) z_int nofun) z_str (yt _)) (yg (ym (ybF yB yY (z_v 4 ypS) z_int nofun))) yp) (yg (yM (yAo (ynu (yA (ywF (ynw hr)) yDp (yq (z_v 0 yH) (T.cl 15) T.yji (yjm T) ‹_› T.yhj.b rfl) (z_v 1 yjk) (yt _)) (yjE (yA (ywF (ynw hr)) yDp (yq (z_v 0 yH) (T.cl 15) T.ylO (ylP T) ‹_› T.yjg.b rfl) (z_v 2 yto) (yt _))))) (yg (ym z_str)) yp)))) (fun _=>rfl)) (yg (ym z_str)))
theorem yxO:‹(13+1,t.ymS,t.ysl,["_law_hall","_law_k","_law_case","_law_begin","_law_numbers","_law_state"],6,ygl)›:=zfn T.ynb.F ypu fun cdv Ar outer sh H E hr=>(yc (yM (yAo (ynu (yA ysV yFg (yV (ypX T) ‹_› ypQ rfl T.ysD T.ygP.kp T.ygP.b (ya (z_v 0 yH) (ya (ybF yX ydp (z_v 5 ybf) z_int nofun) (ya (ybF yX ydp (z_v 5 ybf) z_int nofun) ye rfl) rfl) rfl) rfl rfl) z_str (yt _)) (yjE (yA ysV yFg (yiF yJ yfF ydI rfl T.z_len ydB (ya (yq (z_v 0 yH) (T.cl 15) T.yeA (yeD T) ‹_› T.ydF.b rfl) ye rfl) rfl rfl) (yfW ycR ygd (z_v 1 ycj) z_int) (yt _))))) (yg (ym yLK)) yp) (yc (yu (i:=6) ypu.nd rfl oI (ycb (ya z_str (ya (ybF yB yY (z_v 2 yhl) z_int nofun) (ya (ybF yX ydp (z_v 4 ysG) (ybF yB yY (z_v 2 yhl) z_int nofun) nofun) ye rfl) rfl) rfl)) rfl oI) (yg (ym (yll (yAs (ynw hr)) yGH (ybF yX ydp (yq (z_v 0 yH) (T.cl 15) T.yeA (yeD T) ‹_› T.ydF.b rfl) (z_v 1 ycj) nofun) (ycb (ya z_int (ya (z_v 1 ycj) (ya (z_v 6 yzr) (ya (yce (ybZ ye)) (ya (yce (ybZ ye)) (ya (z_v 3 yvx) ye rfl) rfl) rfl) rfl) rfl) rfl)) (yt _))))))
theorem yxP:‹(13+1,t.ymT,t.ysm,["_law_hall","_law_k","_law_case","_law_slots","_law_change","_law_state"],6,ygm)›:=zfn T.ync.F ykk fun cdv Ar outer sh H E hr=>(yc (yM (yAo (ynu (yA ysV yFg (yV (ypX T) ‹_› ypQ rfl T.ysD T.ygP.kp T.ygP.b (ya (z_v 0 yH) (ya (ybF yX ydp (z_v 5 ybf) z_int nofun) (ya (ybF yX ydp (z_v 5 ybf) z_int nofun) ye rfl) rfl) rfl) rfl rfl) z_str (yt _)) (yjE (yA ysV yFg (yiF yJ yfF ydI rfl T.z_len ydB (ya (yq (z_v 0 yH) (T.cl 15) T.yeA (yeD T) ‹_› T.ydF.b rfl) ye rfl) rfl rfl) (yfW ycR ygd (z_v 1 ycj) z_int) (yt _))))) (yg (ym yLK)) yp) (yc (yoB (ybF yB yY (z_v 4 ydG) z_int nofun) (ybF yX ydp (z_v 5 ybf) z_int nofun) (ybF yB yY (z_v 4 ydG) z_int nofun) (fun _=>rfl) rfl rfl rfl) (yc (yoB (yfW ycR ygd (ybF yX ydp (ybF yX ydp (z_v 5 ybf) z_int nofun) (ybF yB yY (z_v 4 ydG) z_int nofun) nofun) z_int) (ybF yX ydp (z_v 5 ybf) z_int nofun) (ybF yB yY (z_v 4 ydG) z_int nofun) (fun _=>rfl) rfl rfl rfl) (yc (ytE PassesOwn.never rfl (ygh (ybF yB yY (z_v 2 yhl) z_int nofun)) (yNA rfl (yAp (yjF (i:=6) ykk.nd rfl oI oI) (yAp (yjF (i:=7) ykk.nd rfl oI oI) yKB rfl) rfl) rfl rfl) (yg (yoB (z_v 7 ydH) (z_v 3 ybA) (z_v 6 yBL) (fun _=>rfl) rfl rfl rfl)) (fun _=>rfl)) (yg (ym (yll (yAs (ynw hr)) yGH (ybF yX ydp (yq (z_v 0 yH) (T.cl 15) T.yeA (yeD T) ‹_› T.ydF.b rfl) (z_v 1 ycj) nofun) (ycb (ya z_int (ya (z_v 1 ycj) (ya (ycb (ya z_str ye rfl)) (ya (yce (ybZ ye)) (ya (yce (ybZ (ya (z_v 4 ydG) ye rfl))) (ya (z_v 3 ybA) ye rfl) rfl) rfl) rfl) rfl) rfl)) (yt _))))))))
theorem yOx:‹(97+1,t.a_law,t.d_law,["_law_script"],1,yGZ)›:=zfn T.F_law.F sc_law fun cdv Ar outer sh H E hr=>(yc (yu (i:=1) sc_law.nd rfl oI (yfW ycR ygd z_int (yfW ynl yuD (yV (ygT T) ‹_› ygQ rfl T.yhZ T.ycn.kp T.ycn.b (ya (yoA (i:=0) ycM rfl (Or.inr oI)) (ya z_int ye rfl) rfl) rfl rfl) z_int)) rfl oI) (yc (yGV (iy:=2) [0] ["_law_script"] rfl (yyM rfl T.z_range (ya (z_v 1 ykR) ye rfl) rfl) ⟨rfl,rfl,rfl,True.intro⟩ (fun _ _ _ _ _ _=>(yV (yiE T) ‹_› yiB rfl T.yjs T.ycH.kp T.ycH.b (ya (yfW ycR ygd (yV (ygT T) ‹_› ygQ rfl T.yhZ T.ycn.kp T.ycn.b (ya (yoA (i:=1) ycM rfl (Or.inr oI)) (ya z_int ye rfl) rfl) rfl rfl) (yfW yIb yML (yfW yIb yML z_int (z_v 0 ycj)) (z_v 0 ycj))) ye rfl) rfl rfl)) (by rfl') rfl (by rfl') (by rfl') (by rfl') rfl (fun _=>rfl) sc_law.nd rfl oI oI rfl) (yc (yu (i:=3) sc_law.nd rfl oI (yce (ycV yy ybo ybW rfl T.z_list ybO (ya (yce (yNy yCA yMT (yoA (i:=0) ycM rfl (Or.inr oI)) (yyL z_int) (yyL z_int))) ye rfl) rfl rfl)) rfl oI) (yc (yM (yA ybN yge (yiF yJ yfF ydI rfl T.z_len ydB (ya (z_v 3 yob) ye rfl) rfl rfl) z_int (yt _)) (yg (yu (i:=3) sc_law.nd rfl oI (yce (ybZ (ya z_int (ya z_int ye rfl) rfl))) rfl oI)) yp) (yc (yyN (i:=4) sc_law.nd rfl oI (ybZ ye) rfl oI) (yc (ytE PassesOwn.never rfl (ygh (z_v 3 yob)) (yjF (i:=5) sc_law.nd rfl oI oI) (yc (yu (i:=6) sc_law.nd rfl oI (yfW ynl yuD (yfW yCk yMM (z_v 5 yef) z_int) (z_v 1 ykR)) rfl oI) (yc (yu (i:=7) sc_law.nd rfl oI (yV (yiE T) ‹_› yiB rfl T.yjs T.ycH.kp T.ycH.b (ya (yfW ycR ygd (z_v 5 yef) (yV (ygT T) ‹_› ygQ rfl T.yhZ T.ycn.kp T.ycn.b (ya (yoA (i:=0) ycM rfl (Or.inr oI)) (ya z_int ye rfl) rfl) rfl rfl)) ye rfl) rfl rfl) rfl oI) (yc (yu (i:=8) sc_law.nd rfl oI (yfW ynl yuD (z_v 5 yef) z_int) rfl oI) (yc (yM (yA yvL yIt (z_v 8 ycC) z_int (yt _)) (yg (yu (i:=9) sc_law.nd rfl oI (ybF yB yY (yV (ypV T) ‹_› ypP rfl T.ysB T.ygN.kp T.ygN.b (ya (z_v 8 ycC) ye rfl) rfl rfl) z_int nofun) rfl oI)) (yg (yu (i:=9) sc_law.nd rfl oI (ybF yB yY (yV (ypW T) ‹_› ypR rfl T.ysC T.ygO.kp T.ygO.b (ya (z_v 8 ycC) (ya (yce (ybZ (ya (z_v 6 yjj) (ya (z_v 7 ydH) ye rfl) rfl))) ye rfl) rfl) rfl rfl) z_int nofun) rfl oI))) (yc (yu (i:=10) sc_law.nd rfl oI (yfW yic ywp (yfW yic ywp (yfW yic ywp (yfW yic ywp z_str (yKA ypg yIv yJc rfl T.z_str yIo (ya (z_v 6 yjj) ye rfl) rfl rfl)) z_str) (yKA ypg yIv yJc rfl T.z_str yIo (ya (z_v 7 ydH) ye rfl) rfl rfl)) z_str) rfl oI) (yg (yII (ybu (i:=4) rfl oI yeB.d yeB.c) (ycb (ya (yfW yic ywp (z_v 10 yvy) (z_v 9 ytn)) (ya (z_v 8 ycC) (ya (z_v 6 yjj) (ya (z_v 7 ydH) ye rfl) rfl) rfl) rfl)) rfl rfl rfl rfl rfl rfl))))))) (fun _=>rfl)) (yqP 4 (yc (yu (i:=11) sc_law.nd rfl oI (yDI T.mk_Hall (yqr T) ‹_› yLv rfl T.m_Hall T.ykK.b (ya (yce (ycV yy ybo ybW rfl T.z_list ybO (ya (z_v 2 yjk) ye rfl) rfl rfl)) (ya (yce (ybZ (ya (yce (ynv [] [] rfl (ygh (z_v 4 yeB)) True.intro (fun _ _ _ _ _ _=>(ybF yB yY (z_v 0 ybM) z_int nofun)) (by rfl') rfl (by rfl') (by rfl') (by rfl') rfl (fun _=>rfl))) ye rfl))) ye rfl) rfl) rfl rfl) rfl oI) (yc (yu (i:=12) sc_law.nd rfl oI (yif (ybZ (ya (yif (ycV yy ybo ybW rfl T.z_list ybO (ya (z_v 2 yjk) ye rfl) rfl rfl)) (ya (yif (ynt yzM yGk (yce (ybZ (ya z_int ye rfl))) (z_v 1 ykR))) ye rfl) rfl))) rfl oI) (yc (yu (i:=13) sc_law.nd rfl oI (yif (ynt yzM yGk (yce (ybZ (ya z_int ye rfl))) z_int)) rfl oI) (yqP 4 (yc (ytE PassesOwn.never rfl (yyM rfl T.z_range (ya (yiF yJ yfF ydI rfl T.z_len ydB (ya (z_v 4 yeB) ye rfl) rfl rfl) ye rfl) rfl) (yjF (i:=14) sc_law.nd rfl oI oI) (yqP 4 (yc (yu (i:=15) sc_law.nd rfl oI (ybF yX ydp (z_v 4 yeB) (z_v 14 ycj) nofun) rfl oI) (yc (yM (yAo (ynu (yA (ywF (ynw hr)) yDp (yx (z_v 11 yH) (T.cl 15) T.ynY (yop T) ‹_› T.ykL.b (ya z_int ye rfl) rfl rfl rfl) (z_v 13 ybA) (yt _)) (ynu (yA ysV yFg (yx (z_v 11 yH) (T.cl 15) T.yvs (yvK T) ‹_› T.ypN.b (ya z_int ye rfl) rfl rfl rfl) (z_v 14 ycj) (yt _)) (ynu (yA (ywF (ynw hr)) yDp (yq (z_v 11 yH) (T.cl 15) T.yji (yjm T) ‹_› T.yhj.b rfl) (ybF yX ydp (z_v 12 ybf) z_int nofun) (yt _)) (yjE (yA (ywF (ynw hr)) yDp (yq (z_v 11 yH) (T.cl 15) T.ylO (ylP T) ‹_› T.yjg.b rfl) (ybF yX ydp (z_v 12 ybf) z_int nofun) (yt _))))))) (yg (ym yLK)) yp) (yg (yM (yA yvL yIt (ybF yB yY (z_v 15 ybM) z_int nofun) z_int (yt _)) (yg (yM (yig (ycv (yV (yxO T) ‹_› yxt rfl T.yzn T.ynb.kp T.ynb.b (ya (z_v 11 yH) (ya (z_v 14 ycj) (ya (yV (ypV T) ‹_› ypP rfl T.ysB T.ygN.kp T.ygN.b (ya (ybF yB yY (z_v 15 ybM) z_int nofun) ye rfl) rfl rfl) (ya (z_v 13 ybA) (ya (yce (ybZ (ya (ybF yB yY (z_v 15 ybM) z_int nofun) (ya (ybF yB yY (z_v 15 ybM) z_int nofun) ye rfl) rfl))) (ya (z_v 12 ybf) ye rfl) rfl) rfl) rfl) rfl) rfl) rfl rfl) (fun _=>rfl))) (yg (ym yLK)) yp)) (yc (yu (i:=13) sc_law.nd rfl oI (yif (ynt ylm ysY (yce (ybZ (ya (ybF yB yY (z_v 15 ybM) z_int nofun) (ya (ybF yB yY (z_v 15 ybM) z_int nofun) ye rfl) rfl))) (yce (yNy yCA yMT (z_v 13 ybA) (yyL z_int) yQp)))) rfl oI) (yc (yu (i:=16) sc_law.nd rfl oI (yV (ypW T) ‹_› ypR rfl T.ysC T.ygO.kp T.ygO.b (ya (ybF yB yY (z_v 15 ybM) z_int nofun) (ya (z_v 13 ybA) ye rfl) rfl) rfl rfl) rfl oI) (yg (yM (yig (ycv (yV (yxP T) ‹_› yxs rfl T.yzo T.ync.kp T.ync.b (ya (z_v 11 yH) (ya (z_v 14 ycj) (ya (z_v 16 yhl) (ya (z_v 13 ybA) (ya (ycb (ya (ybF yB yY (z_v 15 ybM) z_int nofun) (ya (ybF yB yY (z_v 15 ybM) z_int nofun) ye rfl) rfl)) (ya (z_v 12 ybf) ye rfl) rfl) rfl) rfl) rfl) rfl) rfl rfl) (fun _=>rfl))) (yg (ym yLK)) yp))))))))) (fun _=>rfl)) (yg (ym (yyJ (yll ybN yge (yx (z_v 11 yH) (T.cl 15) T.yvr (yvJ T) ‹_› T.ypM.b (ya z_int ye rfl) rfl rfl rfl) z_str (yt _)) (yyJ (yll (yAs (ynw hr)) yGH (yx (z_v 11 yH) (T.cl 15) T.ynY (yop T) ‹_› T.ykL.b (ya z_int ye rfl) rfl rfl rfl) (z_v 13 ybA) (yt _)) (yBn (yll (yAs (ynw hr)) yGH (yq (z_v 11 yH) (T.cl 15) T.yji (yjm T) ‹_› T.yhj.b rfl) (ybF yX ydp (z_v 12 ybf) z_int nofun) (yt _)))))))))))))))))))
def yHW (K:PySem.W.Frag):Sp:=fun vs H Q _=>∃ (a:Addr) (ns:List Int),vs=[.ref a]/\SqL K H a (ns.map V.int)/\ns.length<=63/\∀ H',Q (.bl true) H'
theorem yOy {A:Nat->Addr}:∀ vs H Q E,yHW K vs H Q E->spE ⟨K,A⟩ 1 yGZ vs H Q E:=by
 rintro _ H Q E ⟨a,ns,rfl,hS,hl,q⟩
 obtain ⟨h',e⟩:=yOr (h:=[]) ns hl
 exact ⟨⟨H,H,[],[]⟩,[.scr ns],.bl true,h',rfl,⟨Same.refl _,rfl,List.nodup_nil,fun n d a e=>by simp at e⟩,⟨.ref a,[],rfl,⟨a,rfl,hS⟩,rfl⟩,rfl,e,fun v W' _ _ rv=>by rw [show v=_ from rv];exact q _⟩
end
def AllA (p:Addr->Prop):List Addr->Prop
 | []=>True
 | c::cs=>p c/\AllA p cs
theorem AllA.get {p:Addr->Prop}{d:Addr}(hd:p d):∀ {cs:List Addr},AllA p cs->∀ k:Nat,p (cs.getD k d)
 | [],_,_=>hd
 | _::_,a,0=>a.1
 | _::_,a,k+1=>AllA.get hd a.2 k
structure TyR (K:PySem.W.Frag) (C:Addr):Prop where
 ha:findIn K (.ref C) "__class__" = some (some (.builtin "object.__class__"))
 hm:mroIn K C (.type "object")=some true
 ty:typeIn K (.ref C)=some (.type "type")
structure NS2 (K:PySem.W.Frag) (c d:Addr):Prop where
 sb:subIn K (.ref c) (.ref d)=some false
 ne:(c == d)=false
noncomputable def NSx (K:PySem.W.Frag) (pre:List Addr):List Addr->Prop
 | []=>True
 | c::cs=>AllA (NS2 K c) pre/\AllA (NS2 K c) cs/\NSx K (c::pre) cs
theorem AllA.mem {p:Addr->Prop}{A:Nat->Addr}:∀ {cs:List Nat},AllA p (cs.map A)->∀ i∈cs,p (A i)
 | c::cs,a,i,hi=>by
  rcases mem_cons.mp hi with rfl|hi
  .exact a.1
  .exact AllA.mem a.2 i hi
theorem NSx.get {K:PySem.W.Frag}{A:Nat->Addr}:∀ {cs pre:List Nat},NSx K (pre.map A) (cs.map A)->∀ i∈cs,∀ j,j∈pre\/j∈cs->i≠j->NS2 K (A i) (A j)
 | c::cs,pre,a,i,hi,j,hj,ne=>by
  rcases mem_cons.mp hi with rfl|hi
  .rcases hj with hj|hj
   .exact a.1.mem j hj
   .rcases mem_cons.mp hj with rfl|hj
    .exact absurd rfl ne
    .exact a.2.1.mem j hj
  .refine NSx.get (pre:=c::pre) a.2.2 i hi j ?_ ne
   rcases hj with hj|hj
   .exact .inl (mem_cons_of_mem _ hj)
   .rcases mem_cons.mp hj with rfl|hj
    .exact .inl mem_cons_self
    .exact .inr hj
theorem yLB {K:PySem.W.Frag}{A:Nat->Addr}(CL:∀ k,Cls K (A k)) (hn:PySem.W.specialIn K (.builtin "object.__class__") "__get__" = some (some (.builtin "getset_descriptor.__get__"))) (htk:PySem.W.takesIn K (.builtin "object.__class__")=some true) (cs:List Nat) (ty:AllA (TyR K) (cs.map A)) (sb:NSx K [] (cs.map A)) :
  ∀ r∈tbO cs,∀ (H:Hp) (a dx:Addr) (fs:List (Str×V)),H a=some (.ins (A r.1) dx fs)->IsI K H (.ref a) (.ref (A r.2.1)) r.2.2:=by
 intro r hr H a dx fs e
 unfold tbO at hr
 obtain ⟨i,hi,hr⟩:=List.mem_flatMap.mp hr
 obtain ⟨j,hj,rfl⟩:=List.mem_map.mp hr
 have t:=ty.mem i hi
 have t':=ty.mem j hj
 refine ⟨_,_,.ins e (CL i) t.ha hn htk t.hm,rfl,?_⟩
 by_cases q:i=j
 .subst q
  show _=some (i == i)
  rw [beq_self_eq_true]
  exact yFL
 .have n:=NSx.get (pre:=[]) sb i hi j (.inr hj) q
  show _=some (i == j)
  rw [beq_eq_false_iff_ne.mpr q]
  exact yFN n.ne t'.hm t'.ty n.sb
theorem all_mk {l:PySem.W.OpenLaw}{w:World}{K:PySem.W.Frag}{h:Heap}{mg:Str->Option Value}{fa C0 C1 C2 C3 C4 C5 C6 C7 C8 C9 C10 C11 C12 C13 C14 C15 f1 f2 f3 f4 f5 f6 f7 f8 f9 f10 f11 f12 f13 f14 f15 f16 f17 f18 f19 f20 f21 f22 f23 f24 f25 f26 f27 f28 f29 f30 f31 f32 f33 f34 f35 f36 f37 f38 f39 f40 f41 f42 f43 f44 f45 f46 f47 f48 f49 f50 f51 f52 f53 f54 f55 f56 f57 f58 f59 f60 f61 f62 f63 f64 f65 f66 f67 f68 f69 f70 f71 f72 f73 f74 f75 f76 f77 f78 f79 f80 f81 f82 f83 f84 f85 f86 f87 f88 f89 f90 f91 f92 f93 f94 f95 f96 f97 f98 f99 f100 f101 f102 u10:Addr}{d1 d2 d3 d4 d5 d6 d7 d8 d9 d10 d11 d12 d13 d14 d15 d16 d17 d18 d19 d20 d21 d22 d23 d24 d25 d26 d27 d28 d29 d30 d31 d32 d33 d34 d35 d36 d37 d38 d39 d40 d41 d42 d43 d44 d45 d46 d47 d48 d49 d50 d51 d52 d53 d54 d55 d56 d57 d58 d59 d60 d61 d62 d63 d64 d65 d66 d67 d68 d69 d70 d71 d72 d73 d74 d75 d76 d77 d78 d79 d80 d81 d82 d83 d84 d85 d86 d87 d88 d89 d90 d91 d92 d93 d94 d95 d96 d97 d98 d99 d100 d101 d102:FuncData}{u1 u2 u3 u4 u5 u6 u7 u8 u9:Tok}(X:K.In h) (G:h.Ns mainGlobals mg) (hfa:mg "law" = some (.ref fa))
  {qd10:Option Addr}{qn10:Nat}{qs10:Array (Option Value)}{qt10_0 qt10_1 qt10_2 qt10_3 qt10_4:Tok}
  (n0:nsIn K mainGlobals "Part" = some (some (.ref C0)))
  (n1:nsIn K mainGlobals "Let" = some (some (.ref C1)))
  (n2:nsIn K mainGlobals "Reckon" = some (some (.ref C2)))
  (n3:nsIn K mainGlobals "Take" = some (some (.ref C3)))
  (n4:nsIn K mainGlobals "Put" = some (some (.ref C4)))
  (n5:nsIn K mainGlobals "If" = some (some (.ref C5)))
  (n6:nsIn K mainGlobals "Either" = some (some (.ref C6)))
  (n7:nsIn K mainGlobals "Try" = some (some (.ref C7)))
  (n8:nsIn K mainGlobals "Throw" = some (some (.ref C8)))
  (n9:nsIn K mainGlobals "Wait" = some (some (.ref C9)))
  (n10:nsIn K mainGlobals "Reader" = some (some (.ref C10)))
  (n11:nsIn K mainGlobals "Log" = some (some (.ref C11)))
  (n12:nsIn K mainGlobals "Run" = some (some (.ref C12)))
  (n13:nsIn K mainGlobals "Doer" = some (some (.ref C13)))
  (n14:nsIn K mainGlobals "Hand" = some (some (.ref C14)))
  (n15:nsIn K mainGlobals "Hall" = some (some (.ref C15)))
  (cl:AllA (Cls K) [C0,C1,C2,C3,C4,C5,C6,C7,C8,C9,C10,C11,C12,C13,C14,C15])
  (mk0:makesIn K C0=true)
  (io0:findIn K (.ref C0) "__init__" = some (some (.builtin "object.__init__")))
  (kp0:keepIn K (.ref C0)=true)
  (mk1:Mk K C1 f36)
  (mk2:Mk K C2 f37)
  (mk3:Mk K C3 f38)
  (mk4:Mk K C4 f39)
  (mk5:Mk K C5 f40)
  (mk6:Mk K C6 f41)
  (mk7:Mk K C7 f42)
  (mk8:Mk K C8 f43)
  (mk9:makesIn K C9=true)
  (io9:findIn K (.ref C9) "__init__" = some (some (.builtin "object.__init__")))
  (kp9:keepIn K (.ref C9)=true)
  (mk10:Mk K C10 f62)
  (mk11:Mk K C11 f1)
  (mk12:Mk K C12 f22)
  (mk13:Mk K C13 f16)
  (mk14:Mk K C14 f35)
  (mk15:Mk K C15 f82)
  (me1:ybj K C0 "long" f44)
  (me2:ybj K C1 "long" f45)
  (me3:ybj K C2 "long" f46)
  (me4:ybj K C3 "long" f47)
  (me5:ybj K C4 "long" f48)
  (me6:ybj K C5 "long" f52)
  (me7:ybj K C6 "long" f53)
  (me8:ybj K C7 "long" f54)
  (me9:ybj K C8 "long" f49)
  (me10:ybj K C9 "long" f50)
  (me11:ybj K C11 "write" f2)
  (me12:ybj K C11 "begin" f3)
  (me13:ybj K C11 "settle" f4)
  (me14:ybj K C11 "drop" f5)
  (me15:ybj K C11 "saw" f6)
  (me16:ybj K C11 "wrote" f7)
  (me17:ybj K C12 "held_in" f17)
  (me18:ybj K C12 "hold" f18)
  (me19:ybj K C12 "box_at" f19)
  (me20:ybj K C12 "do_put" f20)
  (me21:ybj K C12 "row" f23)
  (me22:ybj K C12 "is_stale" f24)
  (me23:ybj K C12 "taker_layer" f25)
  (me24:ybj K C12 "is_looked_over" f26)
  (me25:ybj K C12 "go" f31)
  (me26:ybj K C12 "go_plain" f27)
  (me27:ybj K C12 "lead" f28)
  (me28:ybj K C12 "throw" f30)
  (me29:ybj K C12 "leave" f29)
  (me30:ybj K C14 "state" f32)
  (me31:ybj K C14 "new_run" f33)
  (me32:ybj K C14 "go_on" f34)
  (me33:ybj K C15 "boxes" f83)
  (me34:ybj K C15 "stamps" f84)
  (me35:ybj K C15 "hand_at" f85)
  (me36:ybj K C15 "state" f86)
  (me37:ybj K C15 "which" f87)
  (me38:ybj K C15 "slots" f88)
  (me39:ybj K C15 "journal" f89)
  (me40:ybj K C15 "wake_stale" f90)
  (me41:ybj K C15 "end_deed" f91)
  (me42:ybj K C15 "lay_down" f92)
  (me43:ybj K C15 "looked_over_told" f93)
  (me44:ybj K C15 "turn" f94)
  (me45:ybj K C10 "ahead" f64)
  (me46:ybj K C10 "taken" f65)
  (me47:ybj K C10 "pass_over" f66)
  (me48:ybj K C10 "slot_taken" f67)
  (me49:ybj K C10 "name_taken" f68)
  (me50:ybj K C10 "number_taken" f69)
  (me51:ybj K C10 "list_taken" f72)
  (me52:ybj K C10 "side_taken" f73)
  (me53:ybj K C10 "part_taken" f74)
  (me54:ybj K C10 "if_taken" f75)
  (me55:ybj K C10 "either_taken" f76)
  (me56:ybj K C10 "try_taken" f77)
  (me57:ybj K C10 "plain_taken" f71)
  (me58:ybj K C10 "reckon_taken" f70)
  (me59:yGW K C13 "__init__" f16)
  (a8:nsIn K mainGlobals "is_whole" = some (some (.ref f8)))
  (a9:nsIn K mainGlobals "is_number" = some (some (.ref f9)))
  (a10:nsIn K mainGlobals "is_made_of" = some (some (.ref f10)))
  (a11:nsIn K mainGlobals "number_of" = some (some (.ref f11)))
  (a12:nsIn K mainGlobals "is_word" = some (some (.ref f12)))
  (a13:nsIn K mainGlobals "is_slot" = some (some (.ref f13)))
  (a14:nsIn K mainGlobals "slot_index" = some (some (.ref f14)))
  (a15:nsIn K mainGlobals "is_name" = some (some (.ref f15)))
  (a21:nsIn K mainGlobals "takes" = some (some (.ref f21)))
  (a51:nsIn K mainGlobals "list_long" = some (some (.ref f51)))
  (a55:nsIn K mainGlobals "plain_rows" = some (some (.ref f55)))
  (a56:nsIn K mainGlobals "first_row" = some (some (.ref f56)))
  (a57:nsIn K mainGlobals "rows_between" = some (some (.ref f57)))
  (a58:nsIn K mainGlobals "list_rows" = some (some (.ref f58)))
  (a59:nsIn K mainGlobals "part_rows" = some (some (.ref f59)))
  (a60:nsIn K mainGlobals "sided_rows" = some (some (.ref f60)))
  (a61:nsIn K mainGlobals "rows_of" = some (some (.ref f61)))
  (a63:nsIn K mainGlobals "words_of" = some (some (.ref f63)))
  (a78:nsIn K mainGlobals "read" = some (some (.ref f78)))
  (a79:nsIn K mainGlobals "check_boxes" = some (some (.ref f79)))
  (a80:nsIn K mainGlobals "rows_of_deeds" = some (some (.ref f80)))
  (a81:nsIn K mainGlobals "rows_of_hands" = some (some (.ref f81)))
  (a95:nsIn K mainGlobals "_law_cell_at" = some (some (.ref f95)))
  (a96:nsIn K mainGlobals "_law_number_by" = some (some (.ref f96)))
  (a97:nsIn K mainGlobals "_law_fall" = some (some (.ref f97)))
  (a98:nsIn K mainGlobals "_law_stay" = some (some (.ref f98)))
  (a99:nsIn K mainGlobals "_law_goes" = some (some (.ref f99)))
  (a100:nsIn K mainGlobals "_law_fell" = some (some (.ref f100)))
  (a101:nsIn K mainGlobals "_law_done" = some (some (.ref f101)))
  (a102:nsIn K mainGlobals "law" = some (some (.ref f102)))
  (F1:FB K "__init__" "Log.__init__" yhs f1 d1 ["self"])
  (F2:FB K "write" "Log.write" yme f2 d2 ["self","box","number"])
  (F3:FB K "begin" "Log.begin" ymf f3 d3 ["self"])
  (F4:FB K "settle" "Log.settle" yjR f4 d4 ["self"])
  (F5:FB K "drop" "Log.drop" yoL f5 d5 ["self"])
  (F6:FB K "saw" "Log.saw" yrr f6 d6 ["self"])
  (F7:FB K "wrote" "Log.wrote" ymg f7 d7 ["self"])
  (F8:FB K "is_whole" "is_whole" yoM f8 d8 ["value"])
  (F9:FB K "is_number" "is_number" ymh f9 d9 ["value"])
  (F10:FB K "is_made_of" "is_made_of" yjS f10 d10 ["text","signs"])
  (F11:FB K "number_of" "number_of" ymi f11 d11 ["text"])
  (F12:FB K "is_word" "is_word" yrs f12 d12 ["text"])
  (F13:FB K "is_slot" "is_slot" yrt f13 d13 ["text"])
  (F14:FB K "slot_index" "slot_index" yjT f14 d14 ["slot"])
  (F15:FB K "is_name" "is_name" yru f15 d15 ["text"])
  (F16:FB K "__init__" "Doer.__init__" ygp f16 d16 ["self","slots","width"])
  (F17:FB K "held_in" "Doer.held_in" yht f17 d17 ["self","slot"])
  (F18:FB K "hold" "Doer.hold" ymj f18 d18 ["self","slot","number"])
  (F19:FB K "box_at" "Doer.box_at" yiQ f19 d19 ["self","place"])
  (F20:FB K "do_put" "Doer.do_put" yiR f20 d20 ["self","place","slot"])
  (F21:FB K "takes" "takes" yza f21 d21 ["begun_by","row"])
  (F22:FB K "__init__" "Run.__init__" yhu f22 d22 ["self","rows","slots","width"])
  (F23:FB K "row" "Run.row" yrv f23 d23 ["self"])
  (F24:FB K "is_stale" "Run.is_stale" yhv f24 d24 ["self","stamps"])
  (F25:FB K "taker_layer" "Run.taker_layer" yeT f25 d25 ["self","row"])
  (F26:FB K "is_looked_over" "Run.is_looked_over" ydv f26 d26 ["self"])
  (F27:FB K "go_plain" "Run.go_plain" yhw f27 d27 ["self","row"])
  (F28:FB K "lead" "Run.lead" yoN f28 d28 ["self","row"])
  (F29:FB K "leave" "Run.leave" ymk f29 d29 ["self","row"])
  (F30:FB K "throw" "Run.throw" yml f30 d30 ["self","row"])
  (F31:FB K "go" "Run.go" yvc f31 d31 ["self"])
  (F32:FB K "state" "Hand.state" yjU f32 d32 ["self"])
  (F33:FB K "new_run" "Hand.new_run" yhx f33 d33 ["self"])
  (F34:FB K "go_on" "Hand.go_on" yjV f34 d34 ["self","slots"])
  (F35:FB K "__init__" "Hand.__init__" ygq f35 d35 ["self","deeds","width"])
  (F36:FB K "__init__" "Let.__init__" yhy f36 d36 ["self","slot","number"])
  (F37:FB K "__init__" "Reckon.__init__" yeU f37 d37 ["self","word","slot","one","other"])
  (F38:FB K "__init__" "Take.__init__" ygr f38 d38 ["self","slot","place"])
  (F39:FB K "__init__" "Put.__init__" yhz f39 d39 ["self","place","slot"])
  (F40:FB K "__init__" "If.__init__" yiS f40 d40 ["self","slot","parts","others"])
  (F41:FB K "__init__" "Either.__init__" yeV f41 d41 ["self","parts","others"])
  (F42:FB K "__init__" "Try.__init__" yhA f42 d42 ["self","parts","name","slot","others"])
  (F43:FB K "__init__" "Throw.__init__" yfB f43 d43 ["self","name","slot"])
  (F44:FB K "long" "Part.long" ymm f44 d44 ["self"])
  (F45:FB K "long" "Let.long" yoO f45 d45 ["self"])
  (F46:FB K "long" "Reckon.long" yiT f46 d46 ["self"])
  (F47:FB K "long" "Take.long" ymn f47 d47 ["self"])
  (F48:FB K "long" "Put.long" yoP f48 d48 ["self"])
  (F49:FB K "long" "Throw.long" yjW f49 d49 ["self"])
  (F50:FB K "long" "Wait.long" ymo f50 d50 ["self"])
  (F51:FB K "list_long" "list_long" ymp f51 d51 ["parts"])
  (F52:FB K "long" "If.long" yrw f52 d52 ["self"])
  (F53:FB K "long" "Either.long" yiU f53 d53 ["self"])
  (F54:FB K "long" "Try.long" yoQ f54 d54 ["self"])
  (F55:FB K "plain_rows" "plain_rows" yjX f55 d55 ["part"])
  (F56:FB K "first_row" "first_row" ymq f56 d56 ["part","second"])
  (F57:FB K "rows_between" "rows_between" yhB f57 d57 ["part","behind"])
  (F58:FB K "list_rows" "list_rows" ymr f58 d58 ["parts","first"])
  (F59:FB K "part_rows" "part_rows" yms f59 d59 ["part","first"])
  (F60:FB K "sided_rows" "sided_rows" yjY f60 d60 ["part","first"])
  (F61:FB K "rows_of" "rows_of" yrx f61 d61 ["deed"])
  (F62:FB K "__init__" "Reader.__init__" yeW f62 d62 ["self","words"])
  (F63:FB K "words_of" "words_of" yoR f63 d63 ["text"])
  (F64:FB K "ahead" "Reader.ahead" yhC f64 d64 ["self"])
  (F65:FB K "taken" "Reader.taken" yhD f65 d65 ["self"])
  (F66:FB K "pass_over" "Reader.pass_over" yeq f66 d66 ["self","wanted"])
  (F67:FB K "slot_taken" "Reader.slot_taken" ydM f67 d67 ["self"])
  (F68:FB K "name_taken" "Reader.name_taken" ydN f68 d68 ["self"])
  (F69:FB K "number_taken" "Reader.number_taken" ydc f69 d69 ["self"])
  (F70:FB K "reckon_taken" "Reader.reckon_taken" ydd f70 d70 ["self","word"])
  (F71:FB K "plain_taken" "Reader.plain_taken" ydw f71 d71 ["self","word"])
  (F72:FB K "list_taken" "Reader.list_taken" ydO f72 d72 ["self","around"])
  (F73:FB K "side_taken" "Reader.side_taken" ydP f73 d73 ["self","around"])
  (F74:FB K "part_taken" "Reader.part_taken" ydQ f74 d74 ["self","around"])
  (F75:FB K "if_taken" "Reader.if_taken" yeX f75 d75 ["self","around"])
  (F76:FB K "either_taken" "Reader.either_taken" yde f76 d76 ["self","around"])
  (F77:FB K "try_taken" "Reader.try_taken" yer f77 d77 ["self","around"])
  (F78:FB K "read" "read" yEL f78 d78 ["text"])
  (F79:FB K "check_boxes" "check_boxes" yiV f79 d79 ["boxes"])
  (F80:FB K "rows_of_deeds" "rows_of_deeds" ygs f80 d80 ["texts"])
  (F81:FB K "rows_of_hands" "rows_of_hands" ygt f81 d81 ["hands"])
  (F82:FB K "__init__" "Hall.__init__" ygu f82 d82 ["self","boxes","hands"])
  (F83:FB K "boxes" "Hall.boxes" yjZ f83 d83 ["self"])
  (F84:FB K "stamps" "Hall.stamps" yiW f84 d84 ["self"])
  (F85:FB K "hand_at" "Hall.hand_at" yhE f85 d85 ["self","hand"])
  (F86:FB K "state" "Hall.state" yka f86 d86 ["self","hand"])
  (F87:FB K "which" "Hall.which" ykb f87 d87 ["self","hand"])
  (F88:FB K "slots" "Hall.slots" ykc f88 d88 ["self","hand"])
  (F89:FB K "journal" "Hall.journal" yhF f89 d89 ["self"])
  (F90:FB K "wake_stale" "Hall.wake_stale" yeY f90 d90 ["self"])
  (F91:FB K "end_deed" "Hall.end_deed" ygv f91 d91 ["self","hand","end","laid","slots"])
  (F92:FB K "lay_down" "Hall.lay_down" ygw f92 d92 ["self","hand"])
  (F93:FB K "looked_over_told" "Hall.looked_over_told" ycA f93 d93 ["self","hand","row_number"])
  (F94:FB K "turn" "Hall.turn" ymt f94 d94 ["self","hand"])
  (F95:FB K "_law_cell_at" "_law_cell_at" yhG f95 d95 ["_law_script","_law_k"])
  (F96:FB K "_law_number_by" "_law_number_by" yfC f96 d96 ["_law_cell"])
  (F97:FB K "_law_fall" "_law_fall" ymu f97 d97 ["_law_way"])
  (F98:FB K "_law_stay" "_law_stay" ymv f98 d98 ["_law_way","_law_slots"])
  (F99:FB K "_law_goes" "_law_goes" ymw f99 d99 ["_law_hall","_law_boxes","_law_stamps"])
  (F100:FB K "_law_fell" "_law_fell" ymx f100 d100 ["_law_hall","_law_k","_law_case","_law_begin","_law_numbers","_law_state"])
  (F101:FB K "_law_done" "_law_done" ymy f101 d101 ["_law_hall","_law_k","_law_case","_law_slots","_law_change","_law_state"])
  (F102:FB K "law" "law" yLt f102 d102 ["_law_script"])
  (na11_stack:NoAttr K C11 "stack")
  (na11_last_seen:NoAttr K C11 "last_seen")
  (na12_held:NoAttr K C12 "held")
  (na12_width:NoAttr K C12 "width")
  (na14_width:NoAttr K C14 "width")
  (na12_log:NoAttr K C12 "log")
  (na12_rows:NoAttr K C12 "rows")
  (na10_at:NoAttr K C10 "at")
  (na12_at:NoAttr K C12 "at")
  (na12_seen_stamps:NoAttr K C12 "seen_stamps")
  (na12_sides:NoAttr K C12 "sides")
  (na14_deeds:NoAttr K C14 "deeds")
  (na14_nth:NoAttr K C14 "nth")
  (na14_sleeps:NoAttr K C14 "sleeps")
  (na14_before:NoAttr K C14 "before")
  (na14_run:NoAttr K C14 "run")
  (na15_numbers:NoAttr K C15 "numbers")
  (na15_marks:NoAttr K C15 "marks")
  (na15_crew:NoAttr K C15 "crew")
  (na15_entries:NoAttr K C15 "entries")
  (na10_words:NoAttr K C10 "words")
  (na1_slot:NoAttr K C1 "slot")
  (na2_slot:NoAttr K C2 "slot")
  (na3_slot:NoAttr K C3 "slot")
  (na4_slot:NoAttr K C4 "slot")
  (na5_slot:NoAttr K C5 "slot")
  (na7_slot:NoAttr K C7 "slot")
  (na8_slot:NoAttr K C8 "slot")
  (na1_number:NoAttr K C1 "number")
  (na2_word:NoAttr K C2 "word")
  (na2_one:NoAttr K C2 "one")
  (na2_other:NoAttr K C2 "other")
  (na3_place:NoAttr K C3 "place")
  (na4_place:NoAttr K C4 "place")
  (na5_parts:NoAttr K C5 "parts")
  (na6_parts:NoAttr K C6 "parts")
  (na7_parts:NoAttr K C7 "parts")
  (na5_others:NoAttr K C5 "others")
  (na6_others:NoAttr K C6 "others")
  (na7_others:NoAttr K C7 "others")
  (na7_name:NoAttr K C7 "name")
  (na8_name:NoAttr K C8 "name")
  (ty:AllA (TyR K) [C1,C2,C3,C4,C5,C6,C7,C8,C9])
  (sb:NSx K [] [C1,C2,C3,C4,C5,C6,C7,C8,C9])
  (hn:PySem.W.specialIn K (.builtin "object.__class__") "__get__" = some (some (.builtin "getset_descriptor.__get__")))
  (htk:PySem.W.takesIn K (.builtin "object.__class__")=some true)
  (z1:nsIn K mainGlobals "all" = some none)
  (z2:nsIn K mainGlobals "any" = some none)
  (z3:nsIn K mainGlobals "bool" = some none)
  (z4:nsIn K mainGlobals "int" = some none)
  (z5:nsIn K mainGlobals "isinstance" = some none)
  (z6:nsIn K mainGlobals "len" = some none)
  (z7:nsIn K mainGlobals "list" = some none)
  (z8:nsIn K mainGlobals "range" = some none)
  (z9:nsIn K mainGlobals "sorted" = some none)
  (z10:nsIn K mainGlobals "str" = some none)
  (z11:nsIn K mainGlobals "sum" = some none)
  (q1:nsIn K mainGlobals "FIGURES" = some (some (.str "0123456789" u1)))
  (q2:nsIn K mainGlobals "LETTERS" = some (some (.str "abcdefghijklmnopqrstuvwxyz" u2)))
  (q3:nsIn K mainGlobals "MOST_AROUND" = some (some (.int 8 u3)))
  (q4:nsIn K mainGlobals "MOST_BOXES" = some (some (.int 16 u4)))
  (q5:nsIn K mainGlobals "MOST_DEEDS" = some (some (.int 6 u5)))
  (q6:nsIn K mainGlobals "MOST_HANDS" = some (some (.int 8 u6)))
  (q7:nsIn K mainGlobals "MOST_ROWS" = some (some (.int 80 u7)))
  (q8:nsIn K mainGlobals "SLOTS" = some (some (.str "abcdefgh" u8)))
  (q9:nsIn K mainGlobals "WIDE" = some (some (.int 18446744073709551616 u9)))
  (q10:nsIn K mainGlobals "WORDS" = some (some (.ref u10)))
  (qk10:K.lookup u10=some ⟨.type "tuple",qd10,.seq #[.str "plus" qt10_0,.str "minus" qt10_1,.str "times" qt10_2,.str "less" qt10_3,.str "same" qt10_4] qn10,qs10⟩) :
  ∃ fd:FuncData,(∀ (s:Shared) (v:Value),BindsTo s fd ⟨[v],[]⟩ [("_law_script",v)])/\∀ base:Heap,K.In base->base.Ns mainGlobals mg->FnOk l.prog w K mg base CX0 98 fa fd ["_law_script"] (yHW K):=by
 have e:=hfa.symm.trans (mg_of X G a102)
 cases e
 have CL:∀ k,Cls K ([C0,C1,C2,C3,C4,C5,C6,C7,C8,C9,C10,C11,C12,C13,C14,C15].getD k C0):=fun k=>AllA.get cl.1 cl k
 have T:Txt K mg ⟨fun k=>[C0,C1,C2,C3,C4,C5,C6,C7,C8,C9,C10,C11,C12,C13,C14,C15].getD k C0,f1,d1,f2,d2,f3,d3,f4,d4,f5,d5,f6,d6,f7,d7,f8,d8,f9,d9,f10,d10,f11,d11,f12,d12,f13,d13,f14,d14,f15,d15,f16,d16,f17,d17,f18,d18,f19,d19,f20,d20,f21,d21,f22,d22,f23,d23,f24,d24,f25,d25,f26,d26,f27,d27,f28,d28,f29,d29,f30,d30,f31,d31,f32,d32,f33,d33,f34,d34,f35,d35,f36,d36,f37,d37,f38,d38,f39,d39,f40,d40,f41,d41,f42,d42,f43,d43,f44,d44,f45,d45,f46,d46,f47,d47,f48,d48,f49,d49,f50,d50,f51,d51,f52,d52,f53,d53,f54,d54,f55,d55,f56,d56,f57,d57,f58,d58,f59,d59,f60,d60,f61,d61,f62,d62,f63,d63,f64,d64,f65,d65,f66,d66,f67,d67,f68,d68,f69,d69,f70,d70,f71,d71,f72,d72,f73,d73,f74,d74,f75,d75,f76,d76,f77,d77,f78,d78,f79,d79,f80,d80,f81,d81,f82,d82,f83,d83,f84,d84,f85,d85,f86,d86,f87,d87,f88,d88,f89,d89,f90,d90,f91,d91,f92,d92,f93,d93,f94,d94,f95,d95,f96,d96,f97,d97,f98,d98,f99,d99,f100,d100,f101,d101,fa,d102,u1,u2,u3,u4,u5,u6,u7,u8,u9,u10⟩:=⟨F1,F2,F3,F4,F5,F6,F7,F8,mg_of X G a8,F9,mg_of X G a9,F10,mg_of X G a10,F11,mg_of X G a11,F12,mg_of X G a12,F13,mg_of X G a13,F14,mg_of X G a14,F15,mg_of X G a15,F16,F17,F18,F19,F20,F21,mg_of X G a21,F22,F23,F24,F25,F26,F27,F28,F29,F30,F31,F32,F33,F34,F35,F36,F37,F38,F39,F40,F41,F42,F43,F44,F45,F46,F47,F48,F49,F50,F51,mg_of X G a51,F52,F53,F54,F55,mg_of X G a55,F56,mg_of X G a56,F57,mg_of X G a57,F58,mg_of X G a58,F59,mg_of X G a59,F60,mg_of X G a60,F61,mg_of X G a61,F62,F63,mg_of X G a63,F64,F65,F66,F67,F68,F69,F70,F71,F72,F73,F74,F75,F76,F77,F78,mg_of X G a78,F79,mg_of X G a79,F80,mg_of X G a80,F81,mg_of X G a81,F82,F83,F84,F85,F86,F87,F88,F89,F90,F91,F92,F93,F94,F95,mg_of X G a95,F96,mg_of X G a96,F97,mg_of X G a97,F98,mg_of X G a98,F99,mg_of X G a99,F100,mg_of X G a100,F101,mg_of X G a101,F102,mg_of X G a102,mg_of X G n0,mk0,io0,kp0,mg_of X G n1,mk1,mg_of X G n2,mk2,mg_of X G n3,mk3,mg_of X G n4,mk4,mg_of X G n5,mk5,mg_of X G n6,mk6,mg_of X G n7,mk7,mg_of X G n8,mk8,mg_of X G n9,mk9,io9,kp9,mg_of X G n10,mk10,mg_of X G n11,mk11,mg_of X G n12,mk12,mg_of X G n13,mk13,mg_of X G n14,mk14,mg_of X G n15,mk15,me1,me2,me3,me4,me5,me6,me7,me8,me9,me10,me11,me12,me13,me14,me15,me16,me17,me18,me19,me20,me21,me22,me23,me24,me25,me26,me27,me28,me29,me30,me31,me32,me33,me34,me35,me36,me37,me38,me39,me40,me41,me42,me43,me44,me45,me46,me47,me48,me49,me50,me51,me52,me53,me54,me55,me56,me57,me58,me59,CL,⟨all_cons ⟨CL 11,na11_stack⟩ (fun k hk=>absurd hk (by simp)),all_cons ⟨CL 11,na11_last_seen⟩ (fun k hk=>absurd hk (by simp)),all_cons ⟨CL 12,na12_held⟩ (fun k hk=>absurd hk (by simp)),all_cons ⟨CL 12,na12_width⟩ (all_cons ⟨CL 14,na14_width⟩ (fun k hk=>absurd hk (by simp))),all_cons ⟨CL 12,na12_log⟩ (fun k hk=>absurd hk (by simp)),all_cons ⟨CL 12,na12_rows⟩ (fun k hk=>absurd hk (by simp)),all_cons ⟨CL 10,na10_at⟩ (all_cons ⟨CL 12,na12_at⟩ (fun k hk=>absurd hk (by simp))),all_cons ⟨CL 12,na12_seen_stamps⟩ (fun k hk=>absurd hk (by simp)),all_cons ⟨CL 12,na12_sides⟩ (fun k hk=>absurd hk (by simp)),all_cons ⟨CL 14,na14_deeds⟩ (fun k hk=>absurd hk (by simp)),all_cons ⟨CL 14,na14_nth⟩ (fun k hk=>absurd hk (by simp)),all_cons ⟨CL 14,na14_sleeps⟩ (fun k hk=>absurd hk (by simp)),all_cons ⟨CL 14,na14_before⟩ (fun k hk=>absurd hk (by simp)),all_cons ⟨CL 14,na14_run⟩ (fun k hk=>absurd hk (by simp)),all_cons ⟨CL 15,na15_numbers⟩ (fun k hk=>absurd hk (by simp)),all_cons ⟨CL 15,na15_marks⟩ (fun k hk=>absurd hk (by simp)),all_cons ⟨CL 15,na15_crew⟩ (fun k hk=>absurd hk (by simp)),all_cons ⟨CL 15,na15_entries⟩ (fun k hk=>absurd hk (by simp)),all_cons ⟨CL 10,na10_words⟩ (fun k hk=>absurd hk (by simp)),all_cons ⟨CL 1,na1_slot⟩ (all_cons ⟨CL 2,na2_slot⟩ (all_cons ⟨CL 3,na3_slot⟩ (all_cons ⟨CL 4,na4_slot⟩ (all_cons ⟨CL 5,na5_slot⟩ (all_cons ⟨CL 7,na7_slot⟩ (all_cons ⟨CL 8,na8_slot⟩ (fun k hk=>absurd hk (by simp)))))))),all_cons ⟨CL 1,na1_number⟩ (fun k hk=>absurd hk (by simp)),all_cons ⟨CL 2,na2_word⟩ (fun k hk=>absurd hk (by simp)),all_cons ⟨CL 2,na2_one⟩ (fun k hk=>absurd hk (by simp)),all_cons ⟨CL 2,na2_other⟩ (fun k hk=>absurd hk (by simp)),all_cons ⟨CL 3,na3_place⟩ (all_cons ⟨CL 4,na4_place⟩ (fun k hk=>absurd hk (by simp))),all_cons ⟨CL 5,na5_parts⟩ (all_cons ⟨CL 6,na6_parts⟩ (all_cons ⟨CL 7,na7_parts⟩ (fun k hk=>absurd hk (by simp)))),all_cons ⟨CL 5,na5_others⟩ (all_cons ⟨CL 6,na6_others⟩ (all_cons ⟨CL 7,na7_others⟩ (fun k hk=>absurd hk (by simp)))),all_cons ⟨CL 7,na7_name⟩ (all_cons ⟨CL 8,na8_name⟩ (fun k hk=>absurd hk (by simp))),yLB CL hn htk [1,2,3,4,5,6,7,8,9] ty sb⟩,mg_none_of X G z1,mg_none_of X G z2,mg_none_of X G z3,mg_none_of X G z4,mg_none_of X G z5,mg_none_of X G z6,mg_none_of X G z7,mg_none_of X G z8,mg_none_of X G z9,mg_none_of X G z10,mg_none_of X G z11,mg_of X G q1,mg_of X G q2,mg_of X G q3,mg_of X G q4,mg_of X G q5,mg_of X G q6,mg_of X G q7,mg_of X G q8,mg_of X G q9,mg_of X G q10,⟨_,_,_,qk10,rfl,rfl,(by show 5<=sizeLine;decide),.cons ⟨_,rfl⟩ (.cons ⟨_,rfl⟩ (.cons ⟨_,rfl⟩ (.cons ⟨_,rfl⟩ (.cons ⟨_,rfl⟩ (.nil)))))⟩⟩
 refine ⟨d102,?_,fun base _ _=>(yOx T).imp (yOy T)⟩
 obtain ⟨_,_,_,_,_,_,_,_,_,rfl,_⟩:=F102.F.ex
 exact fun s v=>.of_eq rfl
theorem walk {l:PySem.W.OpenLaw}{q:Program}{loose:List Str}{XP:(Str->Option Value)->Heap->Prop}{YP:World->Heap->Prop}{d:DefRec}{K:Params->PySem.W.Frag}(hn:l.most=some 63) (hdf:d.params.defaults=[])
  (hY:∀ (w:World) (h:Heap),YP w h->(K w.params).In h)
  (F:∀ (w:World) (mg:Str->Option Value) (fa:Addr) (h:Heap),(K w.params).In h->h.Ns mainGlobals mg->mg d.name=some (.ref fa) ->
   ∃ fd:FuncData,(∀ (s:Shared) (u:Value),BindsTo s fd ⟨[u],[]⟩ [("_law_script",u)])/\∀ base:Heap,(K w.params).In base->base.Ns mainGlobals mg->FnOk l.prog w (K w.params) mg base CX0 98 fa fd ["_law_script"] (yHW (K w.params))) :
  PySem.W.WalkO q loose XP YP l.row.toRowW d [] (fun f vs=>PySem.call f vs) :=
 L2.walk_of (n:=63) (k:=98) (x:="_law_script") (CX:=fun _=>CX0) (sp:=fun w=>yHW (K w.params)) hn (by decide) hdf ⟨rfl,by decide,by decide⟩ hY F (fun _ _ a ns hl _ hS=>⟨a,ns,rfl,hS,hl,fun _=>rfl⟩) fun _ _ _ _ _ z=>z
end My
local macro_rules | `(tactic| walk_at "ka")=>`(tactic| first|exact True.intro|k_is|decide|((first|refine And.intro ?_ ?_|refine' L2.Cls.mk ?_ ?_ ?_ ?_|refine' My.TyR.mk ?_ ?_ ?_|refine' My.NS2.mk ?_ ?_)<;>walk_at "ka"))
local macro_rules | `(tactic| walk_at "kf")=>`(tactic| (refine' My.FB.mk (L2.fun_mk ?a ?b ?c) ?d;(case a=>k_is);(case b=>k_is);(case c=>k_is);(case d=>first|exact L2.Binds.all (My.ml1 fun _=>rfl)|exact L2.Binds.all (My.ml2 fun _ _=>rfl)|exact L2.Binds.all (My.ml3 fun _ _ _=>rfl)|exact L2.Binds.all (My.ml4 fun _ _ _ _=>rfl)|exact L2.Binds.all (My.ml5 fun _ _ _ _ _=>rfl)|exact L2.Binds.all (My.ml6 fun _ _ _ _ _ _=>rfl))))
local macro_rules | `(tactic| walk_at "k4")=>`(tactic| (refine' ⟨?a,?b,?c,?d⟩;(case a=>k_is);(case b=>k_is);(case c=>k_is);(case d=>k_is)))
local macro_rules | `(tactic| walk_at "k3")=>`(tactic| (refine' ⟨?a,?b,?c⟩;(case a=>k_is);(case b=>k_is);(case c=>k_is)))
open PySem PySem.W PyProof.Rows
set_option maxRecDepth 100000 in
set_option maxHeartbeats 0 in
theorem PySem.Challenge.cw_retryhall_k26_fell_deeds_holds : PySem.Challenge.rw_retryhall_k26_fell_deeds.Holds := by
 refine hD_ ?_
 k_fill
 refine My.walk (l:=PySem.Challenge.rw_retryhall_k26_fell_deeds) rfl rfl (fun w h Y=>Y) ?F
 case F =>
  intro w mg fa h KX G hmg
  refine' My.all_mk KX G hmg ?n0 ?n1 ?n2 ?n3 ?n4 ?n5 ?n6 ?n7 ?n8 ?n9 ?n10 ?n11 ?n12 ?n13 ?n14 ?n15 ?cl ?mk0 ?io0 ?kp0 ?mk1 ?mk2 ?mk3 ?mk4 ?mk5 ?mk6 ?mk7 ?mk8 ?mk9 ?io9 ?kp9 ?mk10 ?mk11 ?mk12 ?mk13 ?mk14 ?mk15 ?me1 ?me2 ?me3 ?me4 ?me5 ?me6 ?me7 ?me8 ?me9 ?me10 ?me11 ?me12 ?me13 ?me14 ?me15 ?me16 ?me17 ?me18 ?me19 ?me20 ?me21 ?me22 ?me23 ?me24 ?me25 ?me26 ?me27 ?me28 ?me29 ?me30 ?me31 ?me32 ?me33 ?me34 ?me35 ?me36 ?me37 ?me38 ?me39 ?me40 ?me41 ?me42 ?me43 ?me44 ?me45 ?me46 ?me47 ?me48 ?me49 ?me50 ?me51 ?me52 ?me53 ?me54 ?me55 ?me56 ?me57 ?me58 ?me59 ?a8 ?a9 ?a10 ?a11 ?a12 ?a13 ?a14 ?a15 ?a21 ?a51 ?a55 ?a56 ?a57 ?a58 ?a59 ?a60 ?a61 ?a63 ?a78 ?a79 ?a80 ?a81 ?a95 ?a96 ?a97 ?a98 ?a99 ?a100 ?a101 ?a102 ?F1 ?F2 ?F3 ?F4 ?F5 ?F6 ?F7 ?F8 ?F9 ?F10 ?F11 ?F12 ?F13 ?F14 ?F15 ?F16 ?F17 ?F18 ?F19 ?F20 ?F21 ?F22 ?F23 ?F24 ?F25 ?F26 ?F27 ?F28 ?F29 ?F30 ?F31 ?F32 ?F33 ?F34 ?F35 ?F36 ?F37 ?F38 ?F39 ?F40 ?F41 ?F42 ?F43 ?F44 ?F45 ?F46 ?F47 ?F48 ?F49 ?F50 ?F51 ?F52 ?F53 ?F54 ?F55 ?F56 ?F57 ?F58 ?F59 ?F60 ?F61 ?F62 ?F63 ?F64 ?F65 ?F66 ?F67 ?F68 ?F69 ?F70 ?F71 ?F72 ?F73 ?F74 ?F75 ?F76 ?F77 ?F78 ?F79 ?F80 ?F81 ?F82 ?F83 ?F84 ?F85 ?F86 ?F87 ?F88 ?F89 ?F90 ?F91 ?F92 ?F93 ?F94 ?F95 ?F96 ?F97 ?F98 ?F99 ?F100 ?F101 ?F102 ?na11_stack ?na11_last_seen ?na12_held ?na12_width ?na14_width ?na12_log ?na12_rows ?na10_at ?na12_at ?na12_seen_stamps ?na12_sides ?na14_deeds ?na14_nth ?na14_sleeps ?na14_before ?na14_run ?na15_numbers ?na15_marks ?na15_crew ?na15_entries ?na10_words ?na1_slot ?na2_slot ?na3_slot ?na4_slot ?na5_slot ?na7_slot ?na8_slot ?na1_number ?na2_word ?na2_one ?na2_other ?na3_place ?na4_place ?na5_parts ?na6_parts ?na7_parts ?na5_others ?na6_others ?na7_others ?na7_name ?na8_name ?ty ?sb ?hn ?htk ?z1 ?z2 ?z3 ?z4 ?z5 ?z6 ?z7 ?z8 ?z9 ?z10 ?z11 ?q1 ?q2 ?q3 ?q4 ?q5 ?q6 ?q7 ?q8 ?q9 ?q10 ?qk10
  (case n0|n1|n2|n3|n4|n5|n6|n7|n8|n9|n10|n11|n12|n13|n14|n15=>k_is)
  (case cl=>walk_at "ka")
  (case mk0|io0|kp0=>k_is)
  (case mk1|mk2|mk3|mk4|mk5|mk6|mk7|mk8=>walk_at "k4")
  (case mk9|io9|kp9=>k_is)
  (case mk10|mk11|mk12|mk13|mk14|mk15=>walk_at "k4")
  (case me1|me2|me3|me4|me5|me6|me7|me8|me9|me10|me11|me12|me13|me14|me15|me16|me17|me18|me19|me20|me21|me22|me23|me24|me25|me26|me27|me28|me29|me30|me31|me32|me33|me34|me35|me36|me37|me38|me39|me40|me41|me42|me43|me44|me45|me46|me47|me48|me49|me50|me51|me52|me53|me54|me55|me56|me57|me58=>walk_at "k3")
  (case me59=>walk_at "k4")
  (case a8|a9|a10|a11|a12|a13|a14|a15|a21|a51|a55|a56|a57|a58|a59|a60|a61|a63|a78|a79|a80|a81|a95|a96|a97|a98|a99|a100|a101|a102=>k_is)
  (case F1|F2|F3|F4|F5|F6|F7|F8|F9|F10|F11|F12|F13|F14|F15|F16|F17|F18|F19|F20|F21|F22|F23|F24|F25|F26|F27|F28|F29|F30|F31|F32|F33|F34|F35|F36|F37|F38|F39|F40|F41|F42|F43|F44|F45|F46|F47|F48|F49|F50|F51|F52|F53|F54|F55|F56|F57|F58|F59|F60|F61|F62|F63|F64|F65|F66|F67|F68|F69|F70|F71|F72|F73|F74|F75|F76|F77|F78|F79|F80|F81|F82|F83|F84|F85|F86|F87|F88|F89|F90|F91|F92|F93|F94|F95|F96|F97|F98|F99|F100|F101|F102=>walk_at "kf")
  (case na11_stack|na11_last_seen|na12_held|na12_width|na14_width|na12_log|na12_rows|na10_at|na12_at|na12_seen_stamps|na12_sides|na14_deeds|na14_nth|na14_sleeps|na14_before|na14_run|na15_numbers|na15_marks|na15_crew|na15_entries|na10_words|na1_slot|na2_slot|na3_slot|na4_slot|na5_slot|na7_slot|na8_slot|na1_number|na2_word|na2_one|na2_other|na3_place|na4_place|na5_parts|na6_parts|na7_parts|na5_others|na6_others|na7_others|na7_name|na8_name=>unfold L2.NoAttr;k_is)
  (case ty|sb=>walk_at "ka")
  (case hn|htk|z1|z2|z3|z4|z5|z6|z7|z8|z9|z10|z11|q1|q2|q3|q4|q5|q6|q7|q8|q9|q10|qk10=>k_is)
