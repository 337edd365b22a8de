import PyProof.Rows.All
import Wide.All
import OpenK.KLine
import KE.KIntText
import KE.KIsAll
import KE.KItemsList
import KE.KRevIter
import KE.KSortTup
import KE.LcSums
import KE.KPairComp
import Wide.FinOn
import Lean
import PyProof.EqAt
import PyProof.EqKinds
import PyProof.TupleCall
import PySem.Challenge.RW_retryhall_k67_whole_cut_turns
set_option Elab.async false
set_option linter.all false
set_option maxRecDepth 100000
set_option maxHeartbeats 4000000
set_option compiler.extract_closed false
namespace My
open PySem PySem.W
def lvO:Obj->Option Obj
 |⟨_,_,.freed,_⟩=>none
 |o=>some o
abbrev PkO:=List (Nat×Option Obj)
noncomputable def pkO (l:List Obj):Nat->List Nat->PkO:=l.rec (motive:=fun _=>Nat->List Nat->PkO) (fun _ _=>[]) fun o _ f i t=>match t with|[]=>[]|a::t=>bif Nat.beq a i then (a,lvO o)::f (i+1) t else f (i+1) (a::t)
theorem pk_m:∀ {l:List Obj}{i t},∀ p∈pkO l i t,i<=p.1/\p.2=(l[p.1-i]?).bind lvO
 |[],_,_,_,h=>nomatch h
 |_::_,_,[],_,h=>nomatch h
 |o::l,i,a::t,p,h=>by
  have h:p∈bif Nat.beq a i then (a,lvO o)::pkO l (i+1) t else pkO l (i+1) (a::t):=h
  have H:∀ t,p∈pkO l (i+1) t->i<=p.1/\p.2=((o::l)[p.1-i]?).bind lvO:=fun t h=>by
   have u:=pk_m p h
   rw [show p.1-i=p.1-(i+1)+1 by omega]
   exact ⟨by omega,u.2⟩
  cases e:Nat.beq a i<;>rw [e] at h
  .exact H _ h
  .rcases List.mem_cons.mp h with rfl|h
   .cases Nat.eq_of_beq_eq_true e;simp
   .exact H _ h
noncomputable def kHk (K:Params->Frag) (t:List Nat):Hook:=⟨PkO,fun s=>pkO s.heap.objs.toList 0 t,fun w=>(K w.params).map fun p=>(p.1,some p.2),InK K,fun w s x a o e=>by
 obtain ⟨_,_,e,_⟩:=List.lookup_eq_some_iff.mp e
 have m:some o=_:=(pk_m (a,some o) (x ▸ List.mem_map.mpr ⟨(a,o),by simp [e],rfl⟩)).2
 rw [m]
 simp
 unfold Heap.get?
 cases s.heap.objs[a]? with
 |none=>rfl
 |some o=>obtain ⟨_,_,d,_⟩:=o;cases d<;>rfl,InK.keeps⟩
end My
local macro_rules|`(tactic|o_head $H)=>do
 let r:=H.raw[1]
 if r[0].getId.eraseMacroScopes != `kHook then Lean.Macro.throwUnsupported
 `(tactic|o_head (My.kHk $(⟨r[1][0]⟩) $(⟨r[1][1]⟩)))
namespace PySem.W.Fast
local macro_rules|`(command|universe $xs*)=>do return Lean.mkNullNode (<-(xs.flatMap fun x=>#[`hD_++x.getId,`PySem.Challenge++x.getId]).append ((Array.range 1423).map fun i=>`hD_++.mkSimple ("o_"++toString i)) |>.mapM fun n=>`(command|theorem $(Lean.mkIdent (.mkSimple ("tw"++toString n.hash))) : True:=True.intro))
universe heap_39 heap_46 heap_1423 tree_47 tree_70 tree_85 tree_100 tree_115 tree_130 tree_216 tree_280 tree_359 tree_368 tree_458 tree_516 tree_551 tree_587 tree_623 tree_659 tree_695 tree_731 tree_767 tree_803 tree_839 tree_889 tree_933 tree_1054 tree_1139 tree_1159 tree_1276 tree_1359 tree_1422 view_39 sts_49 sts_71 sts_86 sts_101 sts_116 sts_131 sts_217 sts_281 sts_360 sts_369 sts_459 sts_517 sts_552 sts_588 sts_624 sts_660 sts_696 sts_732 sts_768 sts_804 sts_840 sts_890 sts_934 sts_1143 sts_1160 sts_1363 env_41 pw_retryhall_k67_whole_cut_turns rw_retryhall_k67_whole_cut_turns
end PySem.W.Fast
set_option maxHeartbeats 0 in
open_top hD_ for PySem.Challenge.rw_retryhall_k67_whole_cut_turns
open PySem.W (fnOf findIn keepIn subIn codeIn nsIn isFn mg_of plainGet hasDictIn makesIn instObj typeIn emptyDict mroIn kia_one)
local macro_rules | `(tactic| rfl')=>`(tactic| decide +kernel)
open List (mem_cons_self mem_cons_of_mem mem_append_left getElem?_set_self getElem?_set_ne mem_append_right length_cons map_cons length_map append_nil of_mem_zip replicate length length_take getElem?_append_right getElem?_replicate getElem?_append_left getElem?_map mem_of_getElem? length_append map_nil length_drop size_toArray length_set any_cons getElem_of_mem idxOf map_append lookup_cons prefix_refl getElem?_eq_none length_zip find?_cons length_nil zip_cons_cons getD map_map toArray getElem_mem mem_cons not_mem_nil getD_eq_getElem?_getD map_set append_assoc)
open Nat (lt_of_lt_of_le lt_irrefl ne_of_lt le_of_lt le_of_eq zero_le sub_self le_add_right)
open Option (map_some isSome_map bind_some)
open Bool (and_eq_true)
open Int (zero_add)
open PySem.F (plainAttrs_list slot_list_pop type_list_pop)
noncomputable section
namespace L2
open PySem PySem.Spec PyProof.Rows
abbrev Key:=Sum Int Str
def ymt:Key->Value->Bool
 | .inl k,v=>Value.isInt k v
 | .inr x,v=>Value.isStrOf x v
def yFf (w:World):Key->Int
 | .inl k=>hashInt k
 | .inr x=>hashStr w x
def ybm:∀ {k:Key}{v:Value},ymt k v=true->(∃ i t,k=Sum.inl i/\v=Value.int i t)\/(∃ x t,k=Sum.inr x/\v=Value.str x t)
 | .inl i,v,h=>by obtain ⟨t,e⟩:=Value.isInt_shape (k:=i) (v:=v) h;exact .inl ⟨i,t,rfl,e⟩
 | .inr x,v,h=>by obtain ⟨t,e⟩:=Value.isStrOf_shape (x:=x) (v:=v) h;exact .inr ⟨x,t,rfl,e⟩
def ypS (i:Int) (t:Tok):ymt (.inl i) (.int i t)=true:=by simp [ymt,Value.isInt]
def ypT (x:Str) (t:Tok):ymt (.inr x) (.str x t)=true:=by simp [ymt,Value.isStrOf]
def yzp (a b:Int):decide ((Sum.inl a:Key)=Sum.inl b)=(a == b):=by
 by_cases e:a=b
 .subst e;simp
 .have h:¬ (Sum.inl a:Key)=Sum.inl b:=fun q=>e (Sum.inl.inj q)
  rw [decide_eq_false h];exact (beq_eq_false_iff_ne.mpr e).symm
def yzq (a b:Str):decide ((Sum.inr a:Key)=Sum.inr b)=decide (a=b):=by
 by_cases e:a=b
 .subst e;simp
 .have h:¬ (Sum.inr a:Key)=Sum.inr b:=fun q=>e (Sum.inr.inj q)
  rw [decide_eq_false h,decide_eq_false e]
def yzr (a:Int) (b:Str):decide ((Sum.inl a:Key)=Sum.inr b)=false:=decide_eq_false (fun q=>nomatch q)
def yzs (a:Str) (b:Int):decide ((Sum.inr a:Key)=Sum.inl b)=false:=decide_eq_false (fun q=>nomatch q)
noncomputable def ycD (prog:Program) (w:World):PySem.KeyKind prog w Key where
 is:=ymt
 hash:=yFf w
 inj:=fun v a b ha hb=>by
  rcases ybm ha with ⟨i,t,rfl,rfl⟩|⟨x,t,rfl,rfl⟩
  .rcases ybm hb with ⟨j,u,rfl,e⟩|⟨y,u,rfl,e⟩
   .injection e with e1 _;rw [e1]
   .exact nomatch e
  .rcases ybm hb with ⟨j,u,rfl,e⟩|⟨y,u,rfl,e⟩
   .exact nomatch e
   .injection e with e1 _;rw [e1]
 byValue:=fun k v h=>by rcases ybm h with ⟨i,t,rfl,rfl⟩|⟨x,t,rfl,rfl⟩<;>rfl
 pyHash:=fun hv h=>by
  rcases ybm hv with ⟨i,t,rfl,rfl⟩|⟨x,t,rfl,rfl⟩
  .exact wpAny_pyHash_int h
  .exact wpAny_pyHash_str h
 eqBool:=fun hu hv h=>by
  rcases ybm hu with ⟨i,t,rfl,rfl⟩|⟨x,t,rfl,rfl⟩
  .rcases ybm hv with ⟨j,u,rfl,rfl⟩|⟨y,u,rfl,rfl⟩
   .rw [yzp] at h;exact wpAny_eqBool_int h
   .rw [yzr] at h;exact SeqAt.EqAt.int_str i t y u _ _ _ _ h
  .rcases ybm hv with ⟨j,u,rfl,rfl⟩|⟨y,u,rfl,rfl⟩
   .rw [yzs] at h;exact SeqAt.EqAt.str_int x t j u _ _ _ _ h
   .rw [yzq] at h;exact wpAny_eqBool_str h
 «strs»:=fun k x t v h=>by
  rcases ybm h with ⟨i,u,rfl,e⟩|⟨y,u,rfl,e⟩
  .exact nomatch e
  .injection e with e1 _
   subst e1;cases v<;>rfl
def ymu (prog:Program) (w:World) (i:Int) (t:Tok):(ycD prog w).is (.inl i) (.int i t)=true:=ypS i t
def ymv (prog:Program) (w:World) (x:Str) (t:Tok):(ycD prog w).is (.inr x) (.str x t)=true:=ypT x t
inductive V where
 | non|bl (b:Bool)|int (i:Int)|str (x:Str)|byt (b:Array UInt8)|flt (b:UInt64)|ref (a:Addr)|ty (n:String)
 deriving DecidableEq
noncomputable def RelV:V->Value->Prop
 | .non,u=>u=Value.none
 | .bl b,u=>u=Value.bool b
 | .int i,u=>∃ t,u=Value.int i t
 | .str x,u=>∃ t,u=Value.str x t
 | .byt b,u=>∃ t,u=Value.bytes b t
 | .flt b,u=>∃ t,u=Value.float b t
 | .ref a,u=>u=Value.ref a
 | .ty n,u=>u=Value.type n
abbrev Vals:List V->List Value->Prop:=Paired RelV
theorem Vals.length (r:Vals xs us):xs.length=us.length:=Paired.length r
theorem Vals.get:∀ {xs:List V}{us:List Value}{i:Nat}{x:V},Vals xs us->xs[i]?=some x->∃ u,us[i]?=some u/\RelV x u
 | _,_,_,_,.nil,e=>by simp at e
 | _,_,0,_,.cons r _,e=>by simp at e;subst e;exact ⟨_,rfl,r⟩
 | _,_,i+1,x,.cons _ t,e=>by obtain ⟨u,h1,h2⟩:=Vals.get (i:=i) (x:=x) t (by simpa using e);exact ⟨u,by simpa using h1,h2⟩
theorem Vals.set (r:RelV x u):∀ {xs:List V}{us:List Value}(i:Nat),Vals xs us->Vals (xs.set i x) (us.set i u)
 | _,_,_,.nil=>.nil
 | _,_,0,.cons _ t=>.cons r t
 | _,_,i+1,.cons q t=>.cons q (Vals.set r i t)
theorem Vals.append:∀ {xs ys:List V}{us ws:List Value},Vals xs us->Vals ys ws->Vals (xs++ys) (us++ws)
 | _,_,_,_,.nil,s=>s
 | _,_,_,_,.cons r t,s=>.cons r (Vals.append t s)
theorem Vals.take:∀ {xs:List V}{us:List Value}(n:Nat),Vals xs us->Vals (xs.take n) (us.take n)
 | _,_,0,_=>.nil
 | _,_,_+1,.nil=>.nil
 | _,_,n+1,.cons r t=>.cons r (Vals.take n t)
theorem Vals.drop:∀ {xs:List V}{us:List Value}(n:Nat),Vals xs us->Vals (xs.drop n) (us.drop n)
 | _,_,0,r=>r
 | _,_,_+1,.nil=>.nil
 | _,_,n+1,.cons _ t=>Vals.drop n t
def RelO:Option V->Option Value->Prop
 | some v,some u=>RelV v u
 | none,none=>True
 | _,_=>False
def KV {O:Type}:List (O×V)->List (O×Value)->Prop:=Paired fun (p:O×V) (q:O×Value)=>p.1=q.1/\RelV p.2 q.2
def kV:Key->V
 | .inl i=>.int i
 | .inr x=>.str x
inductive HO where
 | lst (xs:List V)
 | tup (xs:List V)
 | dK (kvs:List (Key×V))|dT (kvs:List (List Key×V))
 | set (S:Int->Bool) (n:Nat)
 | ins (C dx:Addr) (fs:List (Str×V))
 | own (x:Addr)
 | xd (fs:List (Str×V))
 | met (f x:Addr)
 | rng (lo hi:Int)
 | frz (o:Obj) (u:HO)
 | tbl (ps:Array Value)
 | ext (M:Heap->Prop)
abbrev Hp:=Addr->Option HO
def upd (H:Hp) (a:Addr) (o:HO):Hp:=fun b=>if b=a then some o else H b
def yE:upd H a o a=some o:=by unfold upd;rw [if_pos rfl]
def yK (h:b≠a):upd H a o b=H b:=by unfold upd;rw [if_neg h]
def yCw {H:Hp}{a b:Addr}{o u:HO}(h:H a=some o) (h':H b=some u) (d:o≠u):a≠b:=by intro e;subst e;rw [h] at h';exact d (Option.some.inj h')
def ybu {H:Hp}{a b:Addr}{o:HO}(h:H a=some o) (h':H b=none):a≠b:=by intro e;subst e;rw [h] at h';cases h'
section
variable (P:Program) (w:World)
def ObjOk (H:Hp) (h:Heap) (a:Addr):HO->Prop
 | .lst xs=>xs.length<=sizeLine/\∃ (its:List Value) (n:Nat),Vals xs its/\h.get? a=some { cls:=.type "list",data:=.seq its.toArray n }
 | .tup xs=>xs.length<=sizeLine/\∃ its:List Value,Vals xs its/\IsTup h a its.toArray
 | .dK kvs=>kvs.length<=sizeLine/\(a == sysModules)=false/\∃ vs,KV kvs vs/\h.DictOf (ycD P w) a vs
 | .dT kvs=>kvs.length<=sizeLine/\(a == sysModules)=false/\∃ xs:List (List Key×Addr×Value),
   Paired (fun (p:List Key×V) (q:List Key×Addr×Value)=>p.1=q.1/\H q.2.1=some (.tup (p.1.map kV))/\RelV p.2 q.2.2) kvs xs /\
   ∃ o es ep,h.get? a=some o/\o.ExactDict/\o.data=.dict es ep/\es.toList=xs.map (entryOfKey (tupleKind (ycD P w)))/\(xs.map (·.1)).Nodup
 | .set S n=>h.SetOf (intKind P w) a S n
 | .ins C dx fs=>H dx=some (.own a)/\fs.length<=1000/\dx≠a/\h.get? a=some (instObj C dx) /\
   ∃ mA,h.Ns1 dx mA/\(∀ f,RelO (fs.lookup f) (mA f))/\PySem.Within mA (fs.map (·.1))
 | .own _=>∃ o,h.get? a=some o
 | .xd fs=>∃ mA,h.Ns1 a mA/\∀ f,RelO (fs.lookup f) (mA f)
 | .rng lo hi=>∃ t u v,h.get? a=some { cls:=.type "range",data:=.fields #[.int lo t,.int hi u,.int 1 v] }
 | .frz o u=>h.get? a=some o/\ObjOk H h a u
 | .tbl ps=>h.get? a=some { cls:=.none,data:=.fields ps }
 | .met f x=>h.get? a=some (PySem.W.methodObj (.ref f) (.ref x))
 | .ext M=>M h/\(∃ o,h.get? a=some o)/\∀ h1 h2:Heap,M h1->(∀ o,h1.get? a=some o->h2.get? a=some o)->M h2
def HOk (H:Hp) (h:Heap):Prop:=∀ a o,H a=some o->ObjOk P w H h a o
end
section
variable {P:Program}{w:World}{H H':Hp}{h h':Heap}{a:Addr}{o:HO}
theorem ObjOk.lt (x:ObjOk P w H h a o):a<h.objs.size:=by
 cases o with
 | lst xs=>obtain ⟨_,_,_,_,e⟩:=x;exact Heap.lt_size e
 | tup xs=>obtain ⟨_,_,_,p⟩:=x;exact p.lt
 | dK kvs=>obtain ⟨_,_,_,_,o,_,_,e,_⟩:=x;exact Heap.lt_size e
 | dT kvs=>obtain ⟨_,_,_,_,o,_,_,e,_⟩:=x;exact Heap.lt_size e
 | set S n=>obtain ⟨o,_,_,_,e,_⟩:=x;exact Heap.lt_size e
 | ins C dx fs=>obtain ⟨_,_,_,e,_⟩:=x;exact Heap.lt_size e
 | own y=>obtain ⟨_,e⟩:=x;exact Heap.lt_size e
 | xd fs=>obtain ⟨_,⟨_,_,_,e,_⟩,_⟩:=x;exact Heap.lt_size e
 | rng lo hi=>obtain ⟨_,_,_,e⟩:=x;exact Heap.lt_size e
 | frz ob u=>obtain ⟨e,_⟩:=x;exact Heap.lt_size e
 | tbl ps=>exact Heap.lt_size (show h.get? a=some _ from x)
 | met f y=>exact Heap.lt_size (show h.get? a=some _ from x)
 | ext M=>obtain ⟨_,⟨_,e⟩,_⟩:=x;exact Heap.lt_size e
theorem Paired.mapP {Z B:Type}{F G:Z->B->Prop}:∀ {l₁:List Z}{l₂:List B},Paired F l₁ l₂->(∀ a b,F a b->G a b)->Paired G l₁ l₂
 | _,_,.nil,_=>.nil
 | _,_,.cons r t,f=>.cons (f _ _ r) (Paired.mapP t f)
def ObjOk.stay (x:ObjOk P w H h a o) (k:∀ b u,(b=a\/H b=some (.own a))->h.get? b=some u->h'.get? b=some u)
  (ho:∀ b,H b=some (.own a)->H' b=some (.own a)) (ht:∀ b xs,H b=some (.tup xs)->H' b=some (.tup xs)):ObjOk P w H' h' a o:=by
 induction o with
 | lst xs=>obtain ⟨z,its,n,r,e⟩:=x;exact ⟨z,its,n,r,k _ _ (.inl rfl) e⟩
 | tup xs=>obtain ⟨z,its,r,ob,e,c⟩:=x;exact ⟨z,its,r,ob,k _ _ (.inl rfl) e,c⟩
 | dK kvs=>obtain ⟨z,y,vs,r,ob,es,ep,e,c⟩:=x;exact ⟨z,y,vs,r,ob,es,ep,k _ _ (.inl rfl) e,c⟩
 | dT kvs =>
  obtain ⟨z,y,xs,r,ob,es,ep,e,c⟩:=x;exact ⟨z,y,xs,Paired.mapP r fun p q z=>⟨z.1,ht _ _ z.2.1,z.2.2⟩,ob,es,ep,k _ _ (.inl rfl) e,c⟩
 | set S n=>obtain ⟨ob,es,ep,t,e,c⟩:=x;exact ⟨ob,es,ep,t,k _ _ (.inl rfl) e,c⟩
 | ins C dx fs =>
  obtain ⟨d,z,ne,e,mA,⟨od,es,ep,e2,c⟩,r⟩:=x;exact ⟨ho _ d,z,ne,k _ _ (.inl rfl) e,mA,⟨od,es,ep,k _ _ (.inr d) e2,c⟩,r⟩
 | own y=>obtain ⟨ob,e⟩:=x;exact ⟨ob,k _ _ (.inl rfl) e⟩
 | xd fs=>obtain ⟨mA,⟨od,es,ep,e,c⟩,r⟩:=x;exact ⟨mA,⟨od,es,ep,k _ _ (.inl rfl) e,c⟩,r⟩
 | rng lo hi=>obtain ⟨t,u,v,e⟩:=x;exact ⟨t,u,v,k _ _ (.inl rfl) e⟩
 | frz ob u ih=>obtain ⟨e,q⟩:=x;exact ⟨k _ _ (.inl rfl) e,ih q⟩
 | tbl ps =>
  have e:h.get? a=some { cls:=.none,data:=.fields ps }:=x;show h'.get? a=some { cls:=.none,data:=.fields ps };exact k a _ (.inl rfl) e
 | met f y =>
  have e:h.get? a=some (PySem.W.methodObj (.ref f) (.ref y)):=x;show h'.get? a=some (PySem.W.methodObj (.ref f) (.ref y));exact k a _ (.inl rfl) e
 | ext M=>obtain ⟨p,⟨o,e⟩,st⟩:=x;exact ⟨st _ _ p fun o q=>k _ _ (.inl rfl) q,⟨o,k _ _ (.inl rfl) e⟩,st⟩
theorem HOk.lt (x:HOk P w H h) (e:H a=some o):a<h.objs.size:=(x a o e).lt
def HOk.fresh (x:HOk P w H h) (e:h.objs.size<=a):H a=none:=by
 cases q:H a with
 | none=>rfl
 | some u=>exact absurd (lt_of_lt_of_le (x.lt q) e) (lt_irrefl _)
def HOk.kept (x:HOk P w H h) (k:∀ b u,h.get? b=some u->h'.get? b=some u):HOk P w H h':=fun a o e =>
 (x a o e).stay (fun b u _ q=>k b u q) (fun _ q=>q) fun _ _ q=>q
def HOk.laid (x:HOk P w H h) (k:∀ b u,h.get? b=some u->h'.get? b=some u) (hp:h.objs.size<=a) (new:ObjOk P w (upd H a o) h' a o):HOk P w (upd H a o) h':=fun b u e=>by
 have hn:=x.fresh hp
 by_cases hb:b=a
 .subst hb;rw [yE] at e;cases e;exact new
 .rw [yK hb] at e;exact (x b u e).stay (fun c v _ q=>k c v q) (fun c q=>by rw [yK (ybu q hn)];exact q) fun c xs q=>by rw [yK (ybu q hn)];exact q
end
def Rd (H:Hp) (a:Addr) (u:HO):Prop:=H a=some u\/∃ o,H a=some (.frz o u)
def Rd.ok (r:Rd H a u) (x:HOk P w H h):ObjOk P w H h a u:=by
 rcases r with r|⟨o,r⟩
 .exact x a u r
 .obtain ⟨_,q⟩:=x a _ r;exact q
noncomputable def Mut:Option HO->Prop
 | some (.lst _)=>True
 | some (.dK _)=>True
 | some (.dT _)=>True
 | some (.set _ _)=>True
 | some (.ins _ _ _)=>True
 | some (.ext _)=>True
 | _=>False
section
variable {P:Program}{w:World}{H:Hp}{h h':Heap}{x e:Addr}{o':HO}
def HOk.write (ok:HOk P w H h) (mu:Mut (H x)) (he:e=x\/H e=some (.own x)) (k:∀ b u,b≠e->h.get? b=some u->h'.get? b=some u) (heo:∃ u,h'.get? e=some u)
  (new:ObjOk P w (upd H x o') h' x o'):HOk P w (upd H x o') h':=fun b u q=>by
 have nown:∀ c y,H c=some (.own y)->c≠x:=fun c y r z=>by subst z;rw [r] at mu;exact mu
 have ntup:∀ c xs,H c=some (.tup xs)->c≠x:=fun c xs r z=>by subst z;rw [r] at mu;exact mu
 by_cases hb:b=x
 .subst hb;rw [yE] at q;cases q;exact new
 .rw [yK hb] at q
  by_cases hbe:b=e
  .have q':H b=some (.own x):=by
    rcases he with z|z
    .exact absurd (hbe.trans z) hb
    .rw [hbe];exact z
   rw [q] at q';cases q';obtain ⟨v,hv⟩:=heo;exact ⟨v,by rw [hbe];exact hv⟩
  .refine (ok b u q).stay (fun c v hc r=>k c v ?_ r) (fun c r=>by rw [yK (nown c b r)];exact r) fun c xs r=>by rw [yK (ntup c xs r)];exact r
   rcases hc with rfl|hc
   .exact hbe
   .rintro rfl;rcases he with z|z
    .exact nown c b hc z
    .rw [hc] at z;cases z;exact hb rfl
end
structure Un (fs ex:List Addr) (H H':Hp) (h h':Heap):Prop where
 keep:∀ b o,h.get? b=some o->H b=none->b∉fs->b∉ex->h'.get? b=some o
 slot:∀ b o,h.get? b=some o->H b=none->b∈fs->b∉ex->∃ sl,h'.get? b=some { o with slots:=sl }
 free:∀ b o,h.get? b=some o->H b=none->b∉ex->H' b=none
 there:∀ b o,h.get? b=some o->b∉ex->∃ o',h'.get? b=some o'
 tups:∀ b xs,H b=some (.tup xs)->H' b=some (.tup xs)
 frzs:∀ b o u,H b=some (.frz o u)->H' b=some (.frz o u)
 tbls:∀ b ps,H b=some (.tbl ps)->∃ more,H' b=some (.tbl (ps++more))
section
variable {fs fs' ex ex':List Addr}{H H1 H2:Hp}{h h1 h2 h':Heap}{a x e:Addr}{o:HO}
def Un.any (u:Un fs ex H H1 h h1) {ob:Obj}(q:h.get? b=some ob) (n:H b=none) (hx:b∉ex):∃ sl,h1.get? b=some { ob with slots:=sl }:=by
 by_cases hb:b∈fs
 .exact u.slot b ob q n hb hx
 .exact ⟨ob.slots,u.keep b ob q n hb hx⟩
def Un.kept (k:∀ b u,h.get? b=some u->h'.get? b=some u):Un fs ex H H h h' :=
 ⟨fun b ob q _ _ _=>k b ob q,fun b ob q _ _ _=>⟨ob.slots,k b ob q⟩,fun _ _ _ n _=>n,fun b ob q _=>⟨ob,k b ob q⟩,fun _ _ q=>q,fun _ _ _ q=>q,fun _ ps q=>⟨#[],by rw [q];simp⟩⟩
def Un.refl:Un fs ex H H h h:=Un.kept fun _ _ q=>q
def Un.laid (k:∀ b u,h.get? b=some u->h'.get? b=some u) (hp:h.objs.size<=a) (hn:H a=none):Un fs ex H (upd H a o) h h' where
 keep:=fun b u q _ _ _=>k b u q
 slot:=fun b u q _ _ _=>⟨u.slots,k b u q⟩
 free:=fun b u q n _=>by rw [yK (ne_of_lt (lt_of_lt_of_le (Heap.lt_size q) hp))];exact n
 there:=fun b u q _=>⟨u,k b u q⟩
 tups:=fun b xs q=>by rw [yK (ybu q hn)];exact q
 frzs:=fun b u xs q=>by rw [yK (ybu q hn)];exact q
 tbls:=fun b ps q=>⟨#[],by rw [yK (ybu q hn),q];simp⟩
def Un.write (mu:Mut (H x)) (he:e=x\/H e=some (.own x)) (k:∀ b u,b≠e->h.get? b=some u->h'.get? b=some u) (heo:∃ u,h'.get? e=some u):Un fs ex H (upd H x o) h h':=by
 have hx:∀ b,H b=none->b≠x:=fun b n z=>by subst z;rw [n] at mu;exact mu
 have hb:∀ b,H b=none->b≠e:=fun b n z=>by
  subst z;rcases he with r|r
  .exact hx b n r
  .rw [n] at r;cases r
 have hm:∀ b u,H b=some u->¬ Mut (some u)->b≠x:=fun b u q nm z=>by subst z;rw [q] at mu;exact nm mu
 refine ⟨fun b u q n _ _=>k b u (hb b n) q,fun b u q n _ _=>⟨u.slots,k b u (hb b n) q⟩,fun b u q n _=>by rw [yK (hx b n)];exact n,fun b u q _=>?_,
  fun b xs q=>by rw [yK (hm b _ q fun z=>z)];exact q,fun b u xs q=>by rw [yK (hm b _ q fun z=>z)];exact q,fun b ps q=>⟨#[],by rw [yK (hm b _ q fun z=>z),q];simp⟩⟩
 by_cases hbe:b=e
 .subst hbe;exact heo
 .exact ⟨u,k b u hbe q⟩
end
def trk (h:Heap) (H:Hp):List Addr:=(List.range h.objs.size).filter fun a=>(H a).isSome
def ysP (h:Heap) (H:Hp):Heap:=PySem.W.hideAll h (trk h H)
def ypU (h:Heap) (H:Hp):(ysP h H).objs.size=h.objs.size:=PySem.W.hideAll_size _ _
def ysQ {h:Heap}(e:h.get? b=some o) (n:H b=none):(ysP h H).get? b=some o :=
 PySem.W.hideAll_get _ e fun hm=>by have q:(H b).isSome=true:=(List.mem_filter.mp hm).2;rw [n] at q;simp at q
def ywy (e:(ysP h H).get? b=some o):h.get? b=some o/\H b=none:=by
 have e':h.get? b=some o:=PySem.W.of_hideAll (trk h H) e;refine ⟨e',?_⟩;cases q:H b with
 | none=>rfl
 | some x =>
  have hm:b∈trk h H:=List.mem_filter.mpr ⟨List.mem_range.mpr (Heap.lt_size e'),by simp [q]⟩;have z:(ysP h H).get? b=none:=PySem.W.hideAll_none (trk h H) hm;rw [z] at e;cases e
noncomputable def ywz (g h:Heap) (L:Addr):List (Addr×Obj):=(List.range h.objs.size).filterMap fun a=>if a=L\/(g.get? a).isSome=true then none else (h.get? a).map fun o=>(a,o)
def rest (g h:Heap) (L d:Addr):List (Addr×Obj):=(ywz g h L).filter fun p=>decide (p.1≠d)
structure Mod (K:PySem.W.Frag) (mg:Str->Option Value) (base:Heap):Prop where
 kin:K.In base
 glob:base.Ns mainGlobals mg
 blt:∃ mb,base.Ns builtinsNs mb/\∀ x:Str,x≠"__name__"->mb x=bootBuiltins x
 nolimit:base.NoLimit
structure Cx where
 prog:Program
 w:World
 K:PySem.W.Frag
 mg:Str->Option Value
 base:Heap
 A:Around
 N:List Str
 s₀:Shared
 H₀:Hp
 env:Env
 outer:List Env
 stack:List Env
 ex:List Addr
 fn:Str->Bool
 calm:Bool
 pn:List (Addr×Obj)
 xe:Value->Shared->Prop
def frs (l:List Env):List Addr:=l.filterMap (·.frame)
abbrev Cx.fs (X:Cx):List Addr:=frs X.outer
noncomputable def Vis (sc:Scope) (x:Str):Prop:=sc.names.lookup x=some .local \/ sc.names.lookup x=some .cell\/sc.names.lookup x=some .free
def Loc (sc:Scope) (x:Str):Prop:=sc.names.lookup x=some .local \/ sc.names.lookup x=some .cell
noncomputable def Look (env:Env) (h:Heap) (m:Str->Option Value) (x:Str) (u:Value):Prop :=
 (env.kindOf x=some .local/\m x=some u)\/((env.kindOf x=some .cell\/env.kindOf x=some .free)/\∃ c,env.cells.lookup x=some c/\h.IsCell c (some u))
structure Cx.Ok (X:Cx):Prop where
 mod:Mod X.K X.mg X.base
 kind:X.env.scope.kind=.function
 glob:X.env.globals=mainGlobals
 blt:X.env.builtins=builtinsNs
 above:X.s₀.heap.objs.size<=X.env.locals
 inj:∀ x y c,X.env.cells.lookup x=some c->X.env.cells.lookup y=some c->x=y
 has:∀ x,(X.env.kindOf x=some .cell\/X.env.kindOf x=some .free)->∃ c,X.env.cells.lookup x=some c
 cab:∀ x c,X.fn x=true->X.env.cells.lookup x=some c->X.s₀.heap.objs.size<=c
 hd:X.calm=true->X.A.handled=none
 frames:X.A.frames=some X.stack
 stk:X.stack=X.outer\/(X.stack=X.env::X.outer/\X.env.frame=some X.env.locals)
 exf:∀ b∈X.ex,b≠X.env.locals/\∀ x c,X.env.cells.lookup x=some c->c≠b
 bs:∀ b o,X.base.get? b=some o->X.s₀.heap.get? b=some o/\X.H₀ b=none
 bsz:X.base.objs.size<=X.s₀.heap.objs.size
 noex:∀ b o,X.base.get? b=some o->b∉X.ex
 exfs:∀ b∈X.ex,b∉X.fs
 funs:X.s₀.heap.FunFrames X.base X.outer
 frf:∀ b∈X.fs,X.H₀ b=none
structure Inv (X:Cx) (pins:List (Addr×Obj)) (Z:List (Option V)) (H:Hp) (s:Shared):Prop where
 ok:X.Ok
 os:s.os=X.s₀.os
 bare:AllBare s.gens
 base:Un X.fs X.ex X.H₀ H X.s₀.heap s.heap
 loc:∃ m,s.heap.Ns X.env.locals m/\∀ (i:Nat) (x:Str) (v:V),X.N[i]?=some x->Z[i]?=some (some v)->Vis X.env.scope x->∃ u,RelV v u/\Look X.env s.heap m x u
 cell:∀ x c,X.env.cells.lookup x=some c->∃ v,s.heap.IsCell c v
 free:H X.env.locals=none
 freeC:∀ x c,X.env.cells.lookup x=some c->H c=none
 pin:∀ p∈X.pn++pins,s.heap.get? p.1=some p.2/\H p.1=none/\p.1≠X.env.locals/\p.1∉X.fs/\∀ v,p.2.data≠.cell v
 hok:HOk X.prog X.w H s.heap
 len:Z.length=X.N.length
section
variable {X:Cx}{pins:List (Addr×Obj)}{Z:List (Option V)}{H H':Hp}{s:Shared}{h':Heap}
def Cx.Ok.nofr (ok:X.Ok) (e:X.base.get? b=some o):b∉X.fs:=fun hb=>by have:=(ok.funs.mem hb).1;rw [e] at this;cases this
theorem Inv.bs (I:Inv X pins Z H s):∀ b o,X.base.get? b=some o->s.heap.get? b=some o/\H b=none:=fun b o e =>
 ⟨I.base.keep b o (I.ok.bs b o e).1 (I.ok.bs b o e).2 (I.ok.nofr e) (I.ok.noex b o e),I.base.free b o (I.ok.bs b o e).1 (I.ok.bs b o e).2 (I.ok.noex b o e)⟩
def Inv.bk (I:Inv X pins Z H s):∀ b o,X.base.get? b=some o->s.heap.get? b=some o:=fun b o e=>(I.bs b o e).1
theorem Inv.mod (I:Inv X pins Z H s):Mod X.K X.mg X.base:=I.ok.mod
def Inv.kIn (I:Inv X pins Z H s):X.K.In s.heap:=I.ok.mod.kin.keeps I.bk
theorem Inv.lt (I:Inv X pins Z H s):X.env.locals<s.heap.objs.size:=let ⟨_,hn,_⟩:=I.loc;hn.lt
def Inv.sz (I:Inv X pins Z H s):X.s₀.heap.objs.size<=s.heap.objs.size:=Nat.le_trans I.ok.above (le_of_lt I.lt)
def Inv.nofs (I:Inv X pins Z H s) {a:Addr}(h:s.heap.objs.size<=a):a∉X.fs:=fun hb=>by obtain ⟨_,o,ho,_⟩:=I.ok.funs.mem hb;exact absurd (lt_of_lt_of_le (Heap.lt_size ho) (Nat.le_trans I.sz h)) (lt_irrefl _)
def Inv.cne (I:Inv X pins Z H s):∀ x c,X.env.cells.lookup x=some c->c≠X.env.locals:=fun x c e z=>by obtain ⟨v,o,ho,hd⟩:=I.cell x c e;obtain ⟨m,⟨o',es,ep,ho',hd',_⟩,_⟩:=I.loc;rw [z,ho'] at ho;cases ho;rw [hd'] at hd;cases hd
theorem Inv.funs (I:Inv X pins Z H s):s.heap.FunFrames X.base X.outer:=by
 have all:∀ (l:List Env),(∀ b∈frs l,b∈X.fs)->X.s₀.heap.FunFrames X.base l->s.heap.FunFrames X.base l:=by
  intro l
  induction l with
  | nil=>intro _ _;trivial
  | cons env r ih =>
   intro hs hl;obtain ⟨hk,⟨L,o,hf,hn,ho,hd⟩,hr⟩:=hl;have hL:L∈X.fs:=hs L (by unfold frs;rw [List.filterMap_cons,hf];exact mem_cons_self);obtain ⟨sl,e⟩:=I.base.slot L o ho (I.ok.frf L hL) hL fun z=>I.ok.exfs L z hL
   exact ⟨hk,⟨L,_,hf,hn,e,hd⟩,ih (fun b hb=>hs b (by unfold frs;rw [List.filterMap_cons,hf];exact mem_cons_of_mem _ hb)) hr⟩
 exact all X.outer (fun _ hb=>hb) I.ok.funs
theorem Inv.stack (I:Inv X pins Z H s):s.heap.FunFrames X.base X.stack:=by
 rcases I.ok.stk with e|⟨e,hf⟩
 .rw [e];exact I.funs
 .rw [e];obtain ⟨m,hn,_⟩:=I.loc;refine .cons (by rw [I.ok.kind];decide) hf hn ?_ I.funs;exact Heap.get?_none_of_le (Nat.le_trans I.ok.bsz I.ok.above)
def Inv.stkSub (I:Inv X pins Z H s):∀ b∈frs X.stack,b∈X.env.locals::X.fs:=fun b hb=>by
 rcases I.ok.stk with e|⟨e,hf⟩
 .rw [e] at hb;exact mem_cons_of_mem _ hb
 .rw [e] at hb;unfold frs at hb;rw [List.filterMap_cons,hf] at hb;exact hb
def Inv.stkFree (I:Inv X pins Z H s):∀ b∈frs X.stack,H b=none:=fun b hb=>by
 rcases mem_cons.mp (I.stkSub b hb) with e|hb
 .rw [e];exact I.free
 .obtain ⟨_,o,ho,_⟩:=I.ok.funs.mem hb;exact I.base.free b o ho (I.ok.frf b hb) fun z=>I.ok.exfs b z hb
def Inv.step {g':Array GenState}{t':Nat}{d':Drawn}{ch:List Addr}(I:Inv X pins Z H s)
  (hch:∀ b∈ch,(b∈X.ex\/X.s₀.heap.objs.size<=b)/\b≠X.env.locals/\(∀ x c,X.env.cells.lookup x=some c->c≠b)/\∀ p∈X.pn++pins,p.1≠b)
  (keep:∀ b o,b≠X.env.locals->b∉X.fs->b∉ch->s.heap.get? b=some o->H b=none->h'.get? b=some o)
  (slot:∀ b o,b≠X.env.locals->b∈X.fs->b∉ch->s.heap.get? b=some o->H b=none->∃ sl,h'.get? b=some { o with slots:=sl }) (free:∀ b o,b∉ch->s.heap.get? b=some o->H b=none->H' b=none)
  (there:∀ b o,b∉ch->s.heap.get? b=some o->∃ o',h'.get? b=some o')
  (tups:∀ b xs,H b=some (.tup xs)->H' b=some (.tup xs)) (frzs:∀ b o u,H b=some (.frz o u)->H' b=some (.frz o u)) (tbls:∀ b ps,H b=some (.tbl ps)->∃ more,H' b=some (.tbl (ps++more)))
  (ns:∀ m,s.heap.Ns X.env.locals m->h'.Ns X.env.locals m) (hok:HOk X.prog X.w H' h') (hg:AllBare g') :
  Inv X pins Z H' { s with heap:=h',gens:=g',drawn:=d',toks:=t' }:=by
 have neL:∀ b o,X.s₀.heap.get? b=some o->b≠X.env.locals:=fun b o e=>ne_of_lt (lt_of_lt_of_le (Heap.lt_size e) I.ok.above)
 have neC:∀ b o,X.s₀.heap.get? b=some o->b∉X.ex->b∉ch:=fun b o e hx hb=>by
  rcases (hch b hb).1 with z|z
  .exact hx z
  .exact absurd (lt_of_lt_of_le (Heap.lt_size e) z) (lt_irrefl _)
 have cellK:∀ x c,X.env.cells.lookup x=some c->∀ v,s.heap.IsCell c v->h'.IsCell c v:=fun x c e v ⟨o,ho,hd⟩=>by
  have nch:c∉ch:=fun z=>(hch c z).2.2.1 x c e rfl
  by_cases hc:c∈X.fs
  .obtain ⟨sl,q⟩:=slot c o (I.cne x c e) hc nch ho (I.freeC x c e);exact ⟨_,q,hd⟩
  .exact ⟨o,keep c o (I.cne x c e) hc nch ho (I.freeC x c e),hd⟩
 refine ⟨I.ok,I.os,hg,⟨fun b o e n hb hx=>?_,fun b o e n hb hx=>?_,fun b o e n hx=>?_,fun b o e hx=>?_,fun b xs e=>tups b xs (I.base.tups b xs e),fun b o xs e=>frzs b o xs (I.base.frzs b o xs e),fun b ps e=>?_⟩,?_,fun x c e=>?_,?_,fun x c e=>?_,fun p hp=>?_,hok,I.len⟩
 .exact keep b o (neL b o e) hb (neC b o e hx) (I.base.keep b o e n hb hx) (I.base.free b o e n hx)
 .obtain ⟨sl,e1⟩:=I.base.slot b o e n hb hx;obtain ⟨sl',e2⟩:=slot b _ (neL b o e) hb (neC b o e hx) e1 (I.base.free b o e n hx);exact ⟨sl',e2⟩
 .obtain ⟨o',e1⟩:=I.base.there b o e hx;exact free b o' (neC b o e hx) e1 (I.base.free b o e n hx)
 .obtain ⟨o',e1⟩:=I.base.there b o e hx;exact there b o' (neC b o e hx) e1
 .obtain ⟨m1,e1⟩:=I.base.tbls b ps e;obtain ⟨m2,e2⟩:=tbls b _ e1;exact ⟨m1++m2,by rw [e2,Array.append_assoc]⟩
 .obtain ⟨m,hn,hl⟩:=I.loc;refine ⟨m,ns m hn,fun i x v e1 e2 e3=>?_⟩;obtain ⟨u,r,l⟩:=hl i x v e1 e2 e3;refine ⟨u,r,?_⟩;rcases l with l|⟨k,c,e,z⟩
  .exact .inl l
  .exact .inr ⟨k,c,e,cellK x c e _ z⟩
 .obtain ⟨v,z⟩:=I.cell x c e;exact ⟨v,cellK x c e v z⟩
 .obtain ⟨m,⟨o,_,_,ho,_⟩,_⟩:=I.loc;exact free _ o (fun z=>(hch _ z).2.1 rfl) ho I.free
 .obtain ⟨v,o,ho,hd⟩:=I.cell x c e;exact free c o (fun z=>(hch c z).2.2.1 x c e rfl) ho (I.freeC x c e)
 .obtain ⟨e,n,ne,nf,d⟩:=I.pin p hp;have nch:p.1∉ch:=fun z=>(hch p.1 z).2.2.2 p hp rfl
  exact ⟨keep p.1 p.2 ne nf nch e n,free p.1 p.2 nch e n,ne,nf,d⟩
def Inv.un (I:Inv X pins Z H s) (u:Un X.fs [] H H' s.heap h') (hok:HOk X.prog X.w H' h'):Inv X pins Z H' { s with heap:=h',toks:=t' }:=by obtain ⟨m,⟨o,es,ep,ho,r⟩,_⟩:=id I.loc;obtain ⟨sl,hL⟩:=u.any ho I.free (by simp);exact I.step (g':=s.gens) (d':=s.drawn) (ch:=[]) (fun _ z=>nomatch z) (fun b o _ hb _ e n=>u.keep b o e n hb (by simp)) (fun b o _ hb _ e n=>u.slot b o e n hb (by simp)) (fun b o _ e n=>u.free b o e n (by simp)) (fun b o _ e=>u.there b o e (by simp)) u.tups u.frzs u.tbls (fun m' hm=>by obtain ⟨o',es',ep',ho',r'⟩:=hm;rw [ho] at ho';cases ho';exact ⟨_,es',ep',hL,r'⟩) hok I.bare
def Inv.call (I:Inv X pins Z H s) (u:Un (frs X.stack) ch H H' s.heap h') (hok:HOk X.prog X.w H' h') (hg:AllBare g')
  (hch:∀ b∈ch,(b∈X.ex\/X.s₀.heap.objs.size<=b)/\b≠X.env.locals/\(∀ x c,X.env.cells.lookup x=some c->c≠b)/\∀ p∈X.pn++pins,p.1≠b) :
  Inv X pins Z H' { s with heap:=h',gens:=g',drawn:=d',toks:=t' }:=by
 obtain ⟨m,⟨o,es,ep,ho,r⟩,_⟩:=id I.loc;obtain ⟨sl,hL⟩:=u.any ho I.free fun z=>(hch _ z).2.1 rfl
 exact I.step (ch:=ch) hch (fun b o hL hb hc e n=>u.keep b o e n (fun z=>(mem_cons.mp (I.stkSub b z)).elim hL hb) hc) (fun b o _ _ hc e n=>u.any e n hc) (fun b o hc e n=>u.free b o e n hc) (fun b o hc e=>u.there b o e hc) u.tups u.frzs u.tbls (fun m' hm=>by obtain ⟨o',es',ep',ho',r'⟩:=hm;rw [ho] at ho';cases ho';exact ⟨_,es',ep',hL,r'⟩) hok hg
def Inv.turned (I:Inv X pins Z H s) (k:∀ b o,b≠it->s.heap.get? b=some o->h'.get? b=some o) (hn:H it=none) (hL:it≠X.env.locals)
  (h1:it∈X.ex\/X.s₀.heap.objs.size<=it) (h2:∀ x c,X.env.cells.lookup x=some c->c≠it) (h3:∀ p∈X.pn++pins,p.1≠it):Inv X pins Z H { s with heap:=h',toks:=t' }:=by
 have nit:∀ b u,H b=some u->b≠it:=fun b u e z=>by rw [z,hn] at e;cases e
 refine I.step (g':=s.gens) (d':=s.drawn) (ch:=[it]) (fun b hb=>?_) (fun b o _ _ hc e _=>k b o (fun z=>hc (by simp [z])) e) (fun b o _ _ hc e _=>⟨o.slots,k b o (fun z=>hc (by simp [z])) e⟩) (fun _ _ _ _ n=>n)
  (fun b o hc e=>⟨o,k b o (fun z=>hc (by simp [z])) e⟩) (fun _ _ e=>e) (fun _ _ _ e=>e) (fun b ps e=>⟨#[],by rw [e];simp⟩) (fun m hm=>?_) (fun b u e=>?_) I.bare
 .have e:b=it:=by simpa using hb
  subst e;exact ⟨h1,hL,h2,h3⟩
 .obtain ⟨o,es,ep,ho,r⟩:=hm;exact ⟨o,es,ep,k _ o (Ne.symm hL) ho,r⟩
 .refine (I.hok b u e).stay (fun c v hc q=>k c v ?_ q) (fun _ q=>q) fun _ _ q=>q
  rcases hc with z|z
  .rw [z];exact nit b u e
  .exact nit c _ z
def Inv.tok (I:Inv X pins Z H s) (t:Nat):Inv X pins Z H { s with toks:=t }:=I.un (h':=s.heap) (t':=t) Un.refl I.hok
theorem Inv.kept (I:Inv X pins Z H s) (k:∀ b u,s.heap.get? b=some u->h'.get? b=some u):Inv X pins Z H { s with heap:=h',toks:=t' }:=I.un (Un.kept k) (I.hok.kept k)
theorem Inv.laid {a:Addr}{o:HO}{t':Nat}(I:Inv X pins Z H s) (k:∀ b u,s.heap.get? b=some u->h'.get? b=some u) (hp:s.heap.objs.size<=a) (new:ObjOk X.prog X.w (upd H a o) h' a o) :
  Inv X pins Z (upd H a o) { s with heap:=h',toks:=t' }:=I.un (Un.laid k hp (I.hok.fresh hp)) (I.hok.laid k hp new)
theorem Inv.write (I:Inv X pins Z H s) (mu:Mut (H x)) (he:e=x\/H e=some (.own x)) (k:∀ b u,b≠e->s.heap.get? b=some u->h'.get? b=some u) (heo:∃ u,h'.get? e=some u)
  (new:ObjOk X.prog X.w (upd H x o) h' x o):Inv X pins Z (upd H x o) { s with heap:=h',toks:=t' }:=I.un (Un.write mu he k heo) (I.hok.write mu he k heo new)
def Inv.pins_of (I:Inv X pins Z H s) (h:∀ p∈pins',s.heap.get? p.1=some p.2/\H p.1=none/\p.1≠X.env.locals/\p.1∉X.fs/\∀ v,p.2.data≠.cell v):Inv X pins' Z H s :=
 ⟨I.ok,I.os,I.bare,I.base,I.loc,I.cell,I.free,I.freeC,fun p hp=>(List.mem_append.mp hp).elim (fun z=>I.pin p (mem_append_left _ z)) (h p),I.hok,I.len⟩
def ynM {N:List Str}(hN:N.Nodup) {i j:Nat}{x:Str}(a:N[i]?=some x) (b:N[j]?=some x):i=j:=by obtain ⟨h1,e1⟩:=List.getElem?_eq_some_iff.mp a;obtain ⟨h2,e2⟩:=List.getElem?_eq_some_iff.mp b;exact (List.getElem_inj hN).mp (e1.trans e2.symm)
theorem ypV {Q:Unit->Shared->Prop}(I:Inv X pins Z H s) (hN:X.N.Nodup) (hi:X.N[i]?=some x) (hx:Loc X.env.scope x) (r:RelV v u)
  (h:∀ s',Inv X pins (Z.set i (some v)) H s'->(∃ a,Heap.SameBut a s.heap s'.heap/\(a=X.env.locals\/X.env.cells.lookup x=some a))->Q () s') (hf:X.fn x=true\/X.env.scope.names.lookup x=some .local:=by first|exact .inl rfl|exact .inr rfl|assumption):wpAny M A (storeName X.env x u) Q E s:=by
 obtain ⟨m,hn,hl⟩:=id I.loc;have hcls:(X.env.scope.kind == .class || (X.env.scope.kind == .module && X.env.locals != X.env.globals))=false:=by rw [I.ok.kind];rfl
 have hiZ:i<Z.length:=by rw [I.len];exact (List.getElem?_eq_some_iff.mp hi).1
 have cne:=I.cne;have tracked:∀ {a:Addr}{h':Heap},(∃ o,s.heap.get? a=some o/\H a=none)->Heap.SameBut a s.heap h'->HOk X.prog X.w H h':=fun {a h'} ha hs b ob e=>by
  obtain ⟨_,_,hfree⟩:=ha;refine (I.hok b ob e).stay (fun c w' hc q=>(hs.2 c ?_).trans q) (fun _ q=>q) fun _ _ q=>q
  rintro rfl;rcases hc with rfl|hc
  .rw [hfree] at e;cases e
  .rw [hfree] at hc;cases hc
 rcases hx with hk|hk
 .refine wpAny_storeName_local hk hn (fun h' hn' hs=>?_) hcls;obtain ⟨oL,_,_,hoL,_⟩:=id hn;refine h _ ⟨I.ok,I.os,I.bare,⟨fun b o e n hb hx=>?_,fun b o e n hb hx=>?_,I.base.free,fun b o e hx=>?_,I.base.tups,I.base.frzs,I.base.tbls⟩,⟨_,hn',fun j y v' e1 e2 e3=>?_⟩,fun y c e=>?_,I.free,I.freeC,fun p hp=>?_,tracked ⟨oL,hoL,I.free⟩ hs,by simpa using I.len⟩ ⟨_,hs,.inl rfl⟩
  .exact (hs.2 b (ne_of_lt (lt_of_lt_of_le (Heap.lt_size e) I.ok.above))).trans (I.base.keep b o e n hb hx)
  .obtain ⟨sl,e1⟩:=I.base.slot b o e n hb hx;exact ⟨sl,(hs.2 b (ne_of_lt (lt_of_lt_of_le (Heap.lt_size e) I.ok.above))).trans e1⟩
  .obtain ⟨o',e1⟩:=I.base.there b o e hx;exact ⟨o',(hs.2 b (ne_of_lt (lt_of_lt_of_le (Heap.lt_size e) I.ok.above))).trans e1⟩
  .by_cases hj:j=i
   .subst hj;rw [hi] at e1;cases e1;rw [getElem?_set_self hiZ] at e2;cases e2;exact ⟨u,r,.inl ⟨hk,by simp⟩⟩
   .rw [getElem?_set_ne (Ne.symm hj)] at e2;obtain ⟨u',r',q⟩:=hl j y v' e1 e2 e3;refine ⟨u',r',?_⟩;rcases q with ⟨k,e⟩|⟨k,c,e,z⟩
    .refine .inl ⟨k,?_⟩;have:y≠x:=fun e=>hj (ynM hN e1 (e ▸ hi))
     simp [this,e]
    .exact .inr ⟨k,c,e,z.sameBut hs (cne y c e)⟩
  .obtain ⟨w',z⟩:=I.cell y c e;exact ⟨w',z.sameBut hs (cne y c e)⟩
  .obtain ⟨e,n,ne,nf,d⟩:=I.pin p hp;exact ⟨(hs.2 p.1 ne).trans e,n,ne,nf,d⟩
 .have hfn:X.fn x=true:=by
   rcases hf with z|z
   .exact z
   .rw [z] at hk;cases hk
  obtain ⟨c,hc⟩:=I.ok.has x (.inl hk);obtain ⟨w',z⟩:=I.cell x c hc;refine wpAny_storeName_cell I.ok.kind hk hc z (fun h' hc' hs=>?_);obtain ⟨oc,hoc,hocd⟩:=id z;refine h { s with heap:=h' } ⟨I.ok,I.os,I.bare,⟨fun b o e n hb hx=>?_,fun b o e n hb hx=>?_,I.base.free,fun b o e hx=>?_,I.base.tups,I.base.frzs,I.base.tbls⟩,⟨m,hn.sameBut hs (Ne.symm (cne x c hc)),fun j y v' e1 e2 e3=>?_⟩,fun y c' e=>?_,I.free,I.freeC,fun p hp=>?_,tracked ⟨oc,hoc,I.freeC x c hc⟩ hs,by simpa using I.len⟩ ⟨c,hs,.inr hc⟩
  .exact (hs.2 b (ne_of_lt (lt_of_lt_of_le (Heap.lt_size e) (I.ok.cab x c hfn hc)))).trans (I.base.keep b o e n hb hx)
  .obtain ⟨sl,e1⟩:=I.base.slot b o e n hb hx;exact ⟨sl,(hs.2 b (ne_of_lt (lt_of_lt_of_le (Heap.lt_size e) (I.ok.cab x c hfn hc)))).trans e1⟩
  .obtain ⟨o',e1⟩:=I.base.there b o e hx;exact ⟨o',(hs.2 b (ne_of_lt (lt_of_lt_of_le (Heap.lt_size e) (I.ok.cab x c hfn hc)))).trans e1⟩
  .by_cases hj:j=i
   .subst hj;rw [hi] at e1;cases e1;rw [getElem?_set_self hiZ] at e2;cases e2;exact ⟨u,r,.inr ⟨.inl hk,c,hc,hc'⟩⟩
   .rw [getElem?_set_ne (Ne.symm hj)] at e2;obtain ⟨u',r',q⟩:=hl j y v' e1 e2 e3;refine ⟨u',r',?_⟩;rcases q with q|⟨k,c',e,z'⟩
    .exact .inl q
    .refine .inr ⟨k,c',e,z'.sameBut hs ?_⟩;rintro rfl;exact hj (ynM hN e1 (I.ok.inj _ _ _ e hc ▸ hi))
  .by_cases hcc:c'=c
   .subst hcc;exact ⟨_,hc'⟩
   .obtain ⟨w2,z2⟩:=I.cell y c' e;exact ⟨w2,z2.sameBut hs hcc⟩
  .obtain ⟨e,n,ne,nf,d⟩:=I.pin p hp;refine ⟨(hs.2 p.1 ?_).trans e,n,ne,nf,d⟩;intro q;rw [q,hoc] at e;have q':oc=p.2:=Option.some.inj e;exact d w' (by rw [<- q'];exact hocd)
def ynN {Q:Unit->Shared->Prop}(I:Inv X pins Z H s) (hN:X.N.Nodup) (hi:X.N[i]?=some x) (hx:Loc X.env.scope x) (r:RelV v u)
  (h:∀ s',Inv X pins (Z.set i (some v)) H s'->Q () s') (hf:X.fn x=true\/X.env.scope.names.lookup x=some .local:=by first|exact .inl rfl|exact .inr rfl|assumption):wpAny M A (storeName X.env x u) Q E s :=
 ypV I hN hi hx r (fun s' I' _=>h s' I') hf
def Inv.call' {s':Shared}(I:Inv X pins Z H s) (ho:s'.os=s.os) (u:Un (frs X.stack) ch H H' s.heap s'.heap) (hok:HOk X.prog X.w H' s'.heap) (hg:AllBare s'.gens)
  (hch:∀ b∈ch,(b∈X.ex\/X.s₀.heap.objs.size<=b)/\b≠X.env.locals/\(∀ x c,X.env.cells.lookup x=some c->c≠b)/\∀ p∈X.pn++pins,p.1≠b):Inv X pins Z H' s':=by
 obtain ⟨h',g',d',t',o'⟩:=s';have e:o'=s.os:=ho;subst e;exact I.call (g':=g') (t':=t') (d':=d') u hok hg hch
end
abbrev XK:=Value->Option Addr->Hp->Prop
abbrev St:=List (Option V)
abbrev VK:=V->Hp->Prop
abbrev TE:=St->Hp->VK->Prop
abbrev TT:=St->Hp->(Bool->Hp->Prop)->Prop
abbrev TA:=St->Hp->(List V->Hp->Prop)->Prop
structure Ends where
 nx:St->Hp->Prop
 rt:VK
 bk:St->Hp->Prop:=fun _ _=>False
 ct:St->Hp->Prop:=fun _ _=>False
abbrev TS:=Ends->St->Hp->Prop
def EP (X:Cx) (pins:List (Addr×Obj)) (Z:St) (Q:VK) (u:Value) (s':Shared):Prop:=∃ v H',Inv X pins Z H' s'/\RelV v u/\Q v H'
noncomputable def TP (X:Cx) (pins:List (Addr×Obj)) (Z:St) (Q:Bool->Hp->Prop) (b:Bool) (s':Shared):Prop:=∃ H',Inv X pins Z H' s'/\Q b H'
def AP (X:Cx) (pins:List (Addr×Obj)) (Z:St) (Q:List V->Hp->Prop) (us:List Value) (s':Shared):Prop:=∃ vs H',Inv X pins Z H' s'/\Vals vs us/\Q vs H'
def SP (X:Cx) (pins:List (Addr×Obj)) (D:Ends) (f:Flow) (s':Shared):Prop :=
 match f with
 | .next=>∃ Z' H',Inv X pins Z' H' s'/\D.nx Z' H'
 | .brk=>∃ Z' H',Inv X pins Z' H' s'/\D.bk Z' H'
 | .cont=>∃ Z' H',Inv X pins Z' H' s'/\D.ct Z' H'
 | .ret u=>∃ v Z' H',Inv X pins Z' H' s'/\RelV v u/\D.rt v H'
def PE (X:Cx) (e:Expr) (t:TE):Prop :=
 ∀ (pins:List (Addr×Obj)) (s:Shared) (Z:St) (H:Hp) (Q:VK),Inv X pins Z H s->t Z H Q->wpAny (model X.prog X.w) X.A (eval e X.env) (EP X pins Z Q) X.xe s
def PT (X:Cx) (e:Expr) (t:TT):Prop :=
 ∀ (pins:List (Addr×Obj)) (s:Shared) (Z:St) (H:Hp) (Q:Bool->Hp->Prop),Inv X pins Z H s->t Z H Q->wpAny (model X.prog X.w) X.A (isTrue e X.env (eval e X.env)) (TP X pins Z Q) X.xe s
def PW (X:Cx) (e:Expr) (t:TT):Prop :=
 ∀ (whole:Sem Value) (pins:List (Addr×Obj)) (s:Shared) (Z:St) (H:Hp) (Q:Bool->Hp->Prop),Inv X pins Z H s->t Z H Q->wpAny (model X.prog X.w) X.A (isTrue e X.env whole) (TP X pins Z Q) X.xe s
def PW.pt (h:PW X e t):PT X e t:=h _
def PA (X:Cx) (es:List Expr) (t:TA):Prop :=
 ∀ (pos:Pos) (pins:List (Addr×Obj)) (s:Shared) (Z:St) (H:Hp) (Q:List V->Hp->Prop),Inv X pins Z H s->t Z H Q->wpAny (model X.prog X.w) X.A (spliced (backTo pos (starEach es X.env))) (AP X pins Z Q) X.xe s
def PS (X:Cx) (st:Stmt) (t:TS):Prop :=
 ∀ (pins:List (Addr×Obj)) (s:Shared) (Z:St) (H:Hp) (D:Ends),Inv X pins Z H s->t D Z H->wpAny (model X.prog X.w) X.A (exec st X.env) (SP X pins D) X.xe s
def PSs (X:Cx) (st:List Stmt) (t:TS):Prop :=
 ∀ (pins:List (Addr×Obj)) (s:Shared) (Z:St) (H:Hp) (D:Ends),Inv X pins Z H s->t D Z H->wpAny (model X.prog X.w) X.A (execs st X.env) (SP X pins D) X.xe s
def thn {Z:Type}{t:Sem Z}{Q Q':Z->Shared->Prop}{M:Model}{A:Around}{E:Value->Shared->Prop}{s:Shared}(h:wpAny M A t Q E s) (hQ:∀ a s,Q a s->Q' a s):wpAny M A t Q' E s:=wpAny_mono h hQ fun _ _ x=>x
section
variable {X:Cx}
def ypN (i:Nat):TE:=fun Z H Q=>∃ v,Z[i]?=some (some v)/\Q v H
def tC (v:V):TE:=fun _ H Q=>Q v H
def yiL {i:Nat}{x:Str}{pos:Pos}(hN:X.N[i]?=some x) (hv:Vis X.env.scope x) (hd:(x == ("__debug__":Str))=false:=by decide) (hcd:(x == ("__classdict__":Str))=false:=by decide):PE X (.Name x pos) (ypN i):=by
 intro pins s Z H Q I h;obtain ⟨v,e,h⟩:=h;obtain ⟨m,hn,hl⟩:=I.loc;obtain ⟨u,r,l⟩:=hl i x v hN e hv;have fin:EP X pins Z Q u s:=⟨v,H,I,r,h⟩
 rcases l with ⟨hk,hm⟩|⟨hk,c,hc,hcell⟩
 .exact wpAny_Name (wpAny_loadName_local I.ok.kind hk hn hm fin) hd
 .rcases hk with hk|hk
  .exact wpAny_Name (wpAny_loadName_cell I.ok.kind hk hc hcell fin) hd
  .exact wpAny_Name (wpAny_loadName_free I.ok.kind hk hc hcell fin hcd) hd
def yzt {i j pos}:PE X (.Constant (.int i) j pos) (tC (.int i)):=fun _ _ _ H _ I h=>wpAny_Constant_int ⟨.int i,H,I.tok _,⟨_,rfl⟩,h⟩
def yCx {b j pos}:PE X (.Constant (.bool b) j pos) (tC (.bl b)):=fun _ _ _ H _ I h=>Constant_bool ⟨.bl b,H,I,rfl,h⟩
def yzu {j pos}:PE X (.Constant .none j pos) (tC .non):=fun _ _ _ H _ I h=>Constant_none ⟨.non,H,I,rfl,h⟩
def yzv {x j pos}:PE X (.Constant (.str x) j pos) (tC (.str x)):=fun _ _ _ H _ I h=>Calls.Constant_str ⟨.str x,H,I.tok _,⟨_,rfl⟩,h⟩
def Gl (X:Cx) (x:Str):Prop:=X.env.kindOf x=some .globalImplicit
def yhs {E:Value->Shared->Prop}{pins:List (Addr×Obj)}{s:Shared}{Z:St}{H:Hp}{x:Str}{u:Value}{pos:Pos}{Q:Value->Shared->Prop}(I:Inv X pins Z H s) (hg:Gl X x) (hm:X.mg x=some u) (h:Q u s)
  (hd:(x == ("__debug__":Str))=false:=by decide):wpAny (model X.prog X.w) X.A (eval (.Name x pos) X.env) Q E s :=
 Calls.Name_function_global I.ok.kind hg (Calls.loadGlobal_global (by rw [I.ok.glob];exact I.mod.glob.keeps I.bk) hm h) hd
def yiM {E:Value->Shared->Prop}{pins:List (Addr×Obj)}{s:Shared}{Z:St}{H:Hp}{x:Str}{u:Value}{pos:Pos}{Q:Value->Shared->Prop}(I:Inv X pins Z H s) (hg:Gl X x) (hm:X.mg x=none) (hv:bootBuiltins x=some u) (h:Q u s)
  (hn:x≠"__name__":=by decide) (hd:(x == ("__debug__":Str))=false:=by decide):wpAny (model X.prog X.w) X.A (eval (.Name x pos) X.env) Q E s:=by
 obtain ⟨mb,h1,h2⟩:=I.mod.blt;exact Calls.Name_function_global I.ok.kind hg (Calls.loadGlobal_builtin (by rw [I.ok.glob];exact I.mod.glob.keeps I.bk) hm (by rw [I.ok.blt];exact h1.keeps I.bk) ((h2 x hn).trans hv) h) hd
def ymw (hg:Gl X x) (hm:X.mg x=some u) (r:RelV v u) (hd:(x == ("__debug__":Str))=false:=by decide):PE X (.Name x pos) (tC v) :=
 fun _ _ _ H _ I h=>yhs I hg hm ⟨v,H,I,r,h⟩ hd
def ywA {x:Str}{v:V}{u:Value}{pos:Pos}(hg:Gl X x) (hm:X.mg x=none) (hv:bootBuiltins x=some u) (r:RelV v u) (hn:x≠"__name__":=by decide) (hd:(x == ("__debug__":Str))=false:=by decide):PE X (.Name x pos) (tC v) :=
 fun _ _ _ H _ I h=>yiM I hg hm hv ⟨v,H,I,r,h⟩ hn hd
variable {a b:Expr}{ta tb:TE}{pos:Pos}
def PC (X:Cx) (op:CmpOp) (a b:Expr) (t:TE):Prop :=
 ∀ (pins:List (Addr×Obj)) (s:Shared) (Z:St) (H:Hp) (Q:VK),Inv X pins Z H s->t Z H Q ->
  wpAny (model X.prog X.w) X.A (eval a X.env) (fun v s₁=>wpAny (model X.prog X.w) X.A (eval b X.env) (fun u s₂=>wpAny (model X.prog X.w) X.A (compareOp op v u) (EP X pins Z Q) X.xe s₂) X.xe s₁) X.xe s
def ysR (b:Expr) (h:op≠.In) (h2:op≠.NotIn):behindInMarks op b=false:=by
 have e1:(op == CmpOp.In)=false:=by cases op<;>first|rfl|exact absurd rfl h
 have e2:(op == CmpOp.NotIn)=false:=by cases op<;>first|rfl|exact absurd rfl h2
 cases b<;>simp [behindInMarks,e1,e2]
def tB (t:TE):TT:=fun Z H Q=>t Z H fun x H1=>∃ c,x=.bl c/\Q c H1
def yzw (h:PC X op a b t) (h1:behindInMarks op b=false:=by first|exact ysR _ (by decide) (by decide)|rfl):PT X (.Compare a [op] [b] pos) (tB t):=by intro pins s Z H Q I hw;refine wpAny_isTrue_Compare1 (thn (h pins s Z H _ I hw) fun v s1 h1=>thn h1 fun u s2 h2=>thn h2 fun c s3 ⟨x,H1,I1,r1,q1⟩=>?_) h1;obtain ⟨d,rfl,q⟩:=q1;cases r1;exact wpAny_truthy_bool ⟨H1,I1,q⟩
def yzx (h:PE X e t) (he:∀ whole,isTrue e X.env whole=(do let v <- whole;standAt e.pos;holding [v] (truthy v)):=by intro _;rfl):PT X e (tB t):=by intro pins s Z H Q I hw;refine isTrue_plain (thn (h pins s Z H _ I hw) fun v s1 ⟨x,H1,I1,r1,q1⟩=>?_) (he _);obtain ⟨d,rfl,q⟩:=q1;cases r1;exact wpAny_truthy_bool ⟨H1,I1,q⟩
variable {tA tB':TT}{rest:List Expr}
def yEq (t u:TT):TT:=fun Z H Q=>t Z H fun c H1=>if c=true then u Z H1 Q else Q false H1
def tOr (t u:TT):TT:=fun Z H Q=>t Z H fun c H1=>if c=true then Q true H1 else u Z H1 Q
def yCy (t:TT):TT:=fun Z H Q=>t Z H fun c H1=>Q (!c) H1
def ywB (ha:PT X a tA):PW X (.BoolOp .And [a] pos) tA:=by
 intro wh pins s Z H Q I h;refine isTrue_and (thn (ha pins s Z H Q I h) fun c s1 e=>?_);cases c with
 | true=>exact isTrue_and_nil e
 | false=>exact e
def yzy (ha:PT X a tA):PW X (.BoolOp .Or [a] pos) tA:=by
 intro wh pins s Z H Q I h;refine isTrue_or (thn (ha pins s Z H Q I h) fun c s1 e=>?_);cases c with
 | false=>exact isTrue_or_nil e
 | true=>exact e
def yzz (ha:PT X a tA) (hb:PW X (.BoolOp .And (b::rest) pos) tB'):PW X (.BoolOp .And (a::b::rest) pos) (yEq tA tB'):=by
 intro wh pins s Z H Q I h;refine isTrue_and (thn (ha pins s Z H _ I h) fun c s1 ⟨H1,I1,q1⟩=>?_);cases c with
 | true=>exact hb wh pins s1 Z H1 Q I1 q1
 | false=>exact ⟨H1,I1,q1⟩
def yCz (ha:PT X a tA) (hb:PW X (.BoolOp .Or (b::rest) pos) tB'):PW X (.BoolOp .Or (a::b::rest) pos) (tOr tA tB'):=by
 intro wh pins s Z H Q I h;refine isTrue_or (thn (ha pins s Z H _ I h) fun c s1 ⟨H1,I1,q1⟩=>?_);cases c with
 | true=>exact ⟨H1,I1,q1⟩
 | false=>exact hb wh pins s1 Z H1 Q I1 q1
def yzA (ha:PT X a tA):PT X (.UnaryOp .Not a pos) (yCy tA):=by intro pins s Z H Q I h;exact isTrue_not (ha pins s Z H (fun c H1=>Q (!c) H1) I h)
def yzB (ta tb:TE):TE:=fun Z H Q=>ta Z H fun x H1=>∃ c,x=.bl c/\if c=true then tb Z H1 Q else Q (.bl false) H1
def yzC (ta:TE):TE:=fun Z H Q=>ta Z H fun x H1=>∃ c,x=.bl c/\Q (.bl (!c)) H1
def yzD {op} (h:PE X a t):PE X (.BoolOp op [a] pos) t:=fun pins s Z H Q I hw=>BoolOp_one (h pins s Z H Q I hw)
def yzE (ha:PE X a ta) (hb:PE X (.BoolOp .And (b::rest) pos) tb):PE X (.BoolOp .And (a::b::rest) pos) (yzB ta tb):=by
 intro pins s Z H Q I h;refine BoolOp_and (thn (ha pins s Z H _ I h) fun v s1 ⟨x,H1,I1,r1,q1⟩=>?_);obtain ⟨c,rfl,q1⟩:=q1;cases r1;refine wpAny_truthy_bool ?_;cases c with
 | true=>exact hb pins s1 Z H1 Q I1 q1
 | false=>exact ⟨.bl false,H1,I1,rfl,q1⟩
def yzF (ha:PE X a ta):PE X (.UnaryOp .Not a pos) (yzC ta):=by intro pins s Z H Q I h;refine UnaryOp_ (thn (ha pins s Z H _ I h) fun v s1 ⟨x,H1,I1,r1,q1⟩=>?_);obtain ⟨c,rfl,q1⟩:=q1;cases r1;exact not_of (wpAny_truthy_bool ⟨.bl (!c),H1,I1,rfl,q1⟩)
def tIf (t:TT) (ta tb:TE):TE:=fun Z H Q=>t Z H fun c H1=>if c=true then ta Z H1 Q else tb Z H1 Q
def ysS (hc:PT X c tA) (ha:PE X a ta) (hb:PE X b tb):PE X (.IfExp c a b pos) (tIf tA ta tb):=by
 intro pins s Z H Q I h;refine wpAny_IfExp (thn (hc pins s Z H _ I h) fun d s1 ⟨H1,I1,q1⟩=>?_);cases d with
 | true=>exact ha pins s1 Z H1 Q I1 q1
 | false=>exact hb pins s1 Z H1 Q I1 q1
end
def SqL (K:PySem.W.Frag) (H:Hp) (a:Addr) (xs:List V):Prop :=
 Rd H a (.lst xs) \/
  ∃ (o:Obj) (its:Array Value) (n:Nat),K.lookup a=some o/\o.cls=.type "list"/\o.dict=none/\o.data=.seq its n/\its.size<=sizeLine/\Vals xs its.toList
def SqT (K:PySem.W.Frag) (H:Hp) (a:Addr) (xs:List V):Prop :=
 Rd H a (.tup xs) \/
  ∃ (o:Obj) (its:Array Value) (n:Nat),K.lookup a=some o/\o.cls=.type "tuple"/\o.data=.seq its n/\its.size<=sizeLine/\Vals xs its.toList
noncomputable def yFg:Value->Option V
 | .none=>some .non
 | .bool b=>some (.bl b)
 | .int i _=>some (.int i)
 | .str x _=>some (.str x)
 | .bytes b _=>some (.byt b)
 | .float b _=>some (.flt b)
 | .ref a=>some (.ref a)
 | .type n=>some (.ty n)
 | _=>none
def RelV.abs (r:RelV x u):yFg u=some x:=by
 cases x with
 | non=>cases r;rfl
 | bl _=>cases r;rfl
 | int _=>obtain ⟨t,rfl⟩:=r;rfl
 | str _=>obtain ⟨t,rfl⟩:=r;rfl
 | byt _=>obtain ⟨t,rfl⟩:=r;rfl
 | flt _=>obtain ⟨t,rfl⟩:=r;rfl
 | ref _=>cases r;rfl
 | ty _=>cases r;rfl
theorem RelV.inj (r:RelV x u) (q:RelV y u):x=y:=Option.some.inj (r.abs.symm.trans q.abs)
theorem Vals.inj:∀ {xs ys:List V}{us:List Value},Vals xs us->Vals ys us->xs=ys
 | _,_,_,.nil,.nil=>rfl
 | _,_,_,.cons r t,.cons r' t'=>by rw [r.inj r',Vals.inj t t']
section
variable {X:Cx}{pins:List (Addr×Obj)}{Z:St}{H:Hp}{s:Shared}{a:Addr}{xs ys:List V}
def SqL.of {K:PySem.W.Frag}(h:H a=some (.lst xs)):SqL K H a xs:=.inl (.inl h)
def SqT.of {K:PySem.W.Frag}(h:H a=some (.tup xs)):SqT K H a xs:=.inl (.inl h)
def Inv.list (I:Inv X pins Z H s) (h:SqL X.K H a xs):∃ its:List Value,Vals xs its/\PlainL s.heap a its.toArray/\xs.length<=sizeLine:=by
 rcases h with h|⟨o,its,n,hk,hc,hd,hs,hz,r⟩
 .obtain ⟨z,its,n,r,e⟩:=h.ok I.hok;exact ⟨its,r,⟨_,n,e,rfl,rfl,rfl⟩,z⟩
 .refine ⟨its.toList,r,⟨o,n,I.kIn a o hk,hc,hd,by simpa using hs⟩,?_⟩;have e:=r.length;simp only [Array.length_toList] at e;omega
def Inv.tuple (I:Inv X pins Z H s) (h:SqT X.K H a xs):∃ its:List Value,Vals xs its/\IsTup s.heap a its.toArray/\xs.length<=sizeLine:=by
 rcases h with h|⟨o,its,n,hk,hc,hs,hz,r⟩
 .obtain ⟨z,its,r,p⟩:=h.ok I.hok;exact ⟨its,r,p,z⟩
 .refine ⟨its.toList,r,⟨o,I.kIn a o hk,hc,n,by simpa using hs⟩,?_⟩;have e:=r.length;simp only [Array.length_toList] at e;omega
def Inv.list_inj (I:Inv X pins Z H s) (h:SqL X.K H a xs) (h':SqL X.K H a ys):xs=ys:=by
 obtain ⟨its,r,⟨o,n,e,_,_,d⟩,_⟩:=I.list h;obtain ⟨its',r',⟨o',n',e',_,_,d'⟩,_⟩:=I.list h';rw [e] at e';cases e';rw [d] at d';injection d' with d1 _
 have:its=its':=by simpa using congrArg Array.toList d1
 subst this;exact r.inj r'
end
abbrev Cx.wish (X:Cx) (E:Value->Shared->Prop):Cx:={ X with xe:=E }
abbrev Cx.nox (X:Cx):Cx:=X.wish fun _ _=>False
theorem Cx.Ok.wish {X:Cx}(ok:X.Ok) (E:Value->Shared->Prop):(X.wish E).Ok :=
 ⟨ok.mod,ok.kind,ok.glob,ok.blt,ok.above,ok.inj,ok.has,ok.cab,ok.hd,ok.frames,ok.stk,ok.exf,ok.bs,ok.bsz,ok.noex,ok.exfs,ok.funs,ok.frf⟩
def Cx.Ok.unwish {X:Cx}(ok:(X.wish E).Ok):X.Ok :=
 ⟨ok.mod,ok.kind,ok.glob,ok.blt,ok.above,ok.inj,ok.has,ok.cab,ok.hd,ok.frames,ok.stk,ok.exf,ok.bs,ok.bsz,ok.noex,ok.exfs,ok.funs,ok.frf⟩
section
variable {X:Cx}{pins:List (Addr×Obj)}{Z:St}{H:Hp}{s:Shared}{E:Value->Shared->Prop}
theorem Inv.wish (I:Inv X pins Z H s) (E:Value->Shared->Prop):Inv (X.wish E) pins Z H s:=⟨I.ok.wish E,I.os,I.bare,I.base,I.loc,I.cell,I.free,I.freeC,I.pin,I.hok,I.len⟩
theorem Inv.unwish (I:Inv (X.wish E) pins Z H s):Inv X pins Z H s:=⟨I.ok.unwish,I.os,I.bare,I.base,I.loc,I.cell,I.free,I.freeC,I.pin,I.hok,I.len⟩
theorem SP.unwish (h:SP (X.wish E) pins D f s'):SP X pins D f s':=by
 cases f with
 | next=>obtain ⟨Z',H',I,q⟩:=h;exact ⟨Z',H',I.unwish,q⟩
 | brk=>obtain ⟨Z',H',I,q⟩:=h;exact ⟨Z',H',I.unwish,q⟩
 | cont=>obtain ⟨Z',H',I,q⟩:=h;exact ⟨Z',H',I.unwish,q⟩
 | ret u=>obtain ⟨v,Z',H',I,r,q⟩:=h;exact ⟨v,Z',H',I.unwish,r,q⟩
theorem PSs.nox {st:List Stmt}{t:TS}(h:PSs X.nox st t):PSs X st t:=fun pins s Z H D I hw =>
 wpAny_mono (h pins s Z H D (I.wish _) hw) (fun _ _ q=>q.unwish) fun _ _ z=>False.elim z
end
section
variable {X:Cx}{st:Stmt}{rest:List Stmt}{t u:TS}{e:Expr}{te:TE}{pos:Pos}
def yzG:TS:=fun D Z H=>D.nx Z H
def yCA (t u:TS):TS:=fun D Z H=>t { D with nx:=u D } Z H
def ywC:PSs X [] yzG:=fun _ _ Z H _ I h=>wpAny_execs_nil ⟨Z,H,I,h⟩
def ynO (h1:PS X st t) (h2:PSs X rest u):PSs X (st::rest) (yCA t u):=by
 intro pins s Z H D I h;refine wpAny_execs_cons (thn (h1 pins s Z H { D with nx:=u D } I h) fun f s1 q=>?_);cases f with
 | next =>
  obtain ⟨Z',H',I',q⟩:=q;exact h2 pins s1 Z' H' D I' q
 | ret v=>exact q
 | brk=>exact q
 | cont=>exact q
def ypW (h1:PS X st t):PSs X [st] t:=by
 intro pins s Z H D I h;refine wpAny_execs_cons (thn (h1 pins s Z H D I h) fun f s1 q=>?_);cases f with
 | next=>exact wpAny_execs_nil q
 | ret v=>exact q
 | brk=>exact q
 | cont=>exact q
def Inv.quiet {pins:List (Addr×Obj)}{Z:St}{H:Hp}{s:Shared}(I:Inv X pins Z H s):interactive X.env=false:=by simp [interactive,I.ok.kind]
def ypX (te:TE):TS:=fun D Z H=>te Z H fun _ H1=>D.nx Z H1
def yjo (he:PE X e te) (hs:swapsWith e none pos.line X.env=pure false:=by rfl):PS X (.Expr e pos) (ypX te):=by intro pins s Z H D I h;exact wpAny_Expr_any (thn (he pins s Z H _ I h) fun v s1 ⟨x,H1,I1,r1,q1⟩=>⟨Z,H1,I1,q1⟩) I.quiet hs
def yEr (te:TE):TS:=fun D Z H=>te Z H D.rt
def yzH (he:PE X e te):PS X (.Return (some e) pos) (yEr te):=by intro pins s Z H D I h;exact wpAny_Return_some (thn (he pins s Z H _ I h) fun v s1 ⟨x,H1,I1,r1,q1⟩=>⟨x,Z,H1,I1,r1,q1⟩)
def yEs (c:TT) (t u:TS):TS:=fun D Z H=>c Z H fun b H1=>if b=true then t D Z H1 else u D Z H1
def yCB (hc:PT X c tc) (ha:PSs X a t) (hb:PSs X b u):PS X (.If c a b pos) (yEs tc t u):=by
 intro pins s Z H D I h;refine wpAny_If (thn (hc pins s Z H _ I h) fun d s1 ⟨H1,I1,q1⟩=>?_);cases d with
 | true=>exact ha pins s1 Z H1 D I1 q1
 | false=>exact hb pins s1 Z H1 D I1 q1
def yvt:TS:=fun _ _ _=>False
def ysT:PS X st yvt:=fun _ _ _ _ _ _ h=>h.elim
end
abbrev TG:=V->St->Hp->(St->Hp->Prop)->Prop
abbrev TGs:=List V->St->Hp->(St->Hp->Prop)->Prop
def PG (X:Cx) (target:Expr) (t:TG):Prop :=
 ∀ (pins:List (Addr×Obj)) (s:Shared) (Z:St) (H:Hp) (v:V) (u:Value) (Q:St->Hp->Prop),Inv X pins Z H s->RelV v u->t v Z H Q ->
  wpAny (model X.prog X.w) X.A (assign target X.env u) (fun _ s'=>∃ Z' H',Inv X pins Z' H' s'/\Q Z' H') X.xe s
def PGs (X:Cx) (ts:List Expr) (t:TGs):Prop :=
 ∀ (pins:List (Addr×Obj)) (s:Shared) (Z:St) (H:Hp) (vs:List V) (us:List Value) (Q:St->Hp->Prop),Inv X pins Z H s->Vals vs us->t vs Z H Q ->
  wpAny (model X.prog X.w) X.A (assignInOrder ((assignEach ts X.env).map (·.2)) us) (fun _ s'=>∃ Z' H',Inv X pins Z' H' s'/\Q Z' H') X.xe s
abbrev yCC:=V->V->V->Hp->(Hp->Prop)->Prop
def yEt (X:Cx) (t:yCC):Prop :=
 ∀ (pins:List (Addr×Obj)) (s:Shared) (Z:St) (H:Hp) (o i v:V) (ov iv u:Value) (Q:Hp->Prop),Inv X pins Z H s->RelV o ov->RelV i iv->RelV v u->t o i v H Q ->
  wpAny (model X.prog X.w) X.A (setItem ov iv u) (fun _ s'=>∃ H',Inv X pins Z H' s'/\Q H') X.xe s
section
variable {X:Cx}{pos:Pos}
def yoW (i:Nat):TG:=fun v Z H Q=>Q (Z.set i (some v)) H
def ymx (hN:X.N.Nodup) (hi:X.N[i]?=some x) (hx:Loc X.env.scope x) (hf:X.fn x=true\/X.env.scope.names.lookup x=some .local:=by first|exact .inl rfl|exact .inr rfl|assumption):PG X (.Name x pos) (yoW i):=by intro pins s Z H v u Q I r h;exact wpAny_assign_Name (ynN I hN hi hx r (fun s' I'=>⟨_,H,I',h⟩) hf)
def yEu:TGs:=fun vs Z H Q=>vs=[]/\Q Z H
def yzI (t:TG) (u:TGs):TGs:=fun vs Z H Q=>∃ v r,vs=v::r/\t v Z H fun Z' H'=>u r Z' H' Q
def ywD:PGs X [] yEu:=by intro pins s Z H vs us Q I r h;obtain ⟨e,h⟩:=h;subst e;cases r;exact assignInOrder_nil ⟨Z,H,I,h⟩
def ysU (h1:PG X e t) (h2:PGs X es u)
  (hs:(assignEach (e::es) X.env).map (·.2)=assign e X.env::(assignEach es X.env).map (·.2):=by rfl):PGs X (e::es) (yzI t u):=by
 intro pins s Z H vs us Q I r h;obtain ⟨v,vr,e1,h⟩:=h;subst e1;cases r with
 | cons r rr =>
  rw [hs];refine assignInOrder_cons (thn (h1 pins s Z H _ _ _ I r h) fun _ s1 ⟨Z1,H1,I1,q1⟩=>?_);exact h2 pins s1 Z1 H1 _ _ Q I1 rr q1
def yEv (K:PySem.W.Frag) (n:Nat) (t:TGs):TG:=fun v Z H Q=>∃ a xs,v=.ref a/\SqT K H a xs/\xs.length=n/\t xs Z H Q
def yzJ {es:List Expr}{k:Nat}{t:TGs}{n:Nat}(hc:X.calm=true) (h:PGs X es t)
  (hn:(assignEach es X.env).length=n:=by rfl) (hst:(assignEach es X.env).findIdx? (·.1)=none:=by rfl):PG X (.Tuple es k pos) (yEv X.K n t):=by
 intro pins s Z H v u Q I r hw;obtain ⟨a,xs,e1,hq,hl,hw⟩:=hw;subst e1;cases r;obtain ⟨its,rv,ht,hz⟩:=I.tuple hq;refine assign_Tuple_tuple (I.ok.hd hc) ht (by simp [hn,<- hl,rv.length]) hst fun h' hx=>?_
 have I1:Inv X pins Z H { s with heap:=h' }:=I.kept (t':=s.toks) fun b o e=>hx b o (ne_of_lt (Heap.lt_size e)) e
 exact h pins _ Z H xs _ Q I1 (by simpa using rv) hw
def yEw (to ti:TE) (t:yCC):TG:=fun v Z H Q=>to Z H fun o H1=>ti Z H1 fun i H2=>t o i v H2 fun H3=>Q Z H3
def yzK (ho:PE X o to) (hi:PE X i ti) (hs:yEt X t)
  (ha:∀ v,assign (.Subscript o i pos) X.env v=(do
   let ov <- holding [v] (eval o X.env)
   let iv <- holding [v,ov] (eval i X.env)
   standAt pos
   holding [v,ov,iv] (setItem ov iv v)
   release [v,ov,iv] []):=by intro _;rfl):PG X (.Subscript o i pos) (yEw to ti t):=by
 intro pins s Z H v u Q I r h;rw [ha];refine wpAny_bind (wpAny_holding (thn (ho pins s Z H _ I h) fun ov s1 ⟨x,H1,I1,r1,q1⟩=>?_));refine wpAny_bind (wpAny_holding (thn (hi pins s1 Z H1 _ I1 q1) fun iv s2 ⟨y,H2,I2,r2,q2⟩=>?_));refine wpAny_bind (wpAny_standAt (wpAny_bind (wpAny_holding (thn (hs pins s2 Z H2 x y v ov iv u _ I2 r1 r2 r q2) fun _ s3 ⟨H3,I3,q3⟩=>?_))));exact wpAny_release ⟨Z,H3,I3,q3⟩
def yvu (te:TE) (g:TG):TS:=fun D Z H=>te Z H fun x H1=>g x Z H1 D.nx
def yzL {tg e:Expr}(he:PE X e te) (hg:PG X tg g) (hs:swapsWithSole [tg] e pos.line X.env=pure false:=by rfl) (hw:swappedStores [tg] e X.env=pure none:=by rfl)
  (h1:(assignEach [tg] X.env).map (·.2)=[assign tg X.env]:=by rfl):PS X (.Assign [tg] e pos) (yvu te g):=by
 intro pins s Z H D I h;refine wpAny_Assign_stores (thn (he pins s Z H _ I h) fun v s1 ⟨x,H1,I1,r1,q1⟩=>?_) hs hw;rw [h1];exact thn (hg pins s1 Z H1 x v _ I1 r1 q1) fun _ s2 q=>q
def yvv (hN:X.N.Nodup) (hi:X.N[i]?=some x) (hx:Loc X.env.scope x) (he:PE X e te) (hs:swapsWith e (some (.Name x pos')) pos.line X.env=pure false:=by rfl) (hf:X.fn x=true\/X.env.scope.names.lookup x=some .local:=by first|exact .inl rfl|exact .inr rfl|assumption) :
  PS X (.Assign [.Name x pos'] e pos) (yvu te (yoW i)):=by
 intro pins s Z H D I h;refine wpAny_Assign_Name (thn (he pins s Z H _ I h) fun v s1 ⟨y,H1,I1,r1,q1⟩=>?_) hs;exact ynN I1 hN hi hx r1 (fun s2 I2=>⟨_,H1,I2,q1⟩) hf
end
section
variable {X:Cx}{pos:Pos}
noncomputable def yvw (c:TT) (tb:TS):TS:=fun D Z H=>∃ W:Nat->St->Hp->Prop,(∃ m,W m Z H)/\∀ m Z H,W m Z H ->
 c Z H fun b H1=>if b=true then ∃ N:St->Hp->Prop,(∀ Z' H',N Z' H'->∃ m',m'<m/\W m' Z' H')/\tb { D with nx:=N,ct:=N,bk:=D.nx } Z H1 else D.nx Z H1
def ysV {tb:TS}(hp:PassesOwn (model X.prog X.w) X.A X.env X.xe) (hc:PT X c tc) (hb:PSs X body tb):PS X (.While c body [] pos) (yvw tc tb):=by
 intro pins s Z H D I h;obtain ⟨W,⟨m0,w0⟩,turn⟩:=h;refine wpAny_While (codeAny_whileLoop (fun n s'=>∃ Z' H',Inv X pins Z' H' s'/\W n Z' H') ?_ m0 ⟨Z,H,I,w0⟩);rintro n s1 ⟨Z1,H1,I1,w1⟩;refine wpAny_passesOwn hp (thn (hc pins s1 Z1 H1 _ I1 (turn n Z1 H1 w1)) fun b s2 ⟨H2,I2,q2⟩=>?_);cases b with
 | true =>
  obtain ⟨N,hN,q2⟩:=q2;rw [if_pos rfl];refine wpAny_passesOwn hp (thn (hb pins s2 Z1 H2 _ I2 q2) fun f s3 q3=>?_);cases f with
  | next =>
   obtain ⟨Z3,H3,I3,n3⟩:=q3;obtain ⟨m',hm,w3⟩:=hN Z3 H3 n3;exact ⟨m',hm,Z3,H3,I3,w3⟩
  | cont =>
   obtain ⟨Z3,H3,I3,n3⟩:=q3;obtain ⟨m',hm,w3⟩:=hN Z3 H3 n3;exact ⟨m',hm,Z3,H3,I3,w3⟩
  | brk=>exact q3
  | ret v=>exact q3
 | false =>
  rw [if_neg Bool.false_ne_true];exact wpAny_execs_nil ⟨Z1,H2,I2,q2⟩
end
structure It where
 go:Nat->Hp->Prop
 yld:Nat->Hp->V->Hp->Prop
 stop:Nat->Hp->Prop
noncomputable def ypO (X:Cx) (pins:List (Addr×Obj)) (H:Hp) (b:Addr):Prop :=
 H b=none/\b≠X.env.locals/\b∉X.fs/\(b∈X.ex\/X.s₀.heap.objs.size<=b)/\(∀ x c,X.env.cells.lookup x=some c->c≠b)/\∀ p∈X.pn++pins,p.1≠b
def Inv.fpOk {X:Cx}{pins:List (Addr×Obj)}{Z:St}{H H':Hp}{s:Shared}{b:Addr}(I:Inv X pins Z H s) (hb:s.heap.objs.size<=b) (hn:H' b=none):ypO X pins H' b:=by
 refine ⟨hn,Nat.ne_of_gt (lt_of_lt_of_le I.lt hb),I.nofs hb,.inr (Nat.le_trans I.sz hb),fun x c e z=>?_,fun p hp z=>?_⟩
 .obtain ⟨v,q⟩:=I.cell x c e;exact absurd (lt_of_lt_of_le q.lt (by rw [z];exact hb)) (lt_irrefl _)
 .exact absurd (lt_of_lt_of_le (Heap.lt_size (I.pin p hp).1) (by rw [z];exact hb)) (lt_irrefl _)
structure Turn (P:Program) (w:World) (K:PySem.W.Frag) (tg:Expr) (J:It) (fp:List Addr) (it:Addr) (tn:Nat->Heap->Prop):Prop where
 mem:it∈fp
 obj:∀ i h,tn i h->∀ b∈fp,∃ o,h.get? b=some o/\∀ v,o.data≠.cell v
 keep:∀ i h h',tn i h->(∀ b∈fp,∀ o,h.get? b=some o->h'.get? b=some o)->tn i h'
 item:∀ (X:Cx),X.prog=P->X.w=w->X.K=K->X.calm=true->∀ (i:Nat) (pins:List (Addr×Obj)) (s:Shared) (Z:St) (H:Hp) (E:Value->Shared->Prop),Inv X pins Z H s->(∀ b∈fp,ypO X pins H b)->tn i s.heap->J.go i H ->
  wpAny (model P w) X.A (pyNext (.ref it)) (fun r s1=>∃ u,r=some u /\
   wpAny (model P w) X.A (letOwnedTupleGo tg (.ref it) u) (fun _ s2=>∃ x H',Inv X pins Z H' s2/\RelV x u/\J.yld i H x H'/\tn (i+1) s2.heap/\∀ b∈fp,H' b=none) E s1) E s
 done:∀ (X:Cx),X.prog=P->X.w=w->X.K=K->X.calm=true->∀ (i:Nat) (pins:List (Addr×Obj)) (s:Shared) (Z:St) (H:Hp) (E:Value->Shared->Prop),Inv X pins Z H s->(∀ b∈fp,ypO X pins H b)->tn i s.heap->J.stop i H ->
  wpAny (model P w) X.A (pyNext (.ref it)) (fun r s1=>r=none/\Inv X pins Z H s1) E s
 self:∀ (A:Around) (i:Nat) (s:Shared) (Q:Value->Shared->Prop) (E:Value->Shared->Prop),tn i s.heap->Q (.ref it) s->wpAny (model P w) A (pyIter (.ref it)) Q E s
abbrev TI:=St->Hp->(It->Hp->Prop)->Prop
def PIE (X:Cx) (pins:List (Addr×Obj)) (Z:St) (tg:Expr) (R:It->Hp->Prop) (itv:Value) (s2:Shared):Prop :=
 ∃ (it:Addr) (fp:List Addr) (tn:Nat->Heap->Prop) (J:It) (H':Hp),itv=.ref it/\Inv X pins Z H' s2/\Turn X.prog X.w X.K tg J fp it tn/\tn 0 s2.heap/\(∀ b∈fp,ypO X pins H' b)/\R J H'
def PI (X:Cx) (tg iter:Expr) (wi:TI):Prop :=
 ∀ (pins:List (Addr×Obj)) (s:Shared) (Z:St) (H:Hp) (R:It->Hp->Prop),Inv X pins Z H s->wi Z H R ->
  wpAny (model X.prog X.w) X.A (eval iter X.env) (fun v s1=>wpAny (model X.prog X.w) X.A (pyIter v) (PIE X pins Z tg R) X.xe s1) X.xe s
def ypY {s:Shared}{tg:Expr}{Q:Unit->Shared->Prop}(ho:s.heap.get? it=some o) (hc:o.cls=.type n) (hd:o.data=.fields vs)
    (hn:["enumerate","zip","dict_itemiterator","dict_reverseitemiterator","odict_iterator","itertools.zip_longest","itertools.pairwise"].contains n=false) (hQ:Q () s):wpAny M A (letOwnedTupleGo tg (.ref it) u) Q E s:=by
  unfold letOwnedTupleGo;cases tg<;>first
    | exact wpAny_pure hQ
    | (cases u<;>first
        | exact wpAny_pure hQ
        | (refine wpAny_bind (wpAny_load ho ?_)
           rw [hc,hd];show wpAny M A (if (["enumerate","zip","dict_itemiterator","dict_reverseitemiterator","odict_iterator","itertools.zip_longest","itertools.pairwise"].contains n && vs[0]? == some (rawInt _))=true then _ else _) Q E s;rw [if_neg (by intro h;rw [hn,Bool.false_and] at h;cases h)];exact wpAny_pure hQ))
def Itl (K:PySem.W.Frag) (a:Addr):It :=
 ⟨fun i H=>∃ xs x,SqL K H a xs/\xs[i]?=some x,fun i H x H'=>H'=H/\∀ xs,SqL K H a xs->xs[i]?=some x,fun i H=>∃ xs,SqL K H a xs/\xs.length<=i⟩
def Itr (lo:Int) (n:Nat):It:=⟨fun i _=>i<n,fun i H x H'=>H'=H/\x=.int (lo+i),fun i _=>n<=i⟩
def ypZ {P:Program}{w:World}{K:PySem.W.Frag}{tg:Expr}(a it:Addr):Turn P w K tg (Itl K a) [it] it (fun i h=>h.IsListIter it a i) where
 mem:=by simp
 obj:=fun i h st b hb=>by
  have e:b=it:=by simpa using hb
  subst e;obtain ⟨o,e,c,d⟩:=st;exact ⟨o,e,fun v z=>by rw [d] at z;cases z⟩
 keep:=fun i h h' st k=>st.at fun o e=>k it (by simp) o e
 item:=by
  intro X hP hw hK hc i pins s Z H E I hf st hg;subst hP hw hK;obtain ⟨xs,x,hq,hx⟩:=hg;obtain ⟨its,rv,p,hz⟩:=I.list hq;obtain ⟨u,hu,ru⟩:=rv.get hx;obtain ⟨f0,f1,f2,f3,f4,f5⟩:=hf it (by simp);refine wpAny_pyNext_list_item st p.isList (x:=u) (by simpa using hu) fun h' st' sb=>?_
  have I1:Inv X pins Z H { s with heap:=h' }:=I.turned (t':=s.toks) (fun b o hb e=>(sb.2 b hb).trans e) f0 f1 f3 f4 f5;obtain ⟨o,e,c,d⟩:=id st';exact ⟨u,rfl,ypY (s:={ s with heap:=h' }) e c d (by decide) ⟨x,H,I1,ru,⟨rfl,fun ys hy=>by rw [I.list_inj hy hq];exact hx⟩,st',fun b hb=>(hf b hb).1⟩⟩
 done:=by intro X hP hw hK hc i pins s Z H E I hf st hg;subst hP hw hK;obtain ⟨xs,hq,hx⟩:=hg;obtain ⟨its,rv,p,hz⟩:=I.list hq;obtain ⟨f0,f1,f2,f3,f4,f5⟩:=hf it (by simp);have hl:=rv.length;exact wpAny_pyNext_list_end (I.ok.hd hc) st p.isList (by simp;omega) fun h' eb=>⟨rfl,I.turned (t':=s.toks) (fun b o hb e=>eb b o hb e) f0 f1 f3 f4 f5⟩
 self:=fun _ _ _ _ _ st h=>wpAny_pyIter_listiter st h
def yoX {P:Program}{w:World}{K:PySem.W.Frag}{tg:Expr}(it:Addr) (lo:Int) (n:Nat):Turn P w K tg (Itr lo n) [it] it (fun i h=>IsRangeIter h it (lo+(i:Nat)*1) ((n:Int)-(i:Nat)) 1) where
 mem:=by simp
 obj:=fun i h st b hb=>by
  have e:b=it:=by simpa using hb
  subst e;exact ⟨_,st,fun v z=>by have z':Data.fields _=Data.cell v:=z;cases z'⟩
 keep:=fun i h h' st k=>k it (by simp) _ st
 item:=by
  intro X hP hw hK hc i pins s Z H E I hf st hg;subst hP hw hK;obtain ⟨f0,f1,f2,f3,f4,f5⟩:=hf it (by simp);have W:=Walks.range (prog:=X.prog) (w:=X.w) (I.ok.hd hc) it lo 1 n;refine W.item i s _ _ hg st fun v h' tk hv st' kk=>?_
  obtain ⟨t,rfl⟩:=hv;have I1:Inv X pins Z H { s with heap:=h',toks:=tk }:=I.turned (fun b o hb e=>kk b o (by simpa using hb) e) f0 f1 f3 f4 f5;refine ⟨_,rfl,ypY (s:={ s with heap:=h',toks:=tk }) (n:="range_iterator") st' rfl rfl (by decide) ⟨.int (lo+i),H,I1,⟨t,?_⟩,⟨rfl,rfl⟩,st',fun b hb=>(hf b hb).1⟩⟩;rw [Int.mul_one]
 done:=by intro X hP hw hK hc i pins s Z H E I hf st hg;subst hP hw hK;obtain ⟨f0,f1,f2,f3,f4,f5⟩:=hf it (by simp);exact wpAny_pyNext_range_end (I.ok.hd hc) st (by have:n<=i:=hg;omega) fun h' eb=>⟨rfl,I.turned (t':=s.toks) (fun b o hb e=>eb b o hb e) f0 f1 f3 f4 f5⟩
 self:=fun _ _ _ _ _ st h=>wpAny_pyIter_rangeiter st h
section
variable {X:Cx}{tg:Expr}
def ysW (K:PySem.W.Frag) (tl:TE):TI:=fun Z H R=>tl Z H fun x H1=>∃ a,x=.ref a/\(∃ xs,SqL K H1 a xs)/\R (Itl K a) H1
def yjp (hl:PE X l tl):PI X tg l (ysW X.K tl):=by
 intro pins s Z H R I h;refine thn (hl pins s Z H _ I h) fun v s1 ⟨x,H1,I1,r1,q1⟩=>?_
 obtain ⟨a,e,⟨xs,hq⟩,q⟩:=q1;subst e;cases r1;obtain ⟨its,rv,p,hz⟩:=I1.list hq;refine wpAny_pyIter_list p.isList ?_;refine ⟨s1.heap.objs.size,[s1.heap.objs.size],_,_,H1,rfl,I1.kept (t':=s1.toks) fun b o e=>Heap.get?_push_of_some _ e,ypZ a _,⟨_,Heap.get?_push_size _ rfl,rfl,rfl⟩,fun b hb=>?_,q⟩;have e:b=s1.heap.objs.size:=by simpa using hb
 subst e;exact I1.fpOk (Nat.le_refl _) (I1.hok.fresh (Nat.le_refl _))
def ysX {pins:List (Addr×Obj)}{Z:St}{H:Hp}{s:Shared}{R:It->Hp->Prop}{E:Value->Shared->Prop}{lo hi:Int}{t u v:Tok}{tk:Nat}(I:Inv X pins Z H s) (h1:-(2 ^ 62)<=lo) (h2:lo<2 ^ 62) (h3:-(2 ^ 62)<=hi) (h4:hi<2 ^ 62)
  (q:R (Itr lo (hi-lo).toNat) H):wpAny (model X.prog X.w) X.A (pyIter (.ref s.heap.objs.size)) (PIE X pins Z tg R) E { s with heap:=s.heap.push { cls:=.type "range",data:=.fields #[.int lo t,.int hi u,.int 1 v] },toks:=tk }:=by
 refine wpAny_pyIter_range (IsRange.new ..) (small_one h1 h2 h3 h4) ?_;have I1:Inv X pins Z H { s with heap:=s.heap.push { cls:=.type "range",data:=.fields #[.int lo t,.int hi u,.int 1 v] },toks:=tk }:=I.kept fun b o e=>Heap.get?_push_of_some _ e
 refine ⟨(s.heap.push { cls:=.type "range",data:=.fields #[.int lo t,.int hi u,.int 1 v] }).objs.size,[(s.heap.push { cls:=.type "range",data:=.fields #[.int lo t,.int hi u,.int 1 v] }).objs.size],_,_,H,rfl,
  I1.kept (t':=tk) fun b o e=>Heap.get?_push_of_some _ e,yoX _ lo (hi-lo).toNat,?_,fun b hb=>?_,q⟩
 .have e1:lo+((0:Nat):Int)*1=lo:=by simp
  have e2:(((hi-lo).toNat:Nat):Int)-((0:Nat):Int)=Builtin.Range.rangeSize lo hi 1:=by rw [rangeSize_one];split<;>omega
  show IsRangeIter _ _ (lo+((0:Nat):Int)*1) ((((hi-lo).toNat:Nat):Int)-((0:Nat):Int)) 1;rw [e1,e2];exact Heap.get?_push_size _ rfl
 .have e:b=(s.heap.push { cls:=.type "range",data:=.fields #[.int lo t,.int hi u,.int 1 v] }).objs.size:=by simpa using hb
  subst e;exact I1.fpOk (Nat.le_refl _) (I1.hok.fresh (Nat.le_refl _))
def yzM (ta:TA):TI:=fun Z H R=>ta Z H fun vs H1=>∃ j:Int,vs=[.int j]/\-(2 ^ 62)<=j/\j<2 ^ 62/\R (Itr 0 j.toNat) H1
def yqa (hg:Gl X "range") (hm:X.mg "range" = none) (ha:PA X [a] ta) (hs:starEach [a] X.env=[(false,eval a X.env)]:=by rfl):PI X tg (.Call (.Name "range" p) [a] [] pos) (yzM ta):=by
 intro pins s Z H R I h;refine Call_ (yiM I hg hm boot_range (PyProof.Rows.callWith_type1 (thn (ha pos pins s Z H _ I h) fun us s1 ⟨vs,H1,I1,r1,q1⟩=>?_) hs rfl));obtain ⟨j,e,q1,q2,q⟩:=q1;subst e;cases r1 with
 | cons r rr =>
  cases rr;obtain ⟨t,rfl⟩:=r;exact call_range_1 (ysX I1 (by omega) (by omega) q1 q2 (by simpa using q))
noncomputable def yzN (wi:TI) (g:TG) (tb:TS):TS:=fun D Z H=>wi Z H fun J H1=>∃ W:Nat->Nat->St->Hp->Prop,(∃ m,W 0 m Z H1)/\∀ i m Z H,W i m Z H ->
 (J.stop i H/\D.nx Z H)\/(J.go i H/\∃ N:St->Hp->Prop,(∀ Z' H',N Z' H'->∃ m',m'<m/\W (i+1) m' Z' H')/\∀ x H',J.yld i H x H'->g x Z H' fun Z2 H2=>tb { D with nx:=N,ct:=N,bk:=D.nx } Z2 H2)
def ynP (fp:List Addr) (h:Heap):List (Addr×Obj):=fp.filterMap fun b=>(h.get? b).map fun o=>(b,o)
def ycU {h:Heap}(hb:b∈fp) (e:h.get? b=some o):(b,o)∈ynP fp h:=List.mem_filterMap.mpr ⟨b,hb,by rw [e];rfl⟩
def yqb (hp:p∈ynP fp h):p.1∈fp/\h.get? p.1=some p.2:=by
 obtain ⟨b,hb,e⟩:=List.mem_filterMap.mp hp;cases q:h.get? b with
 | none=>rw [q] at e;cases e
 | some o =>
  rw [q] at e;have e':(b,o)=p:=Option.some.inj e;subst e';exact ⟨hb,q⟩
def Inv.pinned {pins:List (Addr×Obj)}{Z:St}{H:Hp}{s:Shared}{fp:List Addr}(I:Inv X pins Z H s) (hf:∀ b∈fp,ypO X pins H b) (ho:∀ b∈fp,∃ o,s.heap.get? b=some o/\∀ v,o.data≠.cell v):Inv X (pins++ynP fp s.heap) Z H s :=
 I.pins_of fun p hp=>(List.mem_append.mp hp).elim (fun z=>I.pin p (mem_append_right _ z)) fun z=>by obtain ⟨hb,e⟩:=yqb z;obtain ⟨f0,f1,f2,_⟩:=hf p.1 hb;obtain ⟨o,e',d⟩:=ho p.1 hb;rw [e] at e';cases e';exact ⟨e,f0,f1,f2,d⟩
def Inv.unpinned {pins pl:List (Addr×Obj)}{Z:St}{H:Hp}{s:Shared}(I:Inv X (pins++pl) Z H s):Inv X pins Z H s:=I.pins_of fun p hp=>I.pin p (mem_append_right _ (mem_append_left _ hp))
theorem ynQ {tb:TS}(hp:PassesOwn (model X.prog X.w) X.A X.env X.xe) (hc:X.calm=true) (hi:PI X tg iter wi) (hg:PG X tg g) (hb:PSs X body tb)
  (hs:∀ x,foldedSetIterable iter X.env x=pure x:=by intro _;rfl):PS X (.For tg iter body [] pos) (yzN wi g tb):=by
 intro pins s Z H D I h;refine wpAny_For (thn (hi pins s Z H _ I h) fun v s1 h1=>thn h1 fun itv s2 h2=>?_) hs;obtain ⟨it,fp,tn,J,H2,e,I2,T,st2,f2,W,⟨m0,w0⟩,turn⟩:=h2;subst e;have stat:∀ {H':Hp},(∀ b∈fp,H' b=none)->∀ b∈fp,ypO X pins H' b:=fun hn b hb=>⟨hn b hb,(f2 b hb).2⟩
 refine codeAny_forLoop_any (fun n s'=>∃ i Z' H',Inv X pins Z' H' s'/\tn i s'.heap/\(∀ b∈fp,H' b=none)/\W i n Z' H') ?_ m0 ⟨0,Z,H2,I2,st2,fun b hb=>(f2 b hb).1,w0⟩;rintro n s3 ⟨i,Z3,H3,I3,st3,fr3,w3⟩;rcases turn i n Z3 H3 w3 with ⟨stop,qn⟩|⟨go,N,hN,step⟩
 .refine wpAny_passesOwn hp (thn (T.done X rfl rfl rfl hc i pins s3 Z3 H3 X.xe I3 (stat fr3) st3 stop) fun r s4 ⟨hr,I4⟩=>?_);subst hr;exact wpAny_execs_nil ⟨Z3,H3,I4,qn⟩
 .refine wpAny_passesOwn hp (thn (T.item X rfl rfl rfl hc i pins s3 Z3 H3 X.xe I3 (stat fr3) st3 go) fun r s4 ⟨u,hr,h4⟩=>?_);subst hr;refine wpAny_passesOwn hp (thn h4 fun _ s5 ⟨x,H5,I5,r5,y5,st5,fr5⟩=>?_);have I5':=I5.pinned (stat fr5) (T.obj _ _ st5);refine wpAny_passesOwn hp (thn (hg _ s5 Z3 H5 x u _ I5' r5 (step x H5 y5)) fun _ s6 ⟨Z6,H6,I6,q6⟩=>?_);refine wpAny_passesOwn hp (thn (hb _ s6 Z6 H6 _ I6 q6) fun f s7 q7=>?_);have again:∀ {Z7:St}{H7:Hp},Inv X (pins++ynP fp s5.heap) Z7 H7 s7->N Z7 H7->∃ m,m<n/\∃ i Z' H',Inv X pins Z' H' s7/\tn i s7.heap/\(∀ b∈fp,H' b=none)/\W i m Z' H':=fun {Z7 H7} I7 n7=>by obtain ⟨m',hm,w7⟩:=hN Z7 H7 n7;refine ⟨m',hm,i+1,Z7,H7,I7.unpinned,T.keep _ _ _ st5 fun b hb o e=>(I7.pin (b,o) (mem_append_right _ (mem_append_right _ (ycU hb e)))).1,fun b hb=>?_,w7⟩;obtain ⟨o,e,d⟩:=T.obj _ _ st5 b hb;exact (I7.pin (b,o) (mem_append_right _ (mem_append_right _ (ycU hb e)))).2.1
  cases f with
  | next=>obtain ⟨Z7,H7,I7,n7⟩:=q7;exact again I7 n7
  | cont=>obtain ⟨Z7,H7,I7,n7⟩:=q7;exact again I7 n7
  | brk=>obtain ⟨Z7,H7,I7,q7⟩:=q7;exact ⟨Z7,H7,I7.unpinned,q7⟩
  | ret v=>obtain ⟨x7,Z7,H7,I7,r7,q7⟩:=q7;exact ⟨x7,Z7,H7,I7.unpinned,r7,q7⟩
end
abbrev R2:=V->V->Hp->VK->Prop
def OpR (X:Cx) (f:Value->Value->Sem Value) (r:R2):Prop :=
 ∀ (pins:List (Addr×Obj)) (s:Shared) (Z:St) (H:Hp) (x y:V) (v u:Value) (Q:VK),Inv X pins Z H s->RelV x v->RelV y u->r x y H Q ->
  wpAny (model X.prog X.w) X.A (f v u) (EP X pins Z Q) X.xe s
def UnR (X:Cx) (f:Value->Sem Value) (r:V->Hp->VK->Prop):Prop :=
 ∀ (pins:List (Addr×Obj)) (s:Shared) (Z:St) (H:Hp) (x:V) (v:Value) (Q:VK),Inv X pins Z H s->RelV x v->r x H Q ->
  wpAny (model X.prog X.w) X.A (f v) (EP X pins Z Q) X.xe s
def yfz (X:Cx) (f:Value) (r:List V->Hp->VK->Prop):Prop :=
 ∀ (pins:List (Addr×Obj)) (s:Shared) (Z:St) (H:Hp) (xs:List V) (us:List Value) (Q:VK),Inv X pins Z H s->Vals xs us->r xs H Q ->
  wpAny (model X.prog X.w) X.A (call f us) (EP X pins Z Q) X.xe s
def tOp (r:R2) (ta tb:TE):TE:=fun Z H Q=>ta Z H fun x H1=>tb Z H1 fun y H2=>r x y H2 Q
def tUn (r:V->Hp->VK->Prop) (ta:TE):TE:=fun Z H Q=>ta Z H fun x H1=>r x H1 Q
def rI (C:Int->Int->Prop) (g:Int->Int->V):R2:=fun x y H Q=>∃ i j,x=.int i/\y=.int j/\C i j/\Q (g i j) H
def rI0 (g:Int->Int->V):R2:=fun x y H Q=>∃ i j,x=.int i/\y=.int j/\Q (g i j) H
def rU (g:Int->V):V->Hp->VK->Prop:=fun x H Q=>∃ i,x=.int i/\Q (g i) H
section
variable {X:Cx}{a b c:Expr}{ta tb tc:TE}{pos:Pos}
def yCD (ha:PE X a ta) (hb:PE X b tb) {pins:List (Addr×Obj)}{s:Shared}{Z:St}{H:Hp}{R:V->V->Hp->Prop}(I:Inv X pins Z H s)
  (h:ta Z H fun x H1=>tb Z H1 fun y H2=>R x y H2) {Q:Value->Shared->Prop}{f:Value->Value->Sem Value}
  (hf:∀ v u s2 x y H2,Inv X pins Z H2 s2->RelV x v->RelV y u->R x y H2->wpAny (model X.prog X.w) X.A (f v u) Q X.xe s2) :
  wpAny (model X.prog X.w) X.A (eval a X.env) (fun v s₁=>wpAny (model X.prog X.w) X.A (eval b X.env) (fun u s₂=>wpAny (model X.prog X.w) X.A (f v u) Q X.xe s₂) X.xe s₁) X.xe s:=by
 refine thn (ha pins s Z H _ I h) fun v s1 ⟨x,H1,I1,r1,q1⟩=>?_
 refine thn (hb pins s1 Z H1 _ I1 q1) fun u s2 ⟨y,H2,I2,r2,q2⟩=>?_
 exact hf v u s2 x y H2 I2 r1 r2 q2
def yzO (ho:OpR X (binaryOp op) r) (ha:PE X a ta) (hb:PE X b tb):PE X (.BinOp a op b pos) (tOp r ta tb):=by intro pins s Z H Q I h;exact wpAny_BinOp (yCD ha hb I h fun v u s2 x y H2 I2 rx ry q=>ho pins s2 Z H2 x y v u Q I2 rx ry q)
def yCE (ho:UnR X (unaryOp op) r) (ha:PE X a ta):PE X (.UnaryOp op a pos) (tUn r ta):=by intro pins s Z H Q I h;exact UnaryOp_ (thn (ha pins s Z H _ I h) fun v s1 ⟨x,H1,I1,r1,q1⟩=>ho pins s1 Z H1 x v Q I1 r1 q1)
def opI {f:Value->Value->Sem Value}{C:Int->Int->Prop}{g:Int->Int->Int}
  (rule:∀ (i j:Int) (t u:Tok) (s:Shared) (Q:Value->Shared->Prop) (E:Value->Shared->Prop),C i j->Q (.int (g i j) s.toks) { s with toks:=s.toks+1 }->wpAny (model X.prog X.w) X.A (f (.int i t) (.int j u)) Q E s) :
  OpR X f (rI C fun i j=>.int (g i j)):=by
 intro pins s Z H x y v u Q I rx ry h;obtain ⟨i,j,rfl,rfl,hc,q⟩:=h;obtain ⟨t,rfl⟩:=rx;obtain ⟨t',rfl⟩:=ry;exact rule i j t t' s _ _ hc ⟨.int (g i j),H,I.tok _,⟨_,rfl⟩,q⟩
def yEx {f:Value->Value->Sem Value}{g:Int->Int->Int}
  (rule:∀ (i j:Int) (t u:Tok) (s:Shared) (Q:Value->Shared->Prop) (E:Value->Shared->Prop),Q (.int (g i j) s.toks) { s with toks:=s.toks+1 }->wpAny (model X.prog X.w) X.A (f (.int i t) (.int j u)) Q E s) :
  OpR X f (rI0 fun i j=>.int (g i j)):=by
 intro pins s Z H x y v u Q I rx ry h;obtain ⟨i,j,rfl,rfl,q⟩:=h;obtain ⟨t,rfl⟩:=rx;obtain ⟨t',rfl⟩:=ry;exact rule i j t t' s _ _ ⟨.int (g i j),H,I.tok _,⟨_,rfl⟩,q⟩
def yCl {f:Value->Value->Sem Value}{g:Int->Int->Bool}
  (rule:∀ (i j:Int) (t u:Tok) (s:Shared) (Q:Value->Shared->Prop) (E:Value->Shared->Prop),Q (.bool (g i j)) s->wpAny (model X.prog X.w) X.A (f (.int i t) (.int j u)) Q E s) :
  OpR X f (rI0 fun i j=>.bl (g i j)):=by
 intro pins s Z H x y v u Q I rx ry h;obtain ⟨i,j,rfl,rfl,q⟩:=h;obtain ⟨t,rfl⟩:=rx;obtain ⟨t',rfl⟩:=ry;exact rule i j t t' s _ _ ⟨.bl (g i j),H,I,rfl,q⟩
def yEy (i j:Int):Prop:=0<j/\j<1073741824
def yCF (i j:Int):Prop:=0<=j/\j<=1000000/\i.natAbs<2 ^ 64
def CMul (i j:Int):Prop:=(-(2 ^ 64)<i/\i<2 ^ 64)\/(-(2 ^ 64)<j/\j<2 ^ 64)
def CMul.ok (h:CMul i j):IntMulOk i j:=by
 rcases h with ⟨h1,h2⟩|⟨h1,h2⟩
 .exact .of_left (intBits_le_64 h1 h2)
 .exact .of_right (intBits_le_64 h1 h2)
def ycc:OpR X (binaryOp .Add) (rI0 fun i j=>.int (i+j)):=yEx fun _ _ _ _ _ _ _ q=>add_int q
def ykM:OpR X (binaryOp .Sub) (rI0 fun i j=>.int (i-j)):=yEx fun _ _ _ _ _ _ _ q=>sub_int q
def ykN:OpR X (binaryOp .Mult) (rI CMul fun i j=>.int (i*j)):=opI fun _ _ _ _ _ _ _ hc q=>mul_int q hc.ok
def ydX:OpR X (binaryOp .FloorDiv) (rI yEy fun i j=>.int (i/j)):=opI fun i j _ _ _ _ _ hc q=>by have h1:(0:Int)<j:=hc.1;have h2:j<1073741824:=hc.2;exact floordiv_int (by omega) (by rw [Int.fdiv_eq_ediv_of_nonneg i (by omega)];exact q) (.inl (PyProof.noPylong_small (by omega)))
def ybY:OpR X (binaryOp .Mod) (rI (fun _ j=>0<j) fun i j=>.int (i%j)):=opI fun i j _ _ _ _ _ hc q=>by have h1:(0:Int)<j:=hc;exact mod_int' (by omega) (by rw [Int.fmod_eq_emod_of_nonneg i (by omega)];exact q)
def yqc:OpR X (binaryOp .Pow) (rI yCF fun i j=>.int (i ^ j.toNat)):=opI fun _ _ _ _ _ _ _ hc q=>pow_int_small hc.1 hc.2.1 hc.2.2 q
def unI {f:Value->Sem Value}{g:Int->Int}
  (rule:∀ (i:Int) (t:Tok) (s:Shared) (Q:Value->Shared->Prop) (E:Value->Shared->Prop),Q (.int (g i) s.toks) { s with toks:=s.toks+1 }->wpAny (model X.prog X.w) X.A (f (.int i t)) Q E s) :
  UnR X f (rU fun i=>.int (g i)):=by
 intro pins s Z H x v Q I rx h;obtain ⟨i,rfl,q⟩:=h;obtain ⟨t,rfl⟩:=rx;exact rule i t s _ _ ⟨.int (g i),H,I.tok _,⟨_,rfl⟩,q⟩
def yqd:UnR X (unaryOp .USub) (rU fun i=>.int (-i)):=unI fun _ _ _ _ _ q=>neg_int q
end
noncomputable def yvx:V->V->Bool
 | .non,.non=>true|.non,.int _=>true|.int _,.non=>true|.non,.bl _=>true|.bl _,.non=>true|.non,.str _=>true|.str _,.non=>true
 | .int _,.int _=>true|.bl _,.bl _=>true|.str _,.str _=>true|.byt _,.byt _=>true
 | .int _,.str _=>true|.str _,.int _=>true|.bl _,.str _=>true|.str _,.bl _=>true
 | _,_=>false
def rEq:R2:=fun x y H Q=>yvx x y=true/\Q (.bl (decide (x=y))) H
def rNe:R2:=fun x y H Q=>yvx x y=true/\Q (.bl (!decide (x=y))) H
def yqe:decide (V.int i=V.int j)=(i == j):=by rw [Bool.eq_iff_iff];simp
def yvy:decide (V.bl i=V.bl j)=(i == j):=by rw [Bool.eq_iff_iff];simp
def yqf:decide (V.str i=V.str j)=(i == j):=by rw [Bool.eq_iff_iff];simp
def yqg:decide (V.byt i=V.byt j)=(i.toList == j.toList):=by rw [Bool.eq_iff_iff];cases i;cases j;simp
section
variable {X:Cx}{a b c:Expr}{ta tb tc:TE}{pos:Pos}
def ybn {pins:List (Addr×Obj)}{Z:St}{H:Hp}{s:Shared}{Q:VK}{k k':Bool}(I:Inv X pins Z H s) (q:Q (.bl k) H) (e:k=k'):EP X pins Z Q (.bool k') s:=by subst e;exact ⟨.bl k,H,I,rfl,q⟩
def ybF:OpR X (compareOp .Eq) rEq:=by
 intro pins s Z H x y v u Q I rx ry h;obtain ⟨hs,q⟩:=h;cases x with
 | non =>
  cases rx;cases y with
  | non=>cases ry;exact PySem.EqNone.eq_none_none (ybn I q (by simp))
  | bl j=>cases ry;exact PySem.EqNone.eq_none_bool (ybn I q (by simp))
  | int j=>obtain ⟨t',rfl⟩:=ry;exact PySem.EqNone.eq_none_int (ybn I q (by simp))
  | str j=>obtain ⟨t',rfl⟩:=ry;exact PySem.EqNone.eq_none_str (ybn I q (by simp))
  | _=>exact absurd (show false=true from hs) Bool.false_ne_true
 | bl i =>
  cases rx;cases y with
  | non=>cases ry;exact PySem.EqNone.eq_bool_none (ybn I q (by simp))
  | bl j=>cases ry;exact eq_bool (ybn I q yvy)
  | str j=>obtain ⟨t',rfl⟩:=ry;exact PySem.EqMixed.eq_bool_str (ybn I q (by simp))
  | _=>exact absurd (show false=true from hs) Bool.false_ne_true
 | int i =>
  obtain ⟨t,rfl⟩:=rx;cases y with
  | non=>cases ry;exact PySem.EqNone.eq_int_none (ybn I q (by simp))
  | int j=>obtain ⟨t',rfl⟩:=ry;exact eq_int (ybn I q yqe)
  | str j=>obtain ⟨t',rfl⟩:=ry;exact PySem.EqMixed.eq_int_str (ybn I q (by simp))
  | _=>exact absurd (show false=true from hs) Bool.false_ne_true
 | str i =>
  obtain ⟨t,rfl⟩:=rx;cases y with
  | non=>cases ry;exact PySem.EqNone.eq_str_none (ybn I q (by simp))
  | bl j=>cases ry;exact PySem.EqMixed.eq_str_bool (ybn I q (by simp))
  | int j=>obtain ⟨t',rfl⟩:=ry;exact PySem.EqMixed.eq_str_int (ybn I q (by simp))
  | str j=>obtain ⟨t',rfl⟩:=ry;exact eq_str (ybn I q yqf)
  | _=>exact absurd (show false=true from hs) Bool.false_ne_true
 | byt i =>
  obtain ⟨t,rfl⟩:=rx;cases y with
  | byt j=>obtain ⟨t',rfl⟩:=ry;exact PySem.W.eq_bytes (ybn I q yqg)
  | _=>exact absurd (show false=true from hs) Bool.false_ne_true
 | _=>cases y<;>exact absurd (show false=true from hs) Bool.false_ne_true
def ysY:OpR X (compareOp .NotEq) rNe:=by
 intro pins s Z H x y v u Q I rx ry h;obtain ⟨hs,q⟩:=h;cases x with
 | non =>
  cases rx;cases y with
  | non=>cases ry;exact PySem.EqNone.ne_none_none (ybn I q (by simp))
  | bl j=>cases ry;exact PySem.EqNone.ne_none_bool (ybn I q (by simp))
  | int j=>obtain ⟨t',rfl⟩:=ry;exact PySem.EqNone.ne_none_int (ybn I q (by simp))
  | str j=>obtain ⟨t',rfl⟩:=ry;exact PySem.EqNone.ne_none_str (ybn I q (by simp))
  | _=>exact absurd (show false=true from hs) Bool.false_ne_true
 | bl i =>
  cases rx;cases y with
  | non=>cases ry;exact PySem.EqNone.ne_bool_none (ybn I q (by simp))
  | bl j=>cases ry;exact ne_bool (ybn I q (congrArg not yvy))
  | str j=>obtain ⟨t',rfl⟩:=ry;exact PySem.EqMixed.ne_bool_str (ybn I q (by simp))
  | _=>exact absurd (show false=true from hs) Bool.false_ne_true
 | int i =>
  obtain ⟨t,rfl⟩:=rx;cases y with
  | non=>cases ry;exact PySem.EqNone.ne_int_none (ybn I q (by simp))
  | int j=>obtain ⟨t',rfl⟩:=ry;exact ne_int (ybn I q (congrArg not yqe))
  | str j=>obtain ⟨t',rfl⟩:=ry;exact PySem.EqMixed.ne_int_str (ybn I q (by simp))
  | _=>exact absurd (show false=true from hs) Bool.false_ne_true
 | str i =>
  obtain ⟨t,rfl⟩:=rx;cases y with
  | non=>cases ry;exact PySem.EqNone.ne_str_none (ybn I q (by simp))
  | bl j=>cases ry;exact PySem.EqMixed.ne_str_bool (ybn I q (by simp))
  | int j=>obtain ⟨t',rfl⟩:=ry;exact PySem.EqMixed.ne_str_int (ybn I q (by simp))
  | str j=>obtain ⟨t',rfl⟩:=ry;exact ne_str (ybn I q (congrArg not yqf))
  | _=>exact absurd (show false=true from hs) Bool.false_ne_true
 | byt i =>
  obtain ⟨t,rfl⟩:=rx;cases y with
  | byt j=>obtain ⟨t',rfl⟩:=ry;exact PySem.W.ne_bytes (ybn I q (congrArg not yqg))
  | _=>exact absurd (show false=true from hs) Bool.false_ne_true
 | _=>cases y<;>exact absurd (show false=true from hs) Bool.false_ne_true
def ymy:OpR X (compareOp .Lt) (rI0 fun i j=>.bl (decide (i<j))):=yCl fun _ _ _ _ _ _ _ q=>lt_int q
def yiu:OpR X (compareOp .LtE) (rI0 fun i j=>.bl (decide (i<=j))):=yCl fun _ _ _ _ _ _ _ q=>le_int q
def yqh:OpR X (compareOp .Gt) (rI0 fun i j=>.bl (decide (j<i))):=yCl fun _ _ _ _ _ _ _ q=>gt_int q
def yCG:OpR X (compareOp .GtE) (rI0 fun i j=>.bl (decide (j<=i))):=yCl fun _ _ _ _ _ _ _ q=>ge_int q
def yqi:OpR X (compareOp .In) (fun x y H Q=>∃ i j,x=.str i/\y=.str j/\Q (.bl (!(Builtin.Str.occurrences j i 0 j.length 1).isEmpty)) H):=by intro pins s Z H x y v u Q I rx ry h;obtain ⟨i,j,rfl,rfl,q⟩:=h;obtain ⟨t,rfl⟩:=rx;obtain ⟨t',rfl⟩:=ry;exact in_str (ybn I q rfl)
def ynR:OpR X (compareOp .Is) (fun x y H Q=>y=.non/\Q (.bl (decide (x=.non))) H):=by
 intro pins s Z H x y v u Q I rx ry h;obtain ⟨rfl,q⟩:=h;cases ry;refine is_none_gen (ybn I q ?_);cases x<;>first
  | (cases rx;rfl)
  | (obtain ⟨t,rfl⟩:=rx;rfl)
def ywE:OpR X (compareOp .IsNot) (fun x y H Q=>y=.non/\Q (.bl (!decide (x=.non))) H):=by
 intro pins s Z H x y v u Q I rx ry h;obtain ⟨rfl,q⟩:=h;cases ry;refine isnot_none_gen (ybn I q ?_);cases x<;>first
  | (cases rx;rfl)
  | (obtain ⟨t,rfl⟩:=rx;rfl)
def ykO (b:Expr) (h:op≠.In:=by decide) (h2:op≠.NotIn:=by decide):behindInMarks op b=false:=by
 have e1:(op == CmpOp.In)=false:=by cases op<;>first|rfl|exact absurd rfl h
 have e2:(op == CmpOp.NotIn)=false:=by cases op<;>first|rfl|exact absurd rfl h2
 cases b<;>simp [behindInMarks,e1,e2]
def ywF (ho:OpR X (compareOp op) r) (ha:PE X a ta) (hb:PE X b tb) (hm:behindInMarks op b=false):PE X (.Compare a [op] [b] pos) (tOp r ta tb):=by intro pins s Z H Q I h;exact wpAny_Compare1 (yCD ha hb I h fun v u s2 x y H2 I2 rx ry q=>ho pins s2 Z H2 x y v u Q I2 rx ry q) hm
def ywG (t:TE):TT:=fun Z H Q=>t Z H fun x H'=>∃ k,x=.bl k/\Q k H'
def ywH (ho:OpR X (compareOp op) r) (ha:PE X a ta) (hb:PE X b tb) (hm:behindInMarks op b=false):PT X (.Compare a [op] [b] pos) (ywG (tOp r ta tb)):=by
 intro pins s Z H Q I h;refine wpAny_isTrue_Compare1 (thn (ha pins s Z H _ I h) fun v s1 ⟨x,H1,I1,r1,q1⟩=>thn (hb pins s1 Z H1 _ I1 q1) fun u s2 ⟨y,H2,I2,r2,q2⟩ =>
  thn (ho pins s2 Z H2 x y v u _ I2 r1 r2 q2) fun c s3 ⟨z,H3,I3,r3,k,e,q3⟩=>?_) hm
 subst e;cases r3;exact wpAny_truthy_bool ⟨H3,I3,q3⟩
noncomputable def yqj (r r':R2) (ta tb tc:TE):TE:=fun Z H Q=>ta Z H fun x H1=>tb Z H1 fun y H2=>r x y H2 fun z H3=>∃ k,z=.bl k /\
 (if k=true then tc Z H3 fun w' H4=>r' y w' H4 Q else Q (.bl false) H3)
def ysZ (ho:OpR X (compareOp op) r) (ho':OpR X (compareOp op') r') (ha:PE X a ta) (hb:PE X b tb) (hc:PE X c tc)
  (hm:lastMarks [op,op'] [b,c]=false:=by with_unfolding_all rfl):PE X (.Compare a [op,op'] [b,c] pos) (yqj r r' ta tb tc):=by
 intro pins s Z H Q I h;refine Compare_chain (thn (ha pins s Z H _ I h) fun v s1 ⟨x,H1,I1,r1,q1⟩=>chain_link (thn (hb pins s1 Z H1 _ I1 q1) fun u s2 ⟨y,H2,I2,r2,q2⟩ =>
  thn (ho pins s2 Z H2 x y v u _ I2 r1 r2 q2) fun d s3 ⟨z,H3,I3,r3,k,e,q3⟩=>?_)) hm
 subst e;cases r3;refine wpAny_truthy_bool ?_;cases k with
 | false=>exact ite_ff ⟨.bl false,H3,I3,rfl,q3⟩
 | true=>exact ite_tt (chain_last (thn (hc pins s3 Z H3 _ I3 q3) fun w' s4 ⟨z',H4,I4,r4,q4⟩=>ho' pins s4 Z H4 y z' u w' Q I4 r2 r4 q4))
def yta (ho:OpR X (compareOp op) r) (ho':OpR X (compareOp op') r') (ha:PE X a ta) (hb:PE X b tb) (hc:PE X c tc)
  (hm:lastMarks [op,op'] [b,c]=false:=by with_unfolding_all rfl):PT X (.Compare a [op,op'] [b,c] pos) (ywG (yqj r r' ta tb tc)):=by
 intro pins s Z H Q I h;refine isTrue_chain (thn (ha pins s Z H _ I h) fun v s1 ⟨x,H1,I1,r1,q1⟩=>test_link (thn (hb pins s1 Z H1 _ I1 q1) fun u s2 ⟨y,H2,I2,r2,q2⟩ =>
  thn (ho pins s2 Z H2 x y v u _ I2 r1 r2 q2) fun d s3 ⟨z,H3,I3,r3,k,e,q3⟩=>?_)) hm
 subst e;cases r3;refine wpAny_truthy_bool ?_;cases k with
 | false =>
  obtain ⟨k',e',q'⟩:=q3;cases e';exact ite_ff ⟨H3,I3,q'⟩
 | true =>
  refine ite_tt (test_last (thn (hc pins s3 Z H3 _ I3 q3) fun w' s4 ⟨z',H4,I4,r4,q4⟩=>thn (ho' pins s4 Z H4 y z' u w' _ I4 r2 r4 q4) fun d' s5 ⟨z2,H5,I5,r5,k2,e2,q5⟩=>?_));subst e2;cases r5;exact wpAny_truthy_bool ⟨H5,I5,q5⟩
def yiN:(sizeLine:Nat)<2 ^ 63:=by rw [sizeLine_eq];decide
def yP:OpR X (binaryOp .Add) (fun x y H Q=>∃ i j,x=.str i/\y=.str j/\i.length+j.length<=sizeLine/\Q (.str (i++j)) H):=by intro pins s Z H x y v u Q I rx ry h;obtain ⟨i,j,rfl,rfl,hz,q⟩:=h;obtain ⟨t,rfl⟩:=rx;obtain ⟨t',rfl⟩:=ry;exact add_str (fun t' tk=>⟨.str (i++j),H,I.tok _,⟨_,rfl⟩,q⟩) hz
def vals1 (r:Vals [x] us):∃ u,us=[u]/\RelV x u:=by
 cases r with
 | cons r1 r2=>cases r2;exact ⟨_,rfl,r1⟩
def vals2 (r:Vals [x,y] us):∃ u w',us=[u,w']/\RelV x u/\RelV y w':=by
 cases r with
 | cons r1 r2 =>
  cases r2 with
  | cons r3 r4=>cases r4;exact ⟨_,_,rfl,r1,r3⟩
def yeI:yfz X (.type "str") (fun xs H Q=>∃ i,xs=[.int i]/\i.natAbs.log2<1920/\Q (.str (toString i)) H):=by intro pins s Z H xs us Q I r h;obtain ⟨i,rfl,hz,q⟩:=h;obtain ⟨u,rfl,t,rfl⟩:=vals1 r;exact PySem.P.str_of_int hz ⟨.str _,H,I.tok _,⟨_,rfl⟩,q⟩
end
structure ObjM (h:Heap) (x dx C:Addr) (mA:Str->Option Value):Prop where
 obj:h.get? x=some (instObj C dx)
 ns:h.Ns1 dx mA
 ne:dx≠x
def yqk {h:Heap}(n:h.Ns1 dx mA):∃ od,h.get? dx=some od/\∀ name,PySem.W.lookIn name od=some (mA name):=by
 obtain ⟨o,es,ep,ho,hd,hk,_,hm⟩:=n;refine ⟨o,ho,fun name=>?_⟩;have e:=hm name;unfold nsFind findBy at e;rw [<- Array.find?_toList] at e;unfold PySem.W.lookIn;rw [hd];dsimp only;split
 .rename_i y q;rw [q] at e;exact congrArg some e
 .rename_i q;rw [q] at e;have a:es.toList.any (·.refKey)=false:=by rw [List.any_eq_false];intro y hy;obtain ⟨z,t,hkey⟩:=hk y (Array.mem_toList_iff.mp hy);simp [DictEntry.refKey,hkey]
  have a':¬ es.toList.any (·.refKey)=true:=by rw [a];exact Bool.false_ne_true
  rw [if_neg a'];exact congrArg some e
def ObjM.look (I:ObjM h x dx C mA):∃ od,PySem.W.InstAt h x (instObj C dx) C (some od)/\∀ name,PySem.W.lookIn name od=some (mA name) :=
 let ⟨od,ho,hl⟩:=yqk I.ns
 ⟨od,⟨I.obj,rfl,rfl,ho⟩,hl⟩
section
variable {prog:Program}{w:World}{A:Around}{E:Value->Shared->Prop}{s:Shared}{K:PySem.W.Frag}{x dx C f:Addr}{mA:Str->Option Value}{name:Str}{v:Value}
def ywI {Q:Value->Shared->Prop}(X:K.In s.heap) (I:ObjM s.heap x dx C mA) (hg:plainGet K C name=true) (hh:hasDictIn K C=true)
  (ha:findIn K (.ref C) name=some none) (hv:mA name=some v) (hv':PySem.W.handedIn v=true) (h:Q v { s with toks:=s.toks+1 }) :
  wpAny (model prog w) A (getAttr (.ref x) name expr) Q E s:=by
 obtain ⟨od,J,hl⟩:=I.look;exact PySem.W.get_value X J (PySem.W.plainGet_of hg).1 (PySem.W.findObj_own hh ha rfl (by rw [hl,hv])) hv' h
def ytb {pl:Sem Bool}{Q:Value×List Value->Shared->Prop}(X:K.In s.heap) (I:ObjM s.heap x dx C mA) (hg:plainGet K C name=true)
  (hf:findIn K (.ref C) name=some (some (.ref f))) (ht:isFn K (.ref f)=true) (hv:mA name=none) (h:Q (.ref f,[.ref x]) s) :
  wpAny (model prog w) A (getMethod (.ref x) name pl) Q E s:=by
 obtain ⟨od,J,hl⟩:=I.look;exact PySem.W.method_fn X J (PySem.W.plainGet_of hg).1 (PySem.W.plainGet_of hg).2 hf (beq_iff_eq.mp ht) (by show (PySem.W.lookIn name od).map (·.isSome)=some false;rw [hl,hv];rfl) h
def ywJ {Q:Unit->Shared->Prop}(X:K.In s.heap) (I:ObjM s.heap x dx C mA)
  (hs:findIn K (.ref C) "__setattr__" = some (some (.builtin "object.__setattr__"))) (hp:PySem.W.plainOver K C=true) (ht:PySem.W.takerIn K C name=some none) (hh:hasDictIn K C=true)
  (hw:PySem.Within mA ns) (hsz:ns.length<=sizeLine)
  (h:∀ h',ObjM h' x dx C (fun y=>if y=name then some v else mA y)->Heap.SameBut dx s.heap h'->Q () { s with heap:=h',toks:=s.toks+2 }) :
  wpAny (model prog w) A (setAttr (.ref x) name v) Q E s:=by
 obtain ⟨od,J,hl⟩:=I.look;refine PySem.W.set_plain X J hs (PySem.W.osa_open (s:={ s with toks:=s.toks+1 }) (r:=none) X J hp ht fun b=>?_);obtain ⟨cd,hc,hd'⟩:=PySem.W.any_some hh;have hx:s.heap.get? x=some ⟨.ref C,some dx,.plain,#[]⟩:=I.obj;refine wpAny_bind (wpAny_pure (wpAny_bind (wpAny_bind (wpAny_loadPart hx (wpAny_bind (PySem.W.Looks.here (s:={ s with toks:=s.toks+1 }) (PySem.W.looks_clsIn X hc) ?_))))));rw [hd'];refine wpAny_pure (a:=some dx) (wpAny_bind (wpAny_pure (wpAny_bind ?_)));refine wpAny_nsSet1 (s:={ s with toks:=s.toks+1 }) I.ns fun h' hn2 hs2=>?_
 obtain ⟨oD,esD,epD,hoD,hdD,hcD⟩:=hn2.count (PySem.Within.cons name v hw);refine wpAny_bind (wpAny_lookBehind hoD (by rw [hdD];exact pastItsLine_dict (Nat.le_trans hcD (by rw [length_cons];omega))) ?_);exact wpAny_pure (h _ ⟨(hs2.2 _ (Ne.symm I.ne)).trans I.obj,hn2,I.ne⟩ hs2)
def ytc (X:K.In s.heap) (hm:makesIn K C=true)
  (hi:findIn K (.ref C) "__init__" = some (some (.ref f))) (hf:typeIn K (.ref f)=some (.type "function"))
  (h:codeAny (model prog w) (A.under (.builtin "type.__call__" ⟨.ref C::vs,kw⟩)) (.call (.ref f) ⟨.ref (s.heap.objs.size+1)::vs,kw⟩) (PySem.W.InitBack (s.heap.objs.size+1) R)
   { s with heap:=(s.heap.push emptyDict).push (instObj C s.heap.objs.size) }) :
  codeAny (model prog w) A (.call (.ref C) ⟨vs,kw⟩) R s:=by
 obtain ⟨hh,g,d,t,os⟩:=s;exact PySem.W.make_core (PySem.W.makes_of X hm) (PySem.W.looks_findIn X hi) (fun self=>PySem.W.bind_fn X self hf) (.inl rfl) h
end
def yiO (f:Str) (v:V):List (Str×V)->List (Str×V)
 | []=>[(f,v)]
 | (g,x)::r=>if g=f then (g,v)::r else (g,x)::yiO f v r
theorem yht (f g:Str) (v:V):∀ fs:List (Str×V),(yiO f v fs).lookup g=if g=f then some v else fs.lookup g
 | []=>by
  show List.lookup g [(f,v)]=_
  by_cases h:g=f
  .have hb:(g == f)=true:=beq_iff_eq.mpr h;simp only [List.lookup,hb,if_pos h]
  .have hb:(g == f)=false:=beq_eq_false_iff_ne.mpr h;simp only [List.lookup,hb,if_neg h]
 | (k,x)::r=>by
  have ih:=yht f g v r;rw [show yiO f v ((k,x)::r)=(if k=f then (k,v)::r else (k,x)::yiO f v r) from rfl]
  by_cases hk:k=f
  .rw [if_pos hk]
   by_cases h:g=k
   .have hb:(g == k)=true:=beq_iff_eq.mpr h;simp only [List.lookup,hb,if_pos (h.trans hk)]
   .have hb:(g == k)=false:=beq_eq_false_iff_ne.mpr h;simp only [List.lookup,hb,if_neg (fun e:g=f=>h (e.trans hk.symm))]
  .rw [if_neg hk]
   by_cases h:g=k
   .have hb:(g == k)=true:=beq_iff_eq.mpr h;simp only [List.lookup,hb,if_neg (fun e:g=f=>hk (h.symm.trans e))]
   .have hb:(g == k)=false:=beq_eq_false_iff_ne.mpr h;simp only [List.lookup,hb];exact ih
theorem yhu (f:Str) (v:V):∀ fs:List (Str×V),f∈(yiO f v fs).map (·.1)/\∀ g,g∈fs.map (·.1)->g∈(yiO f v fs).map (·.1)
 | []=>⟨by simp [yiO],fun g h=>by simp at h⟩
 | (k,x)::r=>by
  obtain ⟨i1,i2⟩:=yhu f v r;rw [show yiO f v ((k,x)::r)=(if k=f then (k,v)::r else (k,x)::yiO f v r) from rfl]
  by_cases hk:k=f
  .rw [if_pos hk];subst hk;exact ⟨by simp,fun g h=>by simpa using h⟩
  .rw [if_neg hk];refine ⟨?_,fun g h=>?_⟩
   .rw [map_cons];exact mem_cons_of_mem _ i1
   .rw [map_cons] at h ⊢;rcases mem_cons.mp h with e|e
    .exact mem_cons.mpr (.inl e)
    .exact mem_cons_of_mem _ (i2 g e)
theorem yhv (f:Str) (v:V):∀ fs:List (Str×V),(yiO f v fs).length<=fs.length+1
 | []=>by simp [yiO]
 | (k,x)::r=>by
  have ih:=yhv f v r;rw [show yiO f v ((k,x)::r)=(if k=f then (k,v)::r else (k,x)::yiO f v r) from rfl]
  by_cases hk:k=f
  .rw [if_pos hk,length_cons,length_cons];omega
  .rw [if_neg hk,length_cons,length_cons];omega
def RelO.some_of (r:RelO (some v) o):∃ u,o=some u/\RelV v u:=by
 cases o with
 | none=>exact (show False from r).elim
 | some u=>exact ⟨u,rfl,r⟩
def RelO.none_of (r:RelO none o):o=none:=by
 cases o with
 | none=>rfl
 | some u=>exact (show False from r).elim
def yql (r:RelV v u):PySem.W.handedIn u=true:=by
 cases v with
 | non=>cases (show u=Value.none from r);rfl
 | bl b=>cases (show u=Value.bool b from r);rfl
 | int i=>obtain ⟨t,e⟩:=(show ∃ t,u=Value.int i t from r);cases e;rfl
 | str x=>obtain ⟨t,e⟩:=(show ∃ t,u=Value.str x t from r);cases e;rfl
 | byt b=>obtain ⟨t,e⟩:=(show ∃ t,u=Value.bytes b t from r);cases e;rfl
 | flt b=>obtain ⟨t,e⟩:=(show ∃ t,u=Value.float b t from r);cases e;rfl
 | ref a=>cases (show u=Value.ref a from r);rfl
 | ty n=>cases (show u=Value.type n from r);rfl
section
variable {P:Program}{w:World}{H H':Hp}{h h':Heap}{a C dx:Addr}{fs fs':List (Str×V)}
def yjq (hok:HOk P w H h) (e:H a=some (.ins C dx fs)):∃ mA,ObjM h a dx C mA/\(∀ f,RelO (fs.lookup f) (mA f))/\PySem.Within mA (fs.map (·.1))/\fs.length<=1000/\H dx=some (.own a):=by
 obtain ⟨d,z,ne,ob,mA,n,r,q⟩:=(show ObjOk P w H h a (.ins C dx fs) from hok a _ e)
 exact ⟨mA,⟨ob,n,ne⟩,r,q,z,d⟩
end
structure Cls (K:PySem.W.Frag) (C:Addr):Prop where
 pg:plainGet K C Str.empty=true
 hd:hasDictIn K C=true
 po:PySem.W.plainOver K C=true
 sa:findIn K (.ref C) "__setattr__" = some (some (.builtin "object.__setattr__"))
def Cls.get {K:PySem.W.Frag}{C:Addr}(c:Cls K C) (f:Str):plainGet K C f=true:=c.pg
def NoAttr (K:PySem.W.Frag) (C:Addr) (f:Str):Prop:=findIn K (.ref C) f=some none
def NoAttr.taker {K:PySem.W.Frag}{C:Addr}{f:Str}(n:NoAttr K C f):PySem.W.takerIn K C f=some none:=by unfold PySem.W.takerIn;rw [show findIn K (.ref C) f=some none from n];rfl
structure Meth (K:PySem.W.Frag) (C:Addr) (m:Str) (f:Addr):Prop where
 at_:findIn K (.ref C) m=some (some (.ref f))
 fn:isFn K (.ref f)=true
 kp:keepIn K (.ref f)=true
section
variable {X:Cx}{pins:List (Addr×Obj)}{Z:St}{H:Hp}{s:Shared}{a C dx:Addr}{fs:List (Str×V)}{f:Str}{v:V}{A:Around}{E:Value->Shared->Prop}
def yoY {Q:Value->Shared->Prop}(I:Inv X pins Z H s) (e:H a=some (.ins C dx fs)) (c:Cls X.K C) (n:NoAttr X.K C f) (l:fs.lookup f=some v)
  (h:∀ u s',Inv X pins Z H s'->RelV v u->Q u s'):wpAny (model X.prog X.w) A (getAttr (.ref a) f b) Q E s:=by
 obtain ⟨mA,O,r,_,_,_⟩:=yjq I.hok e;obtain ⟨u,hu,ru⟩:=RelO.some_of (v:=v) (o:=mA f) (by rw [<- l];exact r f);exact ywI I.kIn O (c.get f) c.hd n hu (yql ru) (h u _ (I.tok _) ru)
def ygt {pl:Sem Bool}{Q:Value×List Value->Shared->Prop}(I:Inv X pins Z H s) (e:H a=some (.ins C dx fs)) (c:Cls X.K C) (k:Meth X.K C m g) (l:fs.lookup m=none)
  (h:Q (.ref g,[.ref a]) s):wpAny (model X.prog X.w) A (getMethod (.ref a) m pl) Q E s:=by
 obtain ⟨mA,O,r,_,_,_⟩:=yjq I.hok e;have hn:mA m=none:=RelO.none_of (by rw [<- l];exact r m);exact ytb I.kIn O (c.get m) k.at_ k.fn hn h
def yoZ {Q:Unit->Shared->Prop}(I:Inv X pins Z H s) (e:H a=some (.ins C dx fs)) (c:Cls X.K C) (n:NoAttr X.K C f) (hl:fs.length<1000) (ry:RelV y u)
  (h:∀ s',Inv X pins Z (upd H a (.ins C dx (yiO f y fs))) s'->Q () s'):wpAny (model X.prog X.w) A (setAttr (.ref a) f u) Q E s:=by
 obtain ⟨mA,O,r,wi,_,ho⟩:=yjq I.hok e;have hz:(fs.map (·.1)).length<=sizeLine:=by rw [length_map,sizeLine_eq];omega
 refine ywJ I.kIn O c.sa c.po n.taker c.hd wi hz fun h' O' sb=>h _ ?_
 have hd:∃ o,h'.get? dx=some o:=let ⟨o,_,_,e',_⟩:=O'.ns;⟨o,e'⟩
 refine I.write (x:=a) (e:=dx) (by rw [e];exact True.intro) (.inr ho) (fun b q hb z=>(sb.2 b hb).trans z) hd ?_;refine ⟨by rw [yK O.ne];exact ho,?_,O.ne,O'.obj,_,O'.ns,fun g=>?_,fun g hg=>?_⟩
 .have:=yhv f y fs;omega
 .show RelO ((yiO f y fs).lookup g) (if g=f then some u else mA g);rw [yht]
  by_cases q:g=f
  .rw [if_pos q,if_pos q];exact ry
  .rw [if_neg q,if_neg q];exact r g
 .by_cases q:g=f
  .rw [q];exact (yhu f y fs).1
  .refine (yhu f y fs).2 g (wi g fun z=>hg ?_);show (if g=f then some u else mA g)=none;rw [if_neg q];exact z
def Inv.made (I:Inv X pins Z H s):Inv X pins Z (upd (upd H s.heap.objs.size (.own (s.heap.objs.size+1))) (s.heap.objs.size+1) (.ins C s.heap.objs.size []))
  { s with heap:=(s.heap.push emptyDict).push (instObj C s.heap.objs.size) }:=by
 have e1:(s.heap.push emptyDict).get? s.heap.objs.size=some emptyDict:=Heap.get?_push_size s.heap rfl;have e2:((s.heap.push emptyDict).push (instObj C s.heap.objs.size)).get? (s.heap.objs.size+1)=some (instObj C s.heap.objs.size):=by have:=Heap.get?_push_size (s.heap.push emptyDict) (o:=instObj C s.heap.objs.size) rfl;rwa [Heap.size_push] at this
 have e3:(s.heap.push emptyDict).Ns s.heap.objs.size (fun _=>none):=⟨emptyDict,#[],_,e1,rfl,(fun e he=>absurd he (by simp)),fun _=>rfl⟩
 have I1:=I.laid (a:=s.heap.objs.size) (o:=.own (s.heap.objs.size+1)) (h':=s.heap.push emptyDict) (t':=s.toks) (fun b u q=>Heap.get?_push_of_some _ q) (Nat.le_refl _) ⟨_,e1⟩;refine I1.laid (a:=s.heap.objs.size+1) (o:=.ins C s.heap.objs.size []) (t':=s.toks) (fun b u q=>Heap.get?_push_of_some _ q) (le_of_eq (Heap.size_push _ _)) ?_;have ne:s.heap.objs.size≠s.heap.objs.size+1:=ne_of_lt (Nat.lt_succ_self _);refine ⟨by rw [yK ne,yE],zero_le _,ne,e2,fun _=>none,(Heap.Ns1.of_empty e3).at fun o q=>Heap.get?_push_of_some _ q,fun _=>True.intro,fun y hy=>absurd rfl hy⟩
def ywK {f:Str}{s:Shared}{Q:Value->Shared->Prop}(hb:attributeBase e f env (eval e env)=eval e env)
  (h:wpAny (model prog w) A (eval e env) (fun o s₁=>wpAny (model prog w) A (getAttr o f true) Q E s₁) E s):wpAny (model prog w) A (eval (.Attribute e f pos) env) Q E s :=
 Attribute_any_ h (by rw [arm_eval_Attribute,hb])
end
noncomputable def yEz (K:PySem.W.Frag) (ta:TE) (f:Str):TE:=fun Z H Q=>ta Z H fun x H1=>∃ a C dx fs v,x=.ref a/\H1 a=some (.ins C dx fs)/\Cls K C/\NoAttr K C f/\fs.lookup f=some v/\Q v H1
noncomputable def yCH (K:PySem.W.Frag) (ta tv:TE) (f:Str):TS:=fun D Z H=>tv Z H fun y H1=>ta Z H1 fun x H2=>∃ a C dx fs,x=.ref a/\H2 a=some (.ins C dx fs)/\Cls K C/\NoAttr K C f/\fs.length<1000 /\
 D.nx Z (upd H2 a (.ins C dx (yiO f y fs)))
section
variable {X:Cx}{o e value:Expr}{f:Str}{pos pos' tpos:Pos}{ta tv:TE}
def yzP (he:PE X e ta) (hb:attributeBase e f X.env (eval e X.env)=eval e X.env):PE X (.Attribute e f pos) (yEz X.K ta f):=by intro pins s Z H Q I h;refine ywK hb (thn (he pins s Z H _ I h) fun u s1 ⟨x,H1,I1,rx,a,C,dx,fs,v,ex,ea,c,n,l,q⟩=>?_);subst ex;obtain rfl:u=Value.ref a:=rx;exact yoY I1 ea c n l fun u' s2 I2 ru=>⟨v,H1,I2,ru,q⟩
def yvz (ha:PE X o ta) (hv:PE X value tv) (hs:swapsWith value (some (.Attribute o f pos')) pos.line X.env=pure false):PS X (.Assign [.Attribute o f pos'] value pos) (yCH X.K ta tv f):=by intro pins s Z H D I h;refine plainObj_wpAny_Assign_Attribute (thn (hv pins s Z H _ I h) fun u s1 ⟨y,H1,I1,ry,q⟩=>thn (ha pins s1 Z H1 _ I1 q) fun ov s2 ⟨x,H2,I2,rx,a,C,dx,fs,ex,ea,c,n,l,q2⟩=>?_) hs;subst ex;obtain rfl:ov=Value.ref a:=rx;exact yoZ I2 ea c n l ry fun s3 I3=>⟨Z,_,I3,q2⟩
end
section
variable {X:Cx}{pins:List (Addr×Obj)}{Z:St}{H:Hp}{s:Shared}{A:Around}{E:Value->Shared->Prop}{Q:Value->Shared->Prop}{c:Value}{b:Bool}
inductive ynS (K:PySem.W.Frag) (H:Hp):V->Value->Prop where
 | non:ynS K H .non (.type "NoneType")
 | bl (x:Bool):ynS K H (.bl x) (.type "bool")
 | int (i:Int):ynS K H (.int i) (.type "int")
 | str (x:Str):ynS K H (.str x) (.type "str")
 | flt (x:UInt64):ynS K H (.flt x) (.type "float")
 | lst {a:Addr}{xs:List V}(e:H a=some (.lst xs)):ynS K H (.ref a) (.type "list")
 | frz {a:Addr}{o:Obj}{xs:List V}(e:H a=some (.frz o (.lst xs))):ynS K H (.ref a) (.type "list")
 | tup {a:Addr}{xs:List V}(e:H a=some (.tup xs)):ynS K H (.ref a) (.type "tuple")
 | kt {a:Addr}{o:Obj}(e:K.lookup a=some o) (c:o.cls=.type "tuple"):ynS K H (.ref a) (.type "tuple")
 | dK {a:Addr}{kvs:List (Key×V)}(e:H a=some (.dK kvs)):ynS K H (.ref a) (.type "dict")
 | dT {a:Addr}{kvs:List (List Key×V)}(e:H a=some (.dT kvs)):ynS K H (.ref a) (.type "dict")
 | ins {a C dx:Addr}{fs:List (Str×V)}(e:H a=some (.ins C dx fs)) (cl:Cls K C) (ha:findIn K (.ref C) "__class__" = some (some (.builtin "object.__class__")))
   (hn:PySem.W.specialIn K (.builtin "object.__class__") "__get__" = some (some (.builtin "getset_descriptor.__get__"))) (htk:PySem.W.takesIn K (.builtin "object.__class__")=some true)
   (hm:mroIn K C (.type "object")=some true):ynS K H (.ref a) (.ref C)
def yqm (I:Inv X pins Z H s) (rx:RelV x u) (ty:ynS X.K H x t) (e:PySem.W.kitOne X.K t c=some b) (h:∀ tk,Q (.bool b) { s with toks:=tk }) :
  wpAny (model X.prog X.w) A (call (.builtin "isinstance") [u,c]) Q E s:=by
 cases ty with
 | non=>cases (show u=Value.none from rx);exact kia_one PySem.W.kitx_none I.kIn True.intro e (fun z=>nomatch z) h
 | bl y=>cases (show u=Value.bool y from rx);exact kia_one PySem.W.kitx_bool I.kIn True.intro e (fun z=>nomatch z) h
 | int i=>obtain ⟨t,q⟩:=(show ∃ t,u=Value.int i t from rx);cases q;exact kia_one PySem.W.kitx_int I.kIn True.intro e (fun z=>nomatch z) h
 | str y=>obtain ⟨t,q⟩:=(show ∃ t,u=Value.str y t from rx);cases q;exact kia_one PySem.W.kitx_str I.kIn True.intro e (fun z=>nomatch z) h
 | flt y=>obtain ⟨t,q⟩:=(show ∃ t,u=Value.float y t from rx);cases q;exact kia_one PySem.W.kitx_float I.kIn True.intro e (fun z=>nomatch z) h
 | @lst a xs ea =>
  cases (show u=Value.ref a from rx);obtain ⟨_,_,n,_,h1⟩:=(show ObjOk X.prog X.w H s.heap a (.lst xs) from I.hok a _ ea)
  exact kia_one PySem.W.kitx_list I.kIn ⟨_,h1,rfl⟩ e (fun z=>nomatch z) h
 | @frz a ob xs ea =>
  cases (show u=Value.ref a from rx);obtain ⟨_,_,_,n,_,h1⟩:=(show ObjOk X.prog X.w H s.heap a (.frz ob (.lst xs)) from I.hok a _ ea)
  exact kia_one PySem.W.kitx_list I.kIn ⟨_,h1,rfl⟩ e (fun z=>nomatch z) h
 | @tup a xs ea =>
  cases (show u=Value.ref a from rx);obtain ⟨_,_,_,p⟩:=(show ObjOk X.prog X.w H s.heap a (.tup xs) from I.hok a _ ea)
  obtain ⟨o,h1,h2,_⟩:=p;exact kia_one PySem.W.kitx_tuple I.kIn ⟨o,h1,h2⟩ e (fun z=>nomatch z) h
 | @kt a ob ek ck =>
  cases (show u=Value.ref a from rx);exact kia_one PySem.W.kitx_tuple I.kIn ⟨ob,I.kIn a ob ek,ck⟩ e (fun z=>nomatch z) h
 | @dK a kvs ea =>
  cases (show u=Value.ref a from rx);obtain ⟨_,_,vs,_,p⟩:=(show ObjOk X.prog X.w H s.heap a (.dK kvs) from I.hok a _ ea)
  obtain ⟨o,es,ep,h1,h2,_⟩:=p;exact kia_one PySem.W.kitx_dict I.kIn ⟨o,h1,h2.1⟩ e (fun z=>nomatch z) h
 | @dT a kvs ea =>
  cases (show u=Value.ref a from rx);obtain ⟨_,_,xs,_,o,es,ep,h1,h2,_⟩:=(show ObjOk X.prog X.w H s.heap a (.dT kvs) from I.hok a _ ea)
  exact kia_one PySem.W.kitx_dict I.kIn ⟨o,h1,h2.1⟩ e (fun z=>nomatch z) h
 | @ins a C dx fs ea cl ha hn htk hm =>
  cases (show u=Value.ref a from rx);obtain ⟨mA,O,_⟩:=yjq I.hok ea;obtain ⟨od,J,_⟩:=O.look;exact kia_one (PySem.W.kitx_own (cl.get _) cl.hd ha hn htk hm) I.kIn J e (fun z=>nomatch z) h
end
structure Room (k:Nat) (A:Around):Prop where
 hd:A.handled=none
 dp:A.depth+3*k+5<recursionLimit
 un:A.units+16*k+200<cLine
def Room.mono (r:Room k A) (h:j<=k):Room j A:=⟨r.hd,by have:=r.dp;omega,by have:=r.un;omega⟩
theorem Room.deeper (r:Room (k+1) A) (env:Env):Room k (A.deeper env) :=
 ⟨r.hd,by have:=r.dp;show A.depth+1+3*k+5<_;omega,by have:=r.un;show A.units+3+16*k+200<_;omega⟩
def ypa {A:Around}:(A.under (.builtin "type.__call__" ⟨.ref C::us,kw⟩)).depth=A.depth+1:=by first|rfl|simp [Around.under,Code.weight,Code.isCreation,Code.isGuard,Code.isCaller,Code.frames,Code.isFrame,guardIds]
def ypb {A:Around}:(A.under (.builtin "type.__call__" ⟨.ref C::us,kw⟩)).units=A.units+1:=by first|rfl|simp [Around.under,Code.cUnits,Code.frames,Code.isFrame]
def Room.make (r:Room (k+1) A) (C:Addr) (us:List Value) (kw:List (Str×Value)):Room k (A.under (.builtin "type.__call__" ⟨.ref C::us,kw⟩)) :=
 ⟨r.hd,by have:=r.dp;rw [ypa];omega,by have:=r.un;rw [ypb];omega⟩
theorem Room.depth (r:Room k A):A.depth<recursionLimit:=by have:=r.dp;omega
theorem Room.units (r:Room k A):A.units+64<cLine:=by have:=r.un;omega
def ytd:TA:=fun _ H Q=>Q [] H
def ymz (ta:TE) (tr:TA):TA:=fun Z H Q=>ta Z H fun x H1=>tr Z H1 fun xs H2=>Q (x::xs) H2
section
variable {X:Cx}{e:Expr}{es:List Expr}{te:TE}{t:TA}{pos:Pos}
def yiP:PA X [] ytd:=fun _ _ _ _ H Q I h=>Calls.spliced_nil ⟨[],H,I,.nil,h⟩
def yfA (ha:PE X e te) (hr:PA X es t) (hs:starEach (e::es) X.env=(false,eval e X.env)::starEach es X.env:=by rfl):PA X (e::es) (ymz te t):=by intro pos pins s Z H Q I h;rw [hs];show wpAny _ _ (spliced ((false,eval e X.env)::backTo pos (starEach es X.env))) _ _ s;refine Calls.spliced_cons (thn (ha pins s Z H _ I h) fun u s1 ⟨x,H1,I1,r1,q1⟩=>?_);exact thn (hr pos pins s1 Z H1 _ I1 q1) fun us s2 ⟨xs,H2,I2,r2,q2⟩=>⟨x::xs,H2,I2,.cons r1 r2,q2⟩
def yEA (t:TA):TE:=fun Z H Q=>t Z H fun xs H1=>xs.length<=sizeLine/\∀ p,H1 p=none->Q (.ref p) (upd H1 p (.tup xs))
def yEB (t:TA):TE:=fun Z H Q=>t Z H fun xs H1=>xs.length<=sizeLine/\∀ p,H1 p=none->Q (.ref p) (upd H1 p (.lst xs))
def yzQ {x1} (h:PA X es t):PE X (.Tuple es x1 pos) (yEA t):=by intro pins s Z H Q I hq;refine wpAny_Tuple_spliced (thn (h pos pins s Z H _ I hq) fun us s1 ⟨xs,H1,I1,r,z,q⟩=>⟨by rw [<- r.length];exact z,?_⟩);have hf:H1 s1.heap.objs.size=none:=I1.hok.fresh (Nat.le_refl _);refine ⟨.ref s1.heap.objs.size,upd H1 s1.heap.objs.size (.tup xs),I1.laid (t':=s1.toks) (fun b u e=>Heap.get?_push_of_some _ e) (Nat.le_refl _) ?_,rfl,q _ hf⟩;exact ⟨z,us,r,⟨_,Heap.get?_push_size _ rfl,rfl,_,rfl⟩⟩
def yzR (h:PA X es t):PE X (.List es pos) (yEB t):=by intro pins s Z H Q I hq;refine wpAny_List_spliced (thn (h pos pins s Z H _ I hq) fun us s1 ⟨xs,H1,I1,r,z,q⟩=>⟨by rw [<- r.length];exact z,?_⟩);have hf:H1 s1.heap.objs.size=none:=I1.hok.fresh (Nat.le_refl _);refine ⟨.ref s1.heap.objs.size,upd H1 s1.heap.objs.size (.lst xs),I1.laid (t':=s1.toks) (fun b u e=>Heap.get?_push_of_some _ e) (Nat.le_refl _) ?_,rfl,q _ hf⟩;exact ⟨z,us,0,r,Heap.get?_push_size _ rfl⟩
end
abbrev Sp:=List V->Hp->VK->XK->Prop
abbrev CXT:=List Env->Hp->Shared->XK->Value->Shared->Prop
structure Env0 (P:Program) (w:World) (K:PySem.W.Frag) (mg:Str->Option Value) (base:Heap) (A:Around) (outer:List Env) (s:Shared) (H:Hp):Prop where
 frames:A.frames=some outer
 mod:Mod K mg base
 bs:∀ b o,base.get? b=some o->s.heap.get? b=some o/\H b=none
 bsz:base.objs.size<=s.heap.objs.size
 funs:s.heap.FunFrames base outer
 frf:∀ b∈frs outer,H b=none
 hok:HOk P w H s.heap
 bare:AllBare s.gens
def CE (outer:List Env) (P:Program) (w:World) (H:Hp) (s:Shared) (Q:VK) (u:Value) (s':Shared):Prop :=
 ∃ v H',s'.os=s.os/\AllBare s'.gens/\Un (frs outer) [] H H' s.heap s'.heap/\HOk P w H' s'.heap/\RelV v u/\Q v H'
def CR (CX:CXT) (outer:List Env) (P:Program) (w:World) (H:Hp) (s:Shared) (Q:VK) (E:XK) (r:Result) (s':Shared):Prop :=
 match r with
 | .ok (.ret u)=>CE outer P w H s Q u s'
 | .ok _=>False
 | .error e=>CX outer H s E e s'
structure FnOk (P:Program) (w:World) (K:PySem.W.Frag) (mg:Str->Option Value) (base:Heap) (CX:CXT) (k:Nat) (f:Addr) (fd:FuncData) (ps:List Str) (sp:Sp):Prop where
 len:∀ vs H Q E,sp vs H Q E->vs.length=ps.length
 run:∀ (A:Around) (outer:List Env) (s:Shared) (H:Hp) (args:Args) (us:List Value) (vs:List V) (Q:VK) (E:XK),Room k A->Env0 P w K mg base A outer s H->BindsTo s fd args (ps.zip us)->Vals vs us->sp vs H Q E ->
  codeAny (model P w) A (.call (.ref f) args) (CR CX outer P w H s Q E) s
theorem FnOk.mono {P:Program}{w:World}{K:PySem.W.Frag}{mg:Str->Option Value}{base:Heap}{CX:CXT}{j k:Nat}{f:Addr}{fd:FuncData}{ps:List Str}{sp:Sp}(F:FnOk P w K mg base CX j f fd ps sp) (h:j<=k) :
  FnOk P w K mg base CX k f fd ps sp:=⟨F.len,fun A outer s H args us vs Q E hr=>F.run A outer s H args us vs Q E (hr.mono h)⟩
def FnOk.imp {P:Program}{w:World}{K:PySem.W.Frag}{mg:Str->Option Value}{base:Heap}{CX:CXT}{k:Nat}{f:Addr}{fd:FuncData}{ps:List Str}{sp sp':Sp}(F:FnOk P w K mg base CX k f fd ps sp)
  (h:∀ vs H Q E,sp' vs H Q E->sp vs H Q E):FnOk P w K mg base CX k f fd ps sp' :=
 ⟨fun vs H Q E q=>F.len vs H Q E (h _ _ _ _ q),fun A outer s H args us vs Q E hr he hb hv hs=>F.run A outer s H args us vs Q E hr he hb hv (h _ _ _ _ hs)⟩
def Env0.make {P:Program}{w:World}{K:PySem.W.Frag}{mg:Str->Option Value}{base:Heap}{A:Around}{outer:List Env}{s:Shared}{H:Hp}(e:Env0 P w K mg base A outer s H) (C:Addr) (us:List Value) (kw:List (Str×Value)) :
  Env0 P w K mg base (A.under (.builtin "type.__call__" ⟨.ref C::us,kw⟩)) outer s H:=⟨by first|exact e.frames|(simpa [Around.under,Code.envs,Code.isFrame,pushEnvs] using e.frames),e.mod,e.bs,e.bsz,e.funs,e.frf,e.hok,e.bare⟩
section
variable {X:Cx}{pins:List (Addr×Obj)}{Z:St}{H:Hp}{s s':Shared}
def Inv.env0 (I:Inv X pins Z H s):Env0 X.prog X.w X.K X.mg X.base X.A X.stack s H :=
 ⟨I.ok.frames,I.ok.mod,I.bs,Nat.le_trans I.ok.bsz I.sz,I.stack,I.stkFree,I.hok,I.bare⟩
def Inv.after {Q:VK}(I:Inv X pins Z H s) (h:CE X.stack X.prog X.w H s Q u s'):EP X pins Z Q u s':=by obtain ⟨v,H',os,bare,un,hok,r,q⟩:=h;obtain ⟨hh,g,d,t,os'⟩:=s';obtain rfl:os'=s.os:=os;exact ⟨v,H',I.call (h':=hh) (g':=g) (d':=d) (t':=t) (ch:=[]) un hok bare (fun b z=>absurd z (by simp)),r,q⟩
end
def yte (sp:Sp) (dvs:List V) (E:XK) (t:TA):TE:=fun Z H Q=>t Z H fun vs H1=>sp (vs++dvs) H1 Q E
noncomputable def ywL (C:Addr) (m:Str) (sp:Sp) (dvs:List V) (E:XK) (ta:TE) (t:TA):TE:=fun Z H Q=>ta Z H fun x H1=>∃ a dx fs,x=.ref a/\H1 a=some (.ins C dx fs)/\fs.lookup m=none /\
 t Z H1 fun vs H2=>sp (x::(vs++dvs)) H2 Q E
noncomputable def ytf (C:Addr) (sp:Sp) (dvs:List V) (E:XK) (t:TA):TE:=fun Z H Q=>t Z H fun vs H1=>∀ x dx,H1 x=none->H1 dx=none->dx≠x ->
 sp (.ref x::(vs++dvs)) (upd (upd H1 dx (.own x)) x (.ins C dx [])) (fun v H2=>v=.non/\Q (.ref x) H2) E
noncomputable def Binds (K:PySem.W.Frag) (fd:FuncData) (ps:List Str) (ds:List Value):Prop :=
 ∀ (s:Shared) (us:List Value),K.In s.heap->(us++ds).length=ps.length->BindsTo s fd ⟨us,[]⟩ (ps.zip (us++ds))
def Binds.all {K:PySem.W.Frag}{fd:FuncData}{ps:List Str}(h:∀ us:List Value,us.length=ps.length->bindArgs fd ⟨us,[]⟩=pure (ps.zip us)):Binds K fd ps []:=fun s us _ hl=>by rw [append_nil] at hl ⊢;exact .of_eq (h us hl)
noncomputable def yfU (CX:CXT) (X:Cx) (E:XK):Prop:=∀ (pins:List (Addr×Obj)) (Z:St) (H:Hp) (s:Shared) (e:Value) (s':Shared),Inv X pins Z H s->CX X.stack H s E e s'->X.xe e s'
section
variable {X:Cx}{CX:CXT}{k:Nat}{f C:Addr}{fd:FuncData}{ps:List Str}{sp:Sp}{dvs:List V}{ds:List Value}{E:XK}{x m:Str}{p pos apos:Pos}{e o:Expr}{es:List Expr}{ta:TE}{t:TA}
def ykP {pins:List (Addr×Obj)}{Z:St}{H:Hp}{s:Shared}{Q:VK}{us:List Value}{vs:List V}(F:FnOk X.prog X.w X.K X.mg X.base CX k f fd ps sp) (hr:Room k X.A) (hb:Binds X.K fd ps ds) (hd:Vals dvs ds) (hx:yfU CX X E)
  (I:Inv X pins Z H s) (r:Vals vs us) (h:sp (vs++dvs) H Q E):wpAny (model X.prog X.w) X.A (call (.ref f) us) (EP X pins Z Q) X.xe s:=by
 have r2:Vals (vs++dvs) (us++ds):=r.append hd;have hl:(us++ds).length=ps.length:=by rw [<- r2.length];exact F.len _ _ _ _ h
 refine wpAny_call (codeAny_mono (F.run X.A X.stack s H ⟨us,[]⟩ (us++ds) (vs++dvs) Q E hr I.env0 (hb s us I.kIn hl) r2 h) fun r s' hq=>?_);cases r with
 | error e=>exact hx pins Z H s e s' I hq
 | ok fl =>
  cases fl with
  | ret u=>exact I.after hq
  | next=>exact False.elim hq
  | brk=>exact False.elim hq
  | cont=>exact False.elim hq
def ywM (F:FnOk X.prog X.w X.K X.mg X.base CX k f fd ps sp) (hr:Room k X.A) (hg:Gl X x) (hm:X.mg x=some (.ref f)) (hk:keepIn X.K (.ref f)=true) (hb:Binds X.K fd ps ds) (hd:Vals dvs ds) (hx:yfU CX X E)
  (ha:PA X (e::es) t) (hdb:(x == ("__debug__":Str))=false:=by decide) (he:starEach (e::es) X.env=(false,eval e X.env)::starEach es X.env:=by rfl) (hpl:(backTo pos (starEach es X.env)).any (·.1)=false:=by rfl) :
  PE X (.Call (.Name x p) (e::es) [] pos) (yte sp dvs E t):=by
 intro pins s Z H Q I h;refine wpAny_Call_Name_kw (yhs I hg hm ?_ hdb);refine PySem.W.callWith_K (h₀:=X.base) I.ok.mod.kin hk (thn (ha pos pins s Z H _ I h) fun us s1 ⟨vs,H1,I1,r,q⟩=>⟨I1.kIn,?_⟩) he hpl;exact ykP F hr hb hd hx I1 r q
def ywN {pl:Sem Bool}(he:PE X o ta) (c:Cls X.K C) (hm:Meth X.K C m f) (F:FnOk X.prog X.w X.K X.mg X.base CX k f fd ps sp) (hr:Room k X.A) (hb:Binds X.K fd ps ds) (hd:Vals dvs ds) (hx:yfU CX X E) (ha:PA X (e::es) t)
  (hst:starEach (e::es) X.env=(false,eval e X.env)::starEach es X.env:=by rfl) (hpl:(backTo pos (starEach es X.env)).any (·.1)=false:=by rfl)
  (ht:eval (.Call (.Attribute o m apos) (e::es) [] pos) X.env=(do
   let ov <- eval o X.env
   standAt apos.atName
   let (f,first) <- holding [ov] (getMethod ov m pl)
   callWith pos f first (backTo pos (starEach (e::es) X.env)) (backToKw pos (keywordEach [] X.env))):=by rfl) :
  PE X (.Call (.Attribute o m apos) (e::es) [] pos) (ywL C m sp dvs E ta t):=by
 intro pins s Z H Q I h;refine PySem.W.methodCall_KW (pl:=pl) (thn (he pins s Z H _ I h) fun u s1 ⟨x,H1,I1,rx,a,dx,fs,ex,ea,l,q⟩=>?_) ht;subst ex;obtain rfl:u=Value.ref a:=rx;refine ygt I1 ea c hm l ?_;refine PySem.W.callWith_K (first:=[.ref a]) (h₀:=X.base) I.ok.mod.kin hm.kp (thn (ha pos pins s1 Z H1 _ I1 q) fun us s2 ⟨vs,H2,I2,r,q2⟩=>⟨I2.kIn,?_⟩) hst hpl;exact ykP (us:=.ref a::us) (vs:=.ref a::vs) F hr hb hd hx I2 (.cons rfl r) q2
def ytg {pl:Sem Bool}(he:PE X o ta) (c:Cls X.K C) (hm:Meth X.K C m f) (F:FnOk X.prog X.w X.K X.mg X.base CX k f fd ps sp) (hr:Room k X.A) (hb:Binds X.K fd ps ds) (hd:Vals dvs ds) (hx:yfU CX X E)
  (ht:eval (.Call (.Attribute o m apos) [] [] pos) X.env=(do
   let ov <- eval o X.env
   standAt apos.atName
   let (f,first) <- holding [ov] (getMethod ov m pl)
   callWith pos f first (backTo pos (starEach [] X.env)) (backToKw pos (keywordEach [] X.env))):=by rfl) :
  PE X (.Call (.Attribute o m apos) [] [] pos) (ywL C m sp dvs E ta ytd):=by
 intro pins s Z H Q I h;refine PySem.W.methodCall_KW (pl:=pl) (thn (he pins s Z H _ I h) fun u s1 ⟨x,H1,I1,rx,a,dx,fs,ex,ea,l,q⟩=>?_) ht;subst ex;obtain rfl:u=Value.ref a:=rx;refine ygt I1 ea c hm l ?_;exact PySem.W.callWith_K0 (first:=[.ref a]) I1.kIn hm.kp (ykP (us:=[.ref a]) (vs:=[.ref a]) F hr hb hd hx I1 (.cons rfl .nil) q)
structure Mk (K:PySem.W.Frag) (C f:Addr):Prop where
 makes:makesIn K C=true
 init:findIn K (.ref C) "__init__" = some (some (.ref f))
 fn:isFn K (.ref f)=true
 kp:keepIn K (.ref C)=true
def ynT {pins:List (Addr×Obj)}{Z:St}{H:Hp}{s:Shared}{Q:VK}{us:List Value}{vs:List V}(M:Mk X.K C f) (F:FnOk X.prog X.w X.K X.mg X.base CX k f fd ps sp) (hr:Room (k+1) X.A) (hb:Binds X.K fd ps ds) (hd:Vals dvs ds)
  (hx:yfU CX X E) (I:Inv X pins Z H s) (r:Vals vs us)
  (h:∀ x dx,H x=none->H dx=none->dx≠x->sp (.ref x::(vs++dvs)) (upd (upd H dx (.own x)) x (.ins C dx [])) (fun v H2=>v=.non/\Q (.ref x) H2) E) :
  wpAny (model X.prog X.w) X.A (call (.ref C) us) (EP X pins Z Q) X.xe s:=by
 have hq:=h (s.heap.objs.size+1) s.heap.objs.size (I.hok.fresh (Nat.le_succ _)) (I.hok.fresh (Nat.le_refl _)) (ne_of_lt (Nat.lt_succ_self _));have I2:=Inv.made (C:=C) I;have r2:Vals (V.ref (s.heap.objs.size+1)::(vs++dvs)) (Value.ref (s.heap.objs.size+1)::(us++ds)):=.cons rfl (r.append hd);have hl:(Value.ref (s.heap.objs.size+1)::us++ds).length=ps.length:=by have e:=r2.length;rw [F.len _ _ _ _ hq] at e;exact e.symm
 refine wpAny_call (ytc (f:=f) I.kIn M.makes M.init (beq_iff_eq.mp M.fn) (codeAny_mono (F.run _ X.stack _ _ ⟨Value.ref (s.heap.objs.size+1)::us,[]⟩ (Value.ref (s.heap.objs.size+1)::(us++ds)) _ _ E (hr.make C us [])
  (I2.env0.make C us []) (hb _ (Value.ref (s.heap.objs.size+1)::us) I2.kIn hl) r2 hq) fun r s' hq'=>?_))
 cases r with
 | error e=>exact hx pins Z _ _ e s' I2 hq'
 | ok fl =>
  cases fl with
  | ret u =>
   obtain ⟨v,H',I3,rv,ev,q3⟩:=I2.after hq';subst ev;exact ⟨rv,⟨V.ref (s.heap.objs.size+1),H',I3,rfl,q3⟩⟩
  | next=>exact False.elim hq'
  | brk=>exact False.elim hq'
  | cont=>exact False.elim hq'
def yqn (M:Mk X.K C f) (F:FnOk X.prog X.w X.K X.mg X.base CX k f fd ps sp) (hr:Room (k+1) X.A) (hg:Gl X x) (hm:X.mg x=some (.ref C)) (hb:Binds X.K fd ps ds) (hd:Vals dvs ds) (hx:yfU CX X E)
  (ha:PA X (e::es) t) (hdb:(x == ("__debug__":Str))=false:=by decide) (he:starEach (e::es) X.env=(false,eval e X.env)::starEach es X.env:=by rfl) (hpl:(backTo pos (starEach es X.env)).any (·.1)=false:=by rfl) :
  PE X (.Call (.Name x p) (e::es) [] pos) (ytf C sp dvs E t):=by
 intro pins s Z H Q I h;refine wpAny_Call_Name_kw (yhs I hg hm ?_ hdb);refine PySem.W.callWith_K (h₀:=X.base) I.ok.mod.kin M.kp (thn (ha pos pins s Z H _ I h) fun us s1 ⟨vs,H1,I1,r,q⟩=>⟨I1.kIn,?_⟩) he hpl;exact ynT M F hr hb hd hx I1 r q
def yth (M:Mk X.K C f) (F:FnOk X.prog X.w X.K X.mg X.base CX k f fd ps sp) (hr:Room (k+1) X.A) (hg:Gl X x) (hm:X.mg x=some (.ref C)) (hb:Binds X.K fd ps ds) (hd:Vals dvs ds) (hx:yfU CX X E)
  (hdb:(x == ("__debug__":Str))=false:=by decide):PE X (.Call (.Name x p) [] [] pos) (ytf C sp dvs E ytd):=by
 intro pins s Z H Q I h;refine wpAny_Call_Name_kw (yhs I hg hm ?_ hdb);exact PySem.W.callWith_K0 I.kIn M.kp (ynT (us:=[]) M F hr hb hd hx I .nil h)
end
section
variable {X:Cx}{CX:CXT}{k:Nat}{f C:Addr}{fd:FuncData}{ps ks:List Str}{sp:Sp}{E:XK}{x m:Str}{p pos apos kpos:Pos}{e o:Expr}{es:List Expr}{kws:List Keyword}{te ta:TE}{t tk:TA}{nm:Option Str}
variable {g:List Value->List Value->List Value}{gV:List V->List V->List V}
end
structure yel (N P:List Str) (sc:Scope):Prop where
 kind:sc.kind=.function
 co:sc.isCoroutine=false
 gen:sc.isGenerator=false
 nd:N.Nodup
 pre:N.take P.length=P
 par:∀ x∈P,sc.names.lookup x=some .local \/ sc.names.lookup x=some .cell
 nofree:∀ y∈sc.names,y.2≠.free
theorem ykQ {kindOf:Str->Option NameKind}{x:Str}:∀ {binds:List (Str×Value)}{m:Str->Option Value},(∀ v,(x,v)∉binds)->bindL kindOf binds m x=m x
 | [],_,_=>rfl
 | (n,v)::r,m,h=>by
  unfold bindL;rw [ykQ fun w hw=>h w (mem_cons_of_mem _ hw)];split
  .have:x≠n:=by rintro rfl;exact h v mem_cons_self
   simp [this]
  .rfl
theorem ykR {kindOf:Str->Option NameKind}{x:Str}:∀ {binds:List (Str×Value)}{m:Str->Option Value},(∀ v,(x,v)∉binds)->bindC kindOf binds m x=m x
 | [],_,_=>rfl
 | (n,v)::r,m,h=>by
  unfold bindC;rw [ykR fun w hw=>h w (mem_cons_of_mem _ hw)];split
  .rfl
  .have:x≠n:=by rintro rfl;exact h v mem_cons_self
   simp [this]
theorem ykS {kindOf:Str->Option NameKind}{x:Str}{v:Value}:∀ {P:List Str}{vs:List Value}{i:Nat}{m:Str->Option Value},P.Nodup->P[i]?=some x->vs[i]?=some v->kindOf x=some .local ->
  bindL kindOf (P.zip vs) m x=some v
 | [],_,_,_,_,h,_,_=>by simp at h
 | _::_,[],_,_,_,_,h,_=>by simp at h
 | p::P,w::vs,0,m,nd,h1,h2,hk=>by simp at h1 h2;subst h1;subst h2;show bindL kindOf ((p,w)::P.zip vs) m p=_;unfold bindL;rw [ykQ fun v hv=>(List.nodup_cons.mp nd).1 (of_mem_zip hv).1,if_pos hk];simp
 | p::P,w::vs,i+1,m,nd,h1,h2,hk=>by show bindL kindOf ((p,w)::P.zip vs) m x=_;unfold bindL;exact ykS (i:=i) (List.nodup_cons.mp nd).2 (by simpa using h1) (by simpa using h2) hk
theorem ykT {kindOf:Str->Option NameKind}{x:Str}{v:Value}:∀ {P:List Str}{vs:List Value}{i:Nat}{m:Str->Option Value},P.Nodup->P[i]?=some x->vs[i]?=some v->kindOf x≠some .local ->
  bindC kindOf (P.zip vs) m x=some v
 | [],_,_,_,_,h,_,_=>by simp at h
 | _::_,[],_,_,_,_,h,_=>by simp at h
 | p::P,w::vs,0,m,nd,h1,h2,hk=>by simp at h1 h2;subst h1;subst h2;show bindC kindOf ((p,w)::P.zip vs) m p=_;unfold bindC;rw [ykR fun v hv=>(List.nodup_cons.mp nd).1 (of_mem_zip hv).1,if_neg hk];simp
 | p::P,w::vs,i+1,m,nd,h1,h2,hk=>by show bindC kindOf ((p,w)::P.zip vs) m x=_;unfold bindC;exact ykT (i:=i) (List.nodup_cons.mp nd).2 (by simpa using h1) (by simpa using h2) hk
def start (N:List Str) (vs:List V):St:=vs.map some++replicate (N.length-vs.length) none
noncomputable def yti (CX:CXT) (P:Program) (w:World) (K:PySem.W.Frag) (mg:Str->Option Value) (base:Heap) (N:List Str) (qual:Str) (scope:Scope) (f:Addr) (cd:Value) (A:Around) (outer:List Env) (s:Shared) (H:Hp) (E:XK):Cx where
 prog:=P
 w:=w
 K:=K
 mg:=mg
 base:=base
 A:=A.deeper (envOfC qual scope s.heap.objs.size f cd)
 N:=N
 s₀:=s
 H₀:=H
 env:=envOfC qual scope s.heap.objs.size f cd
 outer:=outer
 stack:=envOfC qual scope s.heap.objs.size f cd::outer
 ex:=[]
 calm:=true
 fn:=fun _=>true
 pn:=[]
 xe:=fun e s'=>wpAny (model P w) (A.deeper (envOfC qual scope s.heap.objs.size f cd)) (leaving (envOfC qual scope s.heap.objs.size f cd) e) (fun _ s''=>CX outer H s E e s'') (fun e' s''=>CX outer H s E e' s'') s'
def ynU {sc:Scope}(h:sc.names.lookup x=some .cell):∃ c,(cellsFrom n sc.names []).lookup x=some c:=by have q:=PySem.W.cellsFrom_some sc.names n [] (.inl h);exact Option.isSome_iff_exists.mp q
def yqo {CX:CXT}{P:Program}{w:World}{K:PySem.W.Frag}{mg:Str->Option Value}{base:Heap}{N ps:List Str}{qual:Str}{scope:Scope}{f:Addr}{cd:Value}{A:Around}{outer:List Env}{s s1:Shared}{H:Hp}{E:XK}{us:List Value}{vs:List V}
  (S:yel N ps scope) (hd:A.handled=none) (e0:Env0 P w K mg base A outer s H) (hl:vs.length=ps.length) (r:Vals vs us)
  (x:InCallC s s.heap.objs.size (bindL (envOfC qual scope s.heap.objs.size f cd).kindOf (ps.zip us) fun _=>none) (cellsFrom (s.heap.objs.size+1) scope.names []) (bindC (envOfC qual scope s.heap.objs.size f cd).kindOf (ps.zip us) fun _=>none) s1) :
  Inv (yti CX P w K mg base N qual scope f cd A outer s H E) [] (start N vs) H s1:=by
 have hpl:ps.length<=N.length:=by have:=congrArg length S.pre;rw [length_take] at this;omega
 obtain ⟨h1,tk,rfl,hk⟩:=x.done;have noA:∀ b:Addr,b∉(yti CX P w K mg base N qual scope f cd A outer s H E).ex:=fun b z=>absurd (show b∈([]:List Addr) from z) (by simp)
 refine ⟨⟨e0.mod,S.kind,rfl,rfl,Nat.le_refl _,fun y z c h1 h2=>?_,fun y hy=>?_,fun y c _ h=>?_,fun _=>hd,Around.frames_deeper e0.frames,.inr ⟨rfl,rfl⟩,fun b z=>absurd z (noA b),e0.bs,e0.bsz,fun b _ _=>noA b,fun b z=>absurd z (noA b),e0.funs,e0.frf⟩,
  rfl,e0.bare,Un.kept hk,⟨_,x.toInCall.ns,fun i y v h1 h2 h3=>?_⟩,fun y c h=>⟨_,x.cell y c h⟩,e0.hok.fresh (Nat.le_refl _),fun y c h=>?_,fun p hp=>absurd (show p∈([]:List (Addr×Obj)) from hp) (by simp),e0.hok.kept hk,?_⟩
 .exact name_of_addr x.apart (PySem.mem_of_lookup h1) (PySem.mem_of_lookup h2)
 .have hy:scope.names.lookup y=some .cell\/scope.names.lookup y=some .free:=hy;rcases hy with hy|hy
  .exact ynU hy
  .exact absurd rfl (S.nofree _ (PySem.mem_of_lookup hy))
 .exact le_of_lt (x.above y c (PySem.mem_of_lookup h))
 .have hi:i<vs.length:=by
   unfold start at h2
   by_cases hi:i<vs.length
   .exact hi
   .rw [getElem?_append_right (by simpa using hi)] at h2;rw [getElem?_replicate] at h2;split at h2<;>cases h2
  have ha:vs[i]?=some v:=by
   unfold start at h2;rw [getElem?_append_left (by simpa using hi),getElem?_map] at h2;cases e:vs[i]? with
   | none=>rw [e] at h2;cases h2
   | some a=>rw [e] at h2;cases h2;rfl
  obtain ⟨u,hu,rv⟩:=r.get ha;have hp:ps[i]?=some y:=by rw [<- S.pre,List.getElem?_take_of_lt (by omega)];exact h1
  have ndP:ps.Nodup:=by rw [<- S.pre];exact S.nd.sublist (List.take_sublist _ _)
  refine ⟨u,rv,?_⟩;rcases S.par y (mem_of_getElem? hp) with k|k
  .exact .inl ⟨k,ykS ndP hp hu k⟩
  .obtain ⟨c,e⟩:=ynU (n:=s.heap.objs.size+1) k;refine .inr ⟨.inl k,c,e,?_⟩;have q:=x.cell y c e;rw [ykT ndP hp hu (by show scope.names.lookup y≠_;rw [k];decide)] at q;exact q
 .exact e0.hok.fresh (le_of_lt (x.above y c (PySem.mem_of_lookup h)))
 .unfold start;show _=N.length;rw [length_append,length_map,List.length_replicate];omega
def yCI {K:PySem.W.Frag}{dV kV doc pm cdv ct oc:Value}
  (lk:K.lookup f=some ⟨oc,od,.func (fnOf name qual params body scope dV kV doc pm an cdv ct),osl⟩) (hcd:codeIn K cdv qual=true) (S:yel N ps scope)
  (len:∀ vs H Q E,sp vs H Q E->vs.length=ps.length)
  (hbody:∀ (A:Around) (outer:List Env) (s:Shared) (H:Hp) (vs:List V) (Q:VK) (E:XK),Room k (A.deeper (envOfC qual scope s.heap.objs.size f cdv))->sp vs H Q E ->
   ∃ t,PSs (yti CX P w K mg base N qual scope f cdv A outer s H E) body t/\t { nx:=fun _ H'=>Q .non H',rt:=Q } (start N vs) H) :
  FnOk P w K mg base CX (k+1) f (fnOf name qual params body scope dV kV doc pm an cdv ct) ps sp:=by
 refine ⟨len,fun A outer s H args us vs Q E hr e0 hb r hsp=>?_⟩;have hl:=len _ _ _ _ hsp;have KX:K.In s.heap:=e0.mod.kin.keeps fun b o e=>(e0.bs b o e).1
 have lim:s.heap.NoLimit:=e0.mod.nolimit.keeps fun b o e=>(e0.bs b o e).1
 have hkind:∀ y∈ps.zip us,scope.names.lookup y.1=some .local \/ (scope.names.lookup y.1=some .cell/\((cellsFrom (s.heap.objs.size+1) scope.names []).lookup y.1).isSome=true):=fun ⟨n,v⟩ hy=>by
  rcases S.par n (of_mem_zip hy).1 with q|q
  .exact .inl q
  .exact .inr ⟨q,PySem.W.cellsFrom_some _ _ _ (.inl q)⟩
 refine codeAny_call_function hr.depth (KX _ _ lk) rfl S.co S.gen rfl (PySem.W.codeRec_of KX hcd) (hb _ _ _ _ ?_);refine wpAny_newFunctionEnv_cells S.kind hkind fun env he s1 x=>?_
 subst he;refine ⟨lim.keeps x.toInCall.keep,codeAny_func ?_⟩;obtain ⟨t,ht,hq⟩:=hbody A outer s H vs Q E (hr.deeper _) hsp;have I:Inv (yti CX P w K mg base N qual scope f cdv A outer s H E) [] (start N vs) H s1:=yqo S hr.hd e0 hl r x;refine wpAny_mono (ht [] s1 (start N vs) H _ I hq) (fun fl s' hs=>?_) fun e s' hs=>hs
 have fin:∀ {Z':St}{H':Hp}{v:V}{u:Value},Inv (yti CX P w K mg base N qual scope f cdv A outer s H E) [] Z' H' s'->RelV v u->Q v H'->CE outer P w H s Q u s' :=
  fun {Z' H' v u} J rv q=>⟨v,H',J.os,J.bare,J.base,J.hok,rv,q⟩
 cases fl with
 | ret u =>
  obtain ⟨v,Z',H',J,rv,q⟩:=hs;exact fin J rv q
 | next =>
  obtain ⟨Z',H',J,q⟩:=hs;exact fin (v:=V.non) (u:=Value.none) J rfl q
 | brk =>
  obtain ⟨_,_,_,q⟩:=hs;exact False.elim q
 | cont =>
  obtain ⟨_,_,_,q⟩:=hs;exact False.elim q
section
variable {X:Cx}{x:Str}{p pos:Pos}{e:Expr}{es:List Expr}{t:TA}{id T:String}{r:List V->Hp->VK->Prop}
def tCB (r:List V->Hp->VK->Prop) (t:TA):TE:=fun Z H Q=>t Z H fun vs H1=>r vs H1 Q
def yjr (hc:yfz X (.builtin id) r) (hg:Gl X x) (hm:X.mg x=none) (hv:bootBuiltins x=some (.builtin id)) (ha:PA X (e::es) t) (hn:x≠"__name__":=by decide) (hdb:(x == ("__debug__":Str))=false:=by decide)
  (he:starEach (e::es) X.env=(false,eval e X.env)::starEach es X.env:=by rfl) (hpl:(backTo pos (starEach es X.env)).any (·.1)=false:=by rfl):PE X (.Call (.Name x p) (e::es) [] pos) (tCB r t):=by
 intro pins s Z H Q I h;refine wpAny_Call_Name_kw (yiM I hg hm hv ?_ hn hdb);exact PyProof.Rows.callWith_builtin1 (thn (ha pos pins s Z H _ I h) fun us s1 ⟨vs,H1,I1,r1,q1⟩=>hc pins s1 Z H1 vs us Q I1 r1 q1) he hpl
def ykU (hc:yfz X (.type T) r) (hg:Gl X x) (hm:X.mg x=none) (hv:bootBuiltins x=some (.type T)) (ha:PA X (e::es) t) (hn:x≠"__name__":=by decide) (hdb:(x == ("__debug__":Str))=false:=by decide)
  (he:starEach (e::es) X.env=(false,eval e X.env)::starEach es X.env:=by rfl) (hpl:(backTo pos (starEach es X.env)).any (·.1)=false:=by rfl):PE X (.Call (.Name x p) (e::es) [] pos) (tCB r t):=by
 intro pins s Z H Q I h;refine wpAny_Call_Name_kw (yiM I hg hm hv ?_ hn hdb);exact PyProof.Rows.callWith_type1 (thn (ha pos pins s Z H _ I h) fun us s1 ⟨vs,H1,I1,r1,q1⟩=>hc pins s1 Z H1 vs us Q I1 r1 q1) he hpl
end
end L2
namespace HT
open PySem PyProof.Rows
section
open PySem.SeqAt
open PySem.AutoSeq1 (wpAny_loadPart')
open PySem.MeetsSeq PySem.MeetsSeq2 PySem.MeetsSeq3
end
section
variable {prog:Program}{w:World}{A:Around}{E:Value->Shared->Prop}{s:Shared}
def sIx (n d:Nat):Option Int->Nat
 | none=>d
 | some v=>if v<0 then (v+(n:Int)).toNat else min v.toNat n
def sIx_none (n d:Nat):sIx n d none=d:=rfl
def sIx_nat (n d k:Nat):sIx n d (some (k:Int))=min k n:=by show (if (k:Int)<0 then ((k:Int)+(n:Int)).toNat else min (k:Int).toNat n)=min k n;rw [if_neg (by omega),Int.toNat_natCast]
end
end HT
namespace L2
open PySem PySem.Spec PyProof.Rows
abbrev TO:=St->Hp->(Option Int->Hp->Prop)->Prop
noncomputable def PO (X:Cx) (e:Option Expr) (t:TO):Prop :=
 ∀ (pins:List (Addr×Obj)) (s:Shared) (Z:St) (H:Hp) (Q:Option Int->Hp->Prop),Inv X pins Z H s->t Z H Q ->
  wpAny (model X.prog X.w) X.A (evalPart e X.env) (fun u s'=>∃ o H',Inv X pins Z H' s'/\IsPart u o/\Q o H') X.xe s
def yqp:TO:=fun _ H Q=>Q none H
def yzS (t:TE):TO:=fun Z H Q=>t Z H fun x H1=>∃ i,x=.int i/\Q (some i) H1
def intsAre_of {ns:List Int}:∀ {us:List Value},Vals (ns.map V.int) us->IntsAre us ns:=by
 induction ns with
 | nil=>intro us r;rw [map_nil] at r;cases r;exact .nil
 | cons n ns ih =>
  intro us r;rw [map_cons] at r;cases r with
  | cons r1 r2 =>
   obtain ⟨t,e⟩:=r1;subst e;exact .cons n t (ih r2)
section
variable {X:Cx}{e:Expr}{te:TE}{lo hi:Option Expr}{tl th:TO}{pos p2:Pos}
def ywO:PO X none yqp:=by intro pins s Z H Q I h;rw [evalPart_none];exact wpAny_pure ⟨none,H,I,.none,h⟩
def ywP (h:PE X e te):PO X (some e) (yzS te):=by
 intro pins s Z H Q I hw;rw [evalPart_some];refine thn (h pins s Z H _ I hw) fun u s1 ⟨x,H1,I1,r1,q1⟩=>?_
 obtain ⟨i,rfl,q⟩:=q1;obtain ⟨t,rfl⟩:=r1;exact ⟨some i,H1,I1,.int i t,q⟩
def SlR (X:Cx) (r:V->Option Int->Option Int->Hp->VK->Prop):Prop :=
 ∀ (pins:List (Addr×Obj)) (s:Shared) (Z:St) (H:Hp) (x:V) (v vl vu:Value) (lo hi:Option Int) (sl:Addr) (Q:VK),Inv X pins Z H s->RelV x v->s.heap.IsSliceOf sl vl vu .none->IsPart vl lo->IsPart vu hi->r x lo hi H Q ->
  ∃ T id,typeLookup (.type T) "__getitem__" = pure (some (.builtin id))/\s.TypeIs v T/\wpAny (model X.prog X.w) X.A (getItem v (.ref sl)) (EP X pins Z Q) X.xe s
noncomputable def tSl (r:V->Option Int->Option Int->Hp->VK->Prop) (te:TE) (tl th:TO):TE:=fun Z H Q=>te Z H fun x H1=>tl Z H1 fun l H2=>th Z H2 fun u H3=>r x l u H3 Q
def ytj (hr:SlR X r) (he:PE X e te) (hl:PO X lo tl) (hu:PO X hi th):PE X (.Subscript e (.Slice lo hi none p2) pos) (tSl r te tl th):=by
 intro pins s Z H Q I h;refine Subscript_ (thn (he pins s Z H _ I h) fun v s1 ⟨x,H1,I1,r1,q1⟩=>?_);refine wpAny_Slice (thn (hl pins s1 Z H1 _ I1 q1) fun vl s2 ⟨l,H2,I2,pl,q2⟩=>thn (hu pins s2 Z H2 _ I2 q2) fun vu s3 ⟨u,H3,I3,pu,q3⟩=>?_);rw [evalPart_none];refine wpAny_pure ?_;have I4:Inv X pins Z H3 { s3 with heap:=s3.heap.push { cls:=.type "slice",data:=.fields #[vl,vu,.none] } }:=I3.kept (t':=s3.toks) fun b ob q=>Heap.get?_push_of_some _ q
 obtain ⟨T,id,hT,ht,hg⟩:=hr pins { s3 with heap:=s3.heap.push { cls:=.type "slice",data:=.fields #[vl,vu,.none] } } Z H3 x v vl vu l u s3.heap.objs.size Q I4 r1 (Heap.IsSliceOf.new ..) pl pu q3;show wpAny (model X.prog X.w) X.A (subscriptTail e (.Slice lo hi none p2) v (.ref s3.heap.objs.size)) (EP X pins Z Q) X.xe { s3 with heap:=s3.heap.push { cls:=.type "slice",data:=.fields #[vl,vu,.none] } };exact tail_any (ops:=[.ref s3.heap.objs.size,v]) ht hT hg (by with_unfolding_all rfl)
noncomputable def yzT (xs:List V) (lo hi:Option Int):List V:=(xs.drop (HT.sIx xs.length 0 lo)).take (HT.sIx xs.length xs.length hi-HT.sIx xs.length 0 lo)
def ymA (xs:List V) (lo hi:Option Int):(yzT xs lo hi).length<=xs.length:=by unfold yzT;rw [length_take,length_drop];omega
end
noncomputable def ixN (n:Nat) (i:Int):Option Nat:=if 0<=i then (if i<n then some i.toNat else none) else if -(n:Int)<=i then some (i+n).toNat else none
def atI {Z:Type}(xs:List Z) (i:Int):Option Z:=(ixN xs.length i).bind fun j=>xs[j]?
def yqq (h:ixN n i=some j):seqIndex? i n=some j/\j<n/\-(n:Int)<=i/\i<n:=by
 unfold ixN at h
 by_cases h0:0<=i
 .rw [if_pos h0] at h
  by_cases h1:i<n
  .rw [if_pos h1] at h;have e:i.toNat=j:=Option.some.inj h;exact ⟨by rw [seqIndex_of h0 h1,e],by omega,by omega,h1⟩
  .rw [if_neg h1] at h;cases h
 .rw [if_neg h0] at h
  by_cases h1:-(n:Int)<=i
  .rw [if_pos h1] at h;have e:(i+n).toNat=j:=Option.some.inj h;exact ⟨by rw [seqIndex_neg (by omega) h1,e],by omega,h1,by omega⟩
  .rw [if_neg h1] at h;cases h
def ymB {Z:Type}{xs:List Z}{i:Int}{v:Z}(h:atI xs i=some v):∃ j,seqIndex? i xs.length=some j/\xs[j]?=some v/\j<xs.length/\-(xs.length:Int)<=i/\i<xs.length:=by
 unfold atI at h;cases e:ixN xs.length i with
 | none=>rw [e] at h;cases h
 | some j =>
  rw [e] at h;obtain ⟨h1,h2,h3,h4⟩:=yqq e;exact ⟨j,h1,h,h2,h3,h4⟩
def ydp {Z:Type}{xs:List Z}{j:Nat}{v:Z}(h:xs[j]?=some v):atI xs (j:Int)=some v:=by
 have hj:j<xs.length:=(List.getElem?_eq_some_iff.mp h).1;have e:ixN xs.length (j:Int)=some j:=by unfold ixN;rw [if_pos (by omega),if_pos (by omega)];simp
 unfold atI;rw [e];exact h
def yqr (b:Expr):Prop:=∀ o i,subscripted b false o i=operate [o,i] (getItem o i)
def IxR (X:Cx) (r:R2):Prop :=
 ∀ (value slice:Expr) (pins:List (Addr×Obj)) (s:Shared) (Z:St) (H:Hp) (x y:V) (v u:Value) (Q:VK),Inv X pins Z H s->RelV x v->RelV y u->r x y H Q ->
  subscripted slice false v u=operate [v,u] (getItem v u)->wpAny (model X.prog X.w) X.A (subscriptTail value slice v u) (EP X pins Z Q) X.xe s
def MtR (X:Cx) (id:String) (r:V->List V->Hp->VK->Prop):Prop :=
 ∀ (pins:List (Addr×Obj)) (s:Shared) (Z:St) (H:Hp) (x:V) (xs:List V) (v:Value) (us:List Value) (Q:VK),Inv X pins Z H s->RelV x v->Vals xs us->r x xs H Q ->
  wpAny (model X.prog X.w) X.A (call (.builtin id) (v::us)) (EP X pins Z Q) X.xe s
section
variable {X:Cx}{a b:Expr}{ta tb:TE}{pos:Pos}
def yCJ (hr:IxR X r) (ha:PE X a ta) (hb:PE X b tb) (hs:yqr b):PE X (.Subscript a b pos) (tOp r ta tb):=by intro pins s Z H Q I h;exact Subscript_ (yCD ha hb I h fun v u s2 x y H2 I2 rx ry q=>hr a b pins s2 Z H2 x y v u Q I2 rx ry q (hs _ _))
def yEC (K:PySem.W.Frag):R2:=fun x y H Q=>∃ p xs i v,x=.ref p/\y=.int i/\SqL K H p xs/\atI xs i=some v/\Q v H
def yED (K:PySem.W.Frag):R2:=fun x y H Q=>∃ p xs i v,x=.ref p/\y=.int i/\SqT K H p xs/\atI xs i=some v/\Q v H
def yEE:R2:=fun x y H Q=>∃ z i c,x=.str z/\y=.int i/\z.length<=sizeLine/\atI z.cps.toList i=some c/\Q (.str ⟨#[c]⟩) H
def yQ:IxR X (yEC X.K):=by
 intro value slice pins s Z H x y v u Q I rx ry h hs;obtain ⟨p,xs,i,z,rfl,rfl,hq,he,q⟩:=h;cases rx;obtain ⟨t,rfl⟩:=ry;obtain ⟨its,r,pl,hz⟩:=I.list hq;obtain ⟨j,h1,h2,h3,h4,h5⟩:=ymB he;obtain ⟨w,ew,rw'⟩:=r.get h2;have hl:=r.length;have hn:=yiN;have fin:EP X pins Z Q w s:=⟨z,H,I,rw',q⟩
 by_cases h0:0<=i
 .have hj:i.toNat=j:=by rw [seqIndex_of h0 h5] at h1;exact Option.some.inj h1
  exact item_listR pl.isList h0 (by omega) (by rw [hj];simpa using ew) fin hs
 .have hj:(i+(its.toArray.size:Int)).toNat=j:=by rw [seqIndex_neg (by omega) h4] at h1;rw [size_toArray,<- hl];exact Option.some.inj h1
  exact subscriptTail_builtinR (x:=w) pl.isList.typeIs slot_list_getitem.lookup
   (wpAny_getItem_list_neg (Q:=fun r s'=>r=w/\EP X pins Z Q r s') pl.isList (by omega) (by rw [size_toArray]<;>omega) (by omega) (by rw [hj];simpa using ew) ⟨rfl,fin⟩) hs
def yG:IxR X (yED X.K):=by
 intro value slice pins s Z H x y v u Q I rx ry h hs;obtain ⟨p,xs,i,z,rfl,rfl,hq,he,q⟩:=h;cases rx;obtain ⟨t,rfl⟩:=ry;obtain ⟨its,r,pl,hz⟩:=I.tuple hq;obtain ⟨j,h1,h2,h3,h4,h5⟩:=ymB he;obtain ⟨w,ew,rw'⟩:=r.get h2;have hl:=r.length;have hn:=yiN;have fin:EP X pins Z Q w s:=⟨z,H,I,rw',q⟩
 exact subscriptTail_builtinR (x:=w) pl.typeIs slot_tuple_getitem.lookup
  (getItem_tuple (j:=j) (Q:=fun r s'=>r=w/\EP X pins Z Q r s') pl (by omega) (by omega) (by rw [size_toArray,<- hl];exact h1) (by simpa using ew) ⟨rfl,fin⟩) hs
def yzU:IxR X yEE:=by
 intro value slice pins s Z H x y v u Q I rx ry h hs;obtain ⟨z,i,c,rfl,rfl,hz,he,q⟩:=h;obtain ⟨t,rfl⟩:=rx;obtain ⟨t',rfl⟩:=ry;obtain ⟨j,h1,h2,h3,h4,h5⟩:=ymB he;have hl:z.cps.toList.length=z.length:=by simp [Str.length]
 rw [hl] at h1 h4 h5;have hn:=yiN;exact tail_any (typeIs_str s z t) slot_str_getitem.lookup (getItem_str (c:=c) (by have e1:decide (i < -(2 ^ 63:Int))=false:=decide_eq_false (by omega);have e2:decide (i>=2 ^ 63)=false:=decide_eq_false (by omega);rw [e1,e2,Bool.or_false]) (by rw [h1];simpa using h2) ⟨.str ⟨#[c]⟩,H,I.tok _,⟨_,rfl⟩,q⟩) hs
def ypc (its:List Value) (n j:Nat) (u:Value):Obj.mapSeq (·.setIfInBounds j u) { cls:=.type "list",data:=.seq its.toArray n }={ cls:=.type "list",data:=.seq (its.set j u).toArray n }:=by simp [Obj.mapSeq]
theorem Inv.lst {pins:List (Addr×Obj)}{Z:St}{H:Hp}{s:Shared}{p:Addr}{xs:List V}(I:Inv X pins Z H s) (h:H p=some (.lst xs)) :
  ∃ (its:List Value) (n:Nat),Vals xs its/\s.heap.get? p=some { cls:=.type "list",data:=.seq its.toArray n }/\xs.length<=sizeLine:=by
 obtain ⟨z,its,n,r,e⟩:=I.hok p _ h;exact ⟨its,n,r,e,z⟩
def Inv.lstUpd {pins:List (Addr×Obj)}{Z:St}{H:Hp}{s:Shared}{p:Addr}{xs ys:List V}{its its':List Value}{n n':Nat}{f:Obj->Obj}(I:Inv X pins Z H s) (h:H p=some (.lst xs))
  (ho:s.heap.get? p=some { cls:=.type "list",data:=.seq its.toArray n }) (hf:f { cls:=.type "list",data:=.seq its.toArray n }={ cls:=.type "list",data:=.seq its'.toArray n' }) (r:Vals ys its') (hz:ys.length<=sizeLine) (t:Nat) :
  Inv X pins Z (upd H p (.lst ys)) { s with heap:=s.heap.update p f,toks:=t }:=by
 have e:(s.heap.update p f).get? p=some { cls:=.type "list",data:=.seq its'.toArray n' }:=by rw [Heap.get?_update_self f ho (by rw [hf]<;>rfl),hf]
 refine I.write (x:=p) (e:=p) (by rw [h];trivial) (.inl rfl) (fun b u hb q=>(Heap.get?_update_other _ _ (Ne.symm hb)).trans q) ⟨_,e⟩ ?_;exact ⟨hz,its',n',r,e⟩
def yzV:V->V->V->Hp->(Hp->Prop)->Prop:=fun o i v H Q=>∃ p xs k j,o=.ref p/\i=.int k/\H p=some (.lst xs)/\ixN xs.length k=some j/\Q (upd H p (.lst (xs.set j v)))
def set_list:yEt X yzV:=by
 intro pins s Z H o i v ov iv u Q I ro ri rv h;obtain ⟨p,xs,k,j,rfl,rfl,hp,hj,q⟩:=h;cases ro;obtain ⟨t,rfl⟩:=ri;obtain ⟨its,n,r,ho,hz⟩:=I.lst hp;obtain ⟨h1,h2,h3,h4⟩:=yqq hj;have hl:=r.length;have hn:=yiN;have I':Inv X pins Z (upd H p (.lst (xs.set j v))) { s with heap:=s.heap.update p (Obj.mapSeq (·.setIfInBounds j u)) } :=
  I.lstUpd hp ho (ypc its n j u) (r.set rv j) (by rw [length_set];exact hz) s.toks
 by_cases h0:0<=k
 .have hk:k.toNat=j:=by rw [seqIndex_of h0 h4] at h1;exact Option.some.inj h1
  exact PySem.W.ki_setAt ho h0 (by omega) (by rw [size_toArray,<- hl];exact h4) (by rw [hk];exact ⟨_,I',q⟩)
 .have hk:(k+(its.toArray.size:Int)).toNat=j:=by rw [seqIndex_neg (by omega) h3] at h1;rw [size_toArray,<- hl];exact Option.some.inj h1
  exact PySem.W.ki_setBack ho (by omega) (by rw [size_toArray,<- hl];exact h3) (by omega) (by rw [hk];exact ⟨_,I',q⟩)
def ykV (lo hi:Option Int) (n:Nat):(sliceBounds lo hi none n).1=((HT.sIx n 0 lo:Nat):Int)/\(sliceBounds lo hi none n).2.1=((HT.sIx n n hi:Nat):Int)/\(sliceBounds lo hi none n).2.2=1:=by
 refine ⟨?_,?_,rfl⟩
 .cases lo with
  | none=>simp [sliceBounds,HT.sIx]
  | some i =>
   simp only [sliceBounds,HT.sIx,Option.getD_none,show (1:Int)>0 by decide,if_true]
   by_cases h:i<0
   .simp only [h,if_true]<;>omega
   .simp only [h,if_false]<;>omega
 .cases hi with
  | none=>simp [sliceBounds,HT.sIx]
  | some i =>
   simp only [sliceBounds,HT.sIx,Option.getD_none,show (1:Int)>0 by decide,if_true]
   by_cases h:i<0
   .simp only [h,if_true]<;>omega
   .simp only [h,if_false]<;>omega
def yjs (its:List Value) (lo hi:Option Int):slicePick its.toArray lo hi none=((its.drop (HT.sIx its.length 0 lo)).take (HT.sIx its.length its.length hi-HT.sIx its.length 0 lo)).toArray:=by obtain ⟨h1,h2,h3⟩:=ykV lo hi its.toArray.size;unfold slicePick;rw [h1,h2,h3];simp only [sliceRange_one,pick_run,size_toArray]<;>rfl
def yEF (K:PySem.W.Frag):V->Option Int->Option Int->Hp->VK->Prop:=fun x lo hi H Q=>∃ a xs,x=.ref a/\SqL K H a xs/\∀ p,H p=none->Q (.ref p) (upd H p (.lst (yzT xs lo hi)))
def yeJ:SlR X (yEF X.K):=by intro pins s Z H x v vl vu lo hi sl Q I rx hs pl pu h;obtain ⟨a,xs,rfl,hx,q⟩:=h;cases rx;obtain ⟨its,r,ht,hz⟩:=I.list hx;have hlen:=r.length;refine ⟨"list",_,slot_list_getitem.lookup,ht.isList.typeIs,?_⟩;refine wpAny_getItem_list_slice ht.isList hs pl pu .none (by simp) ?_ (by rw [size_toArray]<;>omega);rw [yjs,<- hlen];refine ⟨.ref s.heap.objs.size,_,I.laid (t':=s.toks) (o:=.lst (yzT xs lo hi)) (fun b ob q=>Heap.get?_push_of_some _ q) (Nat.le_refl _) ?_,rfl,q _ (I.hok.fresh (Nat.le_refl _))⟩;exact ⟨Nat.le_trans (ymA xs lo hi) hz,_,0,(r.drop (HT.sIx xs.length 0 lo)).take (HT.sIx xs.length xs.length hi-HT.sIx xs.length 0 lo),Heap.get?_push_size _ rfl⟩
def yfV:V->Bool
 | .non=>true
 | .bl _=>true
 | .int _=>true
 | .str _=>true
 | _=>false
noncomputable def eqV:V->V->Bool
 | .non,.non=>true
 | .bl a,.bl b=>a == b
 | .bl a,.int b=>(if a then 1 else 0) == b
 | .int a,.bl b=>a == (if b then 1 else 0)
 | .int a,.int b=>a == b
 | .str a,.str b=>a == b
 | _,_=>false
def eqAt_V (ry:RelV y u) (rx:RelV x v) (fy:yfV y=true) (fx:yfV x=true):SeqAt.EqAt A s u v (eqV y x):=by
 cases y with
 | non =>
  cases ry;cases x with
  | non=>cases rx;exact SeqAt.EqAt.same _
  | bl b=>cases rx;exact SeqAt.EqAt.none_bool b
  | int b=>obtain ⟨t,rfl⟩:=rx;exact SeqAt.EqAt.none_int b t
  | str b=>obtain ⟨t,rfl⟩:=rx;exact SeqAt.EqAt.none_str b t
  | _=>exact absurd (show false=true from fx) Bool.false_ne_true
 | bl a =>
  cases ry;cases x with
  | non=>cases rx;exact SeqAt.EqAt.bool_none a
  | bl b=>cases rx;exact SeqAt.EqAt.bool_bool a b
  | int b=>obtain ⟨t,rfl⟩:=rx;exact SeqAt.EqAt.bool_int a b t
  | str b=>obtain ⟨t,rfl⟩:=rx;exact SeqAt.EqAt.bool_str a b t
  | _=>exact absurd (show false=true from fx) Bool.false_ne_true
 | int a =>
  obtain ⟨t',rfl⟩:=ry;cases x with
  | non=>cases rx;exact SeqAt.EqAt.int_none a t'
  | bl b=>cases rx;exact SeqAt.EqAt.int_bool a t' b
  | int b=>obtain ⟨t,rfl⟩:=rx;exact SeqAt.EqAt.int_int a t' b t
  | str b=>obtain ⟨t,rfl⟩:=rx;exact SeqAt.EqAt.int_str a t' b t
  | _=>exact absurd (show false=true from fx) Bool.false_ne_true
 | str a =>
  obtain ⟨t',rfl⟩:=ry;cases x with
  | non=>cases rx;exact SeqAt.EqAt.str_none a t'
  | bl b=>cases rx;exact SeqAt.EqAt.str_bool a t' b
  | int b=>obtain ⟨t,rfl⟩:=rx;exact SeqAt.EqAt.str_int a t' b t
  | str b=>obtain ⟨t,rfl⟩:=rx;exact SeqAt.EqAt.str_str a t' b t
  | _=>exact absurd (show false=true from fx) Bool.false_ne_true
 | _=>exact absurd (show false=true from fy) Bool.false_ne_true
def eqU (x:V) (u:Value):Bool:=match u with
 | .none=>eqV .non x
 | .bool b=>eqV (.bl b) x
 | .int i _=>eqV (.int i) x
 | .str z _=>eqV (.str z) x
 | _=>false
def yvA (r:RelV y u) (f:yfV y=true):eqU x u=eqV y x:=by
 cases y with
 | non=>cases r;rfl
 | bl b=>cases r;rfl
 | int i=>obtain ⟨t,rfl⟩:=r;rfl
 | str z=>obtain ⟨t,rfl⟩:=r;rfl
 | _=>exact absurd (show false=true from f) Bool.false_ne_true
theorem ymC:∀ {xs:List V}{us:List Value},Vals xs us->xs.all yfV=true->us.any (eqU x)=xs.any fun y=>eqV y x
 | _,_,.nil,_=>rfl
 | y::xs,u::us,.cons r t,f=>by rw [List.all_cons,and_eq_true] at f;rw [any_cons,any_cons,yvA r f.1,ymC t f.2]
theorem yjt {A:Around}{s:Shared}{x:V}{v:Value}(rx:RelV x v) (fx:yfV x=true):∀ {xs:List V}{us:List Value},Vals xs us->xs.all yfV=true->∀ u∈us,SeqAt.EqAt A s u v (eqU x u)
 | _,_,.nil,_=>fun u hu=>by cases hu
 | y::xs,u::us,.cons r t,f=>fun u' hu=>by
  rw [List.all_cons,and_eq_true] at f;rcases mem_cons.mp hu with rfl|hu
  .rw [yvA r f.1];exact eqAt_V r rx f.1 fx
  .exact yjt rx fx t f.2 u' hu
def inV (x:V) (xs:List V):Bool:=xs.any fun y=>eqV y x
def rIn (K:PySem.W.Frag) (neg:Bool):R2:=fun x y H Q=>∃ p xs,y=.ref p/\(SqL K H p xs\/SqT K H p xs)/\yfV x=true/\xs.all yfV=true/\Q (.bl (if neg then !inV x xs else inV x xs)) H
def yqs:OpR X (compareOp .In) (rIn X.K false):=by
 intro pins s Z H x y v u Q I rx ry h;obtain ⟨p,xs,rfl,hq,fx,fs,q⟩:=h;cases ry;rcases hq with hq|hq
 .obtain ⟨its,r,pl,hz⟩:=I.list hq;refine SeqAt.in_listAt (eqU x) pl.isList (fun w hw=>yjt rx fx r fs w (by simpa using hw)) ⟨.bl _,H,I,rfl,?_⟩;rw [show its.toArray.any (eqU x)=its.any (eqU x) by simp,ymC r fs];exact q
 .obtain ⟨its,r,pl,hz⟩:=I.tuple hq;refine SeqAt.in_tupleAt (eqU x) pl (fun w hw=>yjt rx fx r fs w (by simpa using hw)) ⟨.bl _,H,I,rfl,?_⟩;rw [show its.toArray.any (eqU x)=its.any (eqU x) by simp,ymC r fs];exact q
def yA:yfz X (.builtin "len") (fun xs H Q=>∃ p ys,xs=[.ref p]/\(SqL X.K H p ys\/SqT X.K H p ys)/\Q (.int ys.length) H):=by
 intro pins s Z H xs us Q I r h;obtain ⟨p,ys,rfl,hq,q⟩:=h;obtain ⟨u,rfl,rx⟩:=vals1 r;cases rx;have hn:=yiN;rcases hq with hq|hq
 .obtain ⟨its,r',pl,hz⟩:=I.list hq;have hlen:=r'.length;exact Calls.call_len_list pl.isList (by simp only [size_toArray]<;>omega) ⟨.int ys.length,H,I.tok _,⟨s.toks+1,by rw [size_toArray,hlen]⟩,q⟩
 .obtain ⟨its,r',pl,hz⟩:=I.tuple hq;have hlen:=r'.length;exact len_tuple pl (by simp only [size_toArray]<;>omega) ⟨.int ys.length,H,I.tok _,⟨s.toks+1,by rw [size_toArray,hlen]⟩,q⟩
def ydM:yfz X (.builtin "len") (fun xs H Q=>∃ z,xs=[.str z]/\z.length<=sizeLine/\Q (.int z.length) H):=by intro pins s Z H xs us Q I r h;obtain ⟨z,rfl,hz,q⟩:=h;obtain ⟨u,rfl,t,rfl⟩:=vals1 r;have hn:=yiN;exact len_str (by omega) ⟨.int z.length,H,I.tok _,⟨_,rfl⟩,q⟩
def yy:yfz X (.type "list") (fun xs H Q=>∃ p ys,xs=[.ref p]/\(SqL X.K H p ys\/SqT X.K H p ys)/\∀ l,H l=none->Q (.ref l) (upd H l (.lst ys))):=by
 intro pins s Z H xs us Q I r h;obtain ⟨p,ys,rfl,hq,q⟩:=h;obtain ⟨u,rfl,rx⟩:=vals1 r;cases rx;have fin:∀ (its:List Value),Vals ys its->ys.length<=sizeLine->∀ (h':Heap) (c':Nat),(∀ b o',s.heap.get? b=some o'->h'.get? b=some o') ->
   h'.get? s.heap.objs.size=some { cls:=.type "list",dict:=none,data:=.seq its.toArray c',slots:=#[] }->EP X pins Z Q (.ref s.heap.objs.size) { s with heap:=h' }:=fun its r' hz h' c' kp e =>
  ⟨.ref s.heap.objs.size,_,I.laid (t':=s.toks) kp (Nat.le_refl _) (show ObjOk X.prog X.w _ h' _ (.lst ys) from ⟨hz,its,c',r',e⟩),rfl,q _ (I.hok.fresh (Nat.le_refl _))⟩
 rcases hq with hq|hq
 .obtain ⟨its,r',pl,hz⟩:=I.list hq;have hlen:=r'.length;obtain ⟨o,ho,hc,n,hd⟩:=pl.isList;exact call_list_seq p (.inl rfl) ho hc hd (fun h' c' kp e=>fin its r' hz h' c' kp e) (by simp only [size_toArray]<;>omega)
 .obtain ⟨its,r',pl,hz⟩:=I.tuple hq;have hlen:=r'.length;obtain ⟨o,ho,hc,n,hd⟩:=pl;exact call_list_seq p (.inr rfl) ho hc hd (fun h' c' kp e=>fin its r' hz h' c' kp e) (by simp only [size_toArray]<;>omega)
def tyV (K:PySem.W.Frag) (T:String) (x:V) (H:Hp):Prop:=match x with
 | .str _=>T = "str"
 | .int _=>T = "int"
 | .ref p=>(T = "list"/\∃ xs,SqL K H p xs)\/(T = "tuple"/\∃ o,K.lookup p=some o/\o.cls=.type "tuple"/\o.dict=none) \/
   (T = "dict"/\((∃ kvs,H p=some (.dK kvs))\/∃ kvs,H p=some (.dT kvs)))\/(T = "set"/\∃ S n,H p=some (.set S n))
 | _=>False
def yvB {pins:List (Addr×Obj)}{Z:St}{H:Hp}{s:Shared}{T:String}{x:V}{v:Value}(I:Inv X pins Z H s) (r:RelV x v) (ty:tyV X.K T x H) :
  s.TypeIs v T/\∀ a,v=.ref a->∃ ob,s.heap.get? a=some ob/\ob.dict=none:=by
 cases x with
 | str z =>
  obtain ⟨t,rfl⟩:=r;cases (show T = "str" from ty);exact ⟨typeIs_str s z t,fun _ e=>nomatch e⟩
 | int i =>
  obtain ⟨t,rfl⟩:=r;cases (show T = "int" from ty);exact ⟨typeIs_int s i t,fun _ e=>nomatch e⟩
 | ref p =>
  cases r;rcases ty with ⟨rfl,xs,hq⟩|⟨rfl,o,hk,hc,hd⟩|⟨rfl,hk⟩|⟨rfl,S,n,hk⟩
  .obtain ⟨its,_,pl,_⟩:=I.list hq;refine ⟨pl.isList.typeIs,fun a e=>?_⟩;cases e;obtain ⟨o,n,e,c,hd,_⟩:=pl;exact ⟨o,e,hd⟩
  .refine ⟨⟨o,I.kIn p o hk,hc⟩,fun a e=>?_⟩;cases e;exact ⟨o,I.kIn _ o hk,hd⟩
  .have z:∃ o,s.heap.get? p=some o/\o.ExactDict:=by
    rcases hk with ⟨kvs,hk⟩|⟨kvs,hk⟩
    .obtain ⟨_,_,_,_,o,_,_,e,ex,_⟩:=I.hok p _ hk;exact ⟨o,e,ex⟩
    .obtain ⟨_,_,_,_,o,_,_,e,ex,_⟩:=I.hok p _ hk;exact ⟨o,e,ex⟩
   obtain ⟨o,e,ex⟩:=z;refine ⟨⟨o,e,ex.1⟩,fun a e2=>?_⟩;cases e2;exact ⟨o,e,ex.2.1⟩
  .obtain ⟨o,_,_,_,e,ex,_⟩:=I.hok p _ hk;refine ⟨⟨o,e,ex.1⟩,fun a e2=>?_⟩;cases e2;exact ⟨o,e,ex.2.1⟩
 | _=>exact False.elim ty
def yCK (K:PySem.W.Frag) (T:String) (r:V->List V->Hp->VK->Prop) (to:TE):TE:=fun Z H Q=>to Z H fun x H1=>tyV K T x H1/\r x [] H1 Q
def tBM (K:PySem.W.Frag) (T:String) (r:V->List V->Hp->VK->Prop) (to:TE) (t:TA):TE:=fun Z H Q=>to Z H fun x H1=>tyV K T x H1/\t Z H1 fun xs H2=>r x xs H2 Q
variable {o e:Expr}{es:List Expr}{to:TE}{t:TA}{name:Str}{apos cpos:Pos}{T id:String}{r:V->List V->Hp->VK->Prop}
def yvC (pa:PlainAttrs T) (slot:Slot T name id) (hty:typeOf (.builtin id)=pure (.type "method_descriptor")) (hm:MtR X id r) (ho:PE X o to)
  (hbase:attributeBase o name X.env (eval o X.env)=eval o X.env:=by rfl) (hline:(apos.endLine == cpos.line)=true:=by rfl):PE X (.Call (.Attribute o name apos) [] [] cpos) (yCK X.K T r to):=by
 intro pins s Z H Q I h;refine wpAny_Call_method0_late hbase hline (thn (ho pins s Z H _ I h) fun v s1 ⟨x,H1,I1,r1,ty,q1⟩=>?_);obtain ⟨h1,h2⟩:=yvB I1 r1 ty;exact ⟨T,id,pa,slot,hty,h1,h2,Calls.callWith_builtin rfl (PySem.evalArgs_none (hm pins s1 Z H1 x [] v [] Q I1 r1 .nil q1))⟩
def ywQ (pa:PlainAttrs T) (slot:Slot T name id) (hty:typeOf (.builtin id)=pure (.type "method_descriptor")) (hm:MtR X id r) (ho:PE X o to) (ha:PA X (e::es) t)
  (hbase:attributeBase o name X.env (eval o X.env)=eval o X.env:=by rfl)
  (hfew:((backTo cpos (starEach (e::es) X.env)).all (fun x=>!x.1) && (backToKw cpos (keywordEach [] X.env)).all (fun x=>x.1.isSome)
   && decide ((e::es).length+([]:List Keyword).length+(if ([]:List Keyword).isEmpty then 0 else 1)<30))=true:=by rfl)
  (hline:(apos.endLine == cpos.line)=true:=by rfl) (hs:starEach (e::es) X.env=(false,eval e X.env)::starEach es X.env:=by rfl) (hplain:(backTo cpos (starEach es X.env)).any (·.1)=false:=by rfl) :
  PE X (.Call (.Attribute o name apos) (e::es) [] cpos) (tBM X.K T r to t):=by
 intro pins s Z H Q I h;refine wpAny_Call_method_late hbase hfew hline rfl (thn (ho pins s Z H _ I h) fun v s1 ⟨x,H1,I1,r1,ty,q1⟩=>?_);obtain ⟨h1,h2⟩:=yvB I1 r1 ty;refine ⟨T,id,pa,slot,hty,h1,h2,?_⟩;have hA:=ha cpos pins s1 Z H1 _ I1 q1;rw [hs] at hA ⊢;refine Calls.callWith_builtin (by show (false || (backTo cpos (starEach es X.env)).any (·.1))=false;rw [hplain]<;>rfl) (Calls.evalArgs_plain ?_);exact thn hA fun us s2 ⟨vs,H2,I2,r2,q2⟩=>hm pins s2 Z H2 x vs v us Q I2 r1 r2 q2
end
def MtM (X:Cx) (id:String) (r:V->List V->Hp->VK->Prop):Prop :=
 ∀ (pins:List (Addr×Obj)) (s:Shared) (Z:St) (H:Hp) (x:V) (xs:List V) (v:Value) (us:List Value) (Q:VK),Inv X pins Z H s->RelV x v->Vals xs us->r x xs H Q ->
  wpAny (model X.prog X.w) X.A (call (.builtin id) (v::us)) (EP X pins Z Q) X.xe s
def Vals.one:∀ {x:V}{us:List Value},Vals [x] us->∃ u,us=[u]/\RelV x u
 | _,_,.cons r .nil=>⟨_,rfl,r⟩
def Vals.zero:∀ {us:List Value},Vals [] us->us=[]
 | _,.nil=>rfl
theorem Vals.dropLast (h:Vals xs us):Vals xs.dropLast us.dropLast:=by
 induction h with
 | nil=>exact .nil
 | cons r t ih =>
  cases t with
  | nil=>exact .nil
  | cons q t'=>exact .cons r ih
theorem Vals.rep (h:Vals xs us):∀ k:Nat,Vals (replicate k xs).flatten (replicate k us).flatten
 | 0=>.nil
 | k+1=>by rw [List.replicate_succ,List.replicate_succ,List.flatten_cons,List.flatten_cons];exact Vals.append h (Vals.rep h k)
def ypd {Z:Type}(l:List Z):l.eraseIdx (l.length-1)=l.dropLast:=by
 induction l with
 | nil=>rfl
 | cons a r ih =>
  cases r with
  | nil=>rfl
  | cons b r =>
   have e:(a::b::r).length-1=((b::r).length-1)+1:=by have h1:(a::b::r).length=r.length+2:=rfl;have h2:(b::r).length=r.length+1:=rfl;omega
   rw [e,List.eraseIdx_cons_succ,ih]
   all_goals rfl
theorem foldl_rep (its:List Value):∀ (k:Nat) (acc:List Value),
  List.foldl (fun x1 x2=>x1++x2) acc.toArray (replicate k its.toArray)=(acc++(replicate k its).flatten).toArray
 | 0,acc=>by simp
 | k+1,acc=>by
  have e:acc.toArray++its.toArray=(acc++its).toArray:=by simp
  have e2:(acc++its)++(replicate k its).flatten=acc++(replicate (k+1) its).flatten:=by rw [List.replicate_succ,List.flatten_cons,append_assoc]
  rw [<- e2,<- foldl_rep its k (acc++its),<- e,List.replicate_succ,List.foldl_cons]
section
variable {X:Cx}{pins:List (Addr×Obj)}{Z:St}{H:Hp}{s:Shared}{l b:Addr}{xs ys zs:List V}
def Inv.lset {its its':List Value}(I:Inv X pins Z H s) (hH:H l=some (.lst xs))
  (e:s.heap.get? l=some { cls:=.type "list",data:=.seq its.toArray n }) (hf:f its.toArray=its'.toArray) (hv:Vals ys its') (hz:ys.length<=sizeLine) :
  Inv X pins Z (upd H l (.lst ys)) { s with heap:=s.heap.update l (Obj.mapSeq f),toks:=t' }:=by
 have q:=PySem.IsL.update e f;rw [hf] at q;refine I.write (x:=l) (e:=l) (by rw [hH];exact trivial) (.inl rfl) (fun b' u hb hu=>(Heap.get?_update_other s.heap (Obj.mapSeq f) (Ne.symm hb)).trans hu) ⟨_,q⟩ ?_;exact ⟨hz,its',_,hv,q⟩
def Inv.lnew (I:Inv X pins Z H s) (hv:Vals ys its) (hz:ys.length<=sizeLine) :
  Inv X pins Z (upd H s.heap.objs.size (.lst ys)) { s with heap:=s.heap.push { cls:=.type "list",data:=.seq its.toArray },toks:=t' } :=
 I.laid (fun _ _ q=>Heap.get?_push_of_some _ q) (Nat.le_refl _) ⟨hz,its,0,hv,Heap.get?_push_size _ rfl⟩
theorem Inv.fresh (I:Inv X pins Z H s):H s.heap.objs.size=none:=I.hok.fresh (Nat.le_refl _)
def Inv.lstM (I:Inv X pins Z H s) (hH:H l=some (.lst xs)):xs.length<=sizeLine/\∃ (its:List Value) (n:Nat),Vals xs its/\xs.length=its.length/\s.heap.get? l=some { cls:=.type "list",data:=.seq its.toArray n }:=by obtain ⟨z,its,n,r,e⟩:=I.hok l _ hH;exact ⟨z,its,n,r,r.length,e⟩
def ynV (h:n<=sizeLine):Builtin.List.listTooLong n=false:=by unfold Builtin.List.listTooLong;exact decide_eq_false (by omega)
end
section
variable {X:Cx}
noncomputable def ymD:V->List V->Hp->VK->Prop:=fun x vs H Q=>∃ l xs y,x=.ref l/\vs=[y]/\H l=some (.lst xs)/\xs.length<sizeLine/\Q .non (upd H l (.lst (xs++[y])))
def ycK:MtM X "list.append" ymD:=by intro pins s Z H x vs v us Q I rx rv h;obtain ⟨l,xs,y,rfl,rfl,hH,hz,q⟩:=h;cases rx;obtain ⟨u,rfl,ru⟩:=rv.one;obtain ⟨z,its,n,r,hl,e⟩:=I.lstM hH;refine call_meets F.slot_list_append ⟨_,e,rfl⟩ F.entry_list_append (F.args_list_append_2 _ _) (PySem.list_append l its.toArray n u (by rw [size_toArray];omega)) ⟨e,?_⟩;refine ⟨.non,_,I.lset (its':=its++[u]) hH e (by simp) (r.append (.cons ru .nil)) ?_,rfl,q⟩;rw [length_append,List.length_singleton];omega
noncomputable def yqt:V->List V->Hp->VK->Prop:=fun x vs H Q=>∃ l b xs zs,x=.ref l/\vs=[.ref b]/\H l=some (.lst xs)/\H b=some (.lst zs)/\xs.length+zs.length<=sizeLine/\Q .non (upd H l (.lst (xs++zs)))
def yqu:MtM X "list.extend" yqt:=by
 intro pins s Z H x vs v us Q I rx rv h;obtain ⟨l,b,xs,zs,rfl,rfl,hH,hB,hz,q⟩:=h;cases rx;obtain ⟨u,rfl,ru⟩:=rv.one;cases ru;obtain ⟨z,its,n,r,hl,e⟩:=I.lstM hH;obtain ⟨z2,its2,n2,r2,hl2,e2⟩:=I.lstM hB;have hsz:its.toArray.size+its2.toArray.size<=sizeLine:=by rw [size_toArray,size_toArray];omega
 have hlong:¬ (!its.toArray.isEmpty && Builtin.List.listTooLong (its.toArray.size+its2.toArray.size))=true:=by rw [ynV hsz,Bool.and_false];exact Bool.false_ne_true
 refine call_meets F.slot_list_extend ⟨_,e,rfl⟩ F.entry_list_extend (F.args_list_extend_2 _ _)
  (AutoSeq1.list_extend_list_list_0 l its.toArray n b its2.toArray n2 hlong (by rw [size_toArray];omega) (by omega)) ⟨e,e2,?_⟩
 refine ⟨.non,_,I.lset (its':=its++its2) hH e (by simp) (r.append r2) ?_,rfl,q⟩;rw [length_append];omega
noncomputable def yEG:V->List V->Hp->VK->Prop:=fun x vs H Q=>∃ l xs y,x=.ref l/\vs=[]/\H l=some (.lst xs)/\xs[xs.length-1]?=some y/\Q y (upd H l (.lst xs.dropLast))
def ynW:MtM X "list.pop" yEG:=by
 intro pins s Z H x vs v us Q I rx rv h;obtain ⟨l,xs,y,rfl,rfl,hH,hy,q⟩:=h;cases rx;have hus:=rv.zero;subst hus;obtain ⟨z,its,n,r,hl,e⟩:=I.lstM hH;obtain ⟨u,hu,ru⟩:=r.get hy;have hy':its.toArray[its.toArray.size-1]?=some u:=by show its.toArray[its.length-1]?=some u;rw [<- Array.getElem?_toList,<- hl];exact hu
 refine call_meets F.slot_list_pop ⟨_,e,rfl⟩ F.entry_list_pop (F.args_list_pop_1 _) (MeetsSeq.list_pop_last l its.toArray n u hy' (by rw [size_toArray];omega)) ⟨e,?_⟩;refine ⟨y,_,I.lset (its':=its.dropLast) hH e ?_ r.dropLast ?_,ru,q⟩
 .show its.toArray.eraseIdxIfInBounds (its.toArray.size-1)=its.dropLast.toArray;rw [size_toArray,List.eraseIdxIfInBounds_toArray,ypd]
 .rw [List.length_dropLast];omega
def yvD:V->List V->Hp->VK->Prop:=fun x vs H Q=>∃ l xs,x=.ref l/\vs=[]/\H l=some (.lst xs)/\Q .non (upd H l (.lst []))
def ytk:MtM X "list.clear" yvD:=by intro pins s Z H x vs v us Q I rx rv h;obtain ⟨l,xs,rfl,rfl,hH,q⟩:=h;cases rx;have hus:=rv.zero;subst hus;obtain ⟨z,its,n,r,hl,e⟩:=I.lstM hH;refine call_meets F.slot_list_clear ⟨_,e,rfl⟩ F.entry_list_clear (F.args_list_clear_1 _) (AutoSeq1.list_clear_list_0 l its.toArray n (by rw [size_toArray];omega)) ⟨e,?_⟩;exact ⟨.non,_,I.lset (its':=[]) (ys:=[]) hH e rfl .nil (zero_le _),rfl,q⟩
noncomputable def yEH:R2:=fun x y H Q=>∃ l b xs zs,x=.ref l/\y=.ref b/\H l=some (.lst xs)/\H b=some (.lst zs)/\xs.length+zs.length<=sizeLine/\∀ p,H p=none->Q (.ref p) (upd H p (.lst (xs++zs)))
def yiQ:OpR X (binaryOp .Add) yEH:=by
 intro pins s Z H x y v u Q I rx ry h;obtain ⟨l,b,xs,zs,rfl,rfl,hH,hB,hz,q⟩:=h;cases rx;cases ry;obtain ⟨z,its,n,r,hl,e⟩:=I.lstM hH;obtain ⟨z2,its2,n2,r2,hl2,e2⟩:=I.lstM hB;refine PySem.P.add_list e e2 ?_ (by rw [size_toArray,size_toArray];omega);have ea:its.toArray++its2.toArray=(its++its2).toArray:=by simp
 rw [ea];exact ⟨.ref _,_,I.lnew (t':=s.toks) (r.append r2) (by rw [length_append];omega),rfl,q _ I.fresh⟩
noncomputable def yEI:R2:=fun x y H Q=>∃ l k xs,x=.ref l/\y=.int k/\H l=some (.lst xs)/\-(2 ^ 63)<=k/\k<2 ^ 63/\xs.length*k.toNat<=sizeLine /\
 ∀ p,H p=none->Q (.ref p) (upd H p (.lst (replicate k.toNat xs).flatten))
def len_rep {Z:Type}(xs:List Z) (k:Nat):(replicate k xs).flatten.length=k*xs.length:=by
 induction k with
 | zero=>simp
 | succ k ih=>rw [List.replicate_succ,List.flatten_cons,length_append,ih,Nat.succ_mul,Nat.add_comm]
def yvE:OpR X (binaryOp .Mult) yEI:=by
 intro pins s Z H x y v u Q I rx ry h;obtain ⟨l,k,xs,rfl,rfl,hH,h1,h2,hz,q⟩:=h;cases rx;obtain ⟨t,rfl⟩:=ry;obtain ⟨z,its,n,r,hl,e⟩:=I.lstM hH;have hlen:its.toArray.size*k.toNat<=sizeLine:=by rw [size_toArray,<- hl];exact hz
 have hcap:¬ its.toArray.size*k.toNat>(2 ^ 63-1)/8:=by
  have:(sizeLine:Nat)<=(2 ^ 63-1)/8:=by decide
  omega
 have hfit:¬ (!Builtin.List.listFitsIndex k)=true:=by rw [fitsIndex_both h1 h2];exact Bool.false_ne_true
 have hlong:¬ Builtin.List.listTooLong (its.toArray.size*k.toNat)=true:=by rw [ynV hlen];exact Bool.false_ne_true
 have hnew:List.foldl (fun x1 x2=>x1++x2) #[] (replicate (if its.toArray.isEmpty=true then 0 else k.toNat) its.toArray)=(replicate k.toNat its).flatten.toArray:=by
  have f0:∀ m:Nat,List.foldl (fun x1 x2=>x1++x2) #[] (replicate m its.toArray)=(replicate m its).flatten.toArray:=fun m=>by have:=foldl_rep its m [];rw [List.nil_append] at this;exact this
  rw [f0];cases its with
  | nil=>simp
  | cons a r'=>rw [if_neg (by simp)]
 refine wpAny_binaryOp_repeat_ref (T:="list") (U:="int") (by decide) ⟨_,e,rfl⟩ (fun s'=>typeIs_int s' k t) noFill_list_mul F.fills_int_mul F.slot_int_rmul repeat_list F.slot_int_index.lookup
  (call_meets F.slot_int_rmul (typeIs_int s k t) F.entry_int_rmul (F.args_int_rmul_2 _ _) (int___rmul___int_list k t l its.toArray n)
   ⟨e,rfl,⟨_,e,rfl⟩,call_meets F.slot_list_mul ⟨_,e,rfl⟩ F.entry_list_mul (F.args_list_mul_2 _ _) (AutoListH.list___mul___list_int_3 l its.toArray n k t hfit hcap hlong) ⟨e,?_⟩⟩)
 rw [hnew];exact ⟨.ref _,_,I.lnew (t':=s.toks) (r.rep k.toNat) (by rw [len_rep,Nat.mul_comm];exact hz),rfl,q _ I.fresh⟩
end
section
variable {prog:Program}{w:World}{A:Around}{E:Value->Shared->Prop}{s:Shared}
end
section
variable {X:Cx}
end
end L2
namespace Att
open PySem PySem.W PySem.Calls PyProof.Rows
def yhw:∀ (ns:List Int) (vs:List Value),WellAll P h vs (ns.map WData.int)->IntsAre vs ns:=by
 intro ns
 induction ns with
 | nil =>
  intro vs w;rw [map_nil] at w;cases w;exact .nil
 | cons n ns ih =>
  intro vs w;rw [map_cons] at w;cases w with
  | cons a b =>
   cases a;exact .cons _ _ (ih _ b)
def yqv {l:OpenLaw}(hn:l.most=some n) 
  (hpre:l.row.toRowW.claim.pre args=true) (hwl:WellAll P h vals args) :
  ∃ a vs ns,vals=[Value.ref a]/\args=[WData.list (ns.map WData.int)]/\h.get? a=some { cls:=.type "list",data:=.seq vs.toArray }/\IntsAre vs ns/\ns.length<=n:=by
 have hsh:WShape.hasAll [] args [.list .int]=true:=(pre_splitW hpre).1;have hc:l.pre.holds [] { args:=args }=true:=(pre_splitW hpre).2;obtain ⟨d,r,rfl,h1,h2⟩:=hasAllW_cons hsh;obtain rfl:=hasAllW_nil h2;obtain ⟨xs,rfl,h3⟩:=hasW_list h1;obtain ⟨ns,rfl⟩:=items_int h3;have hlen:ns.length<=n:=by
  unfold OpenLaw.pre at hc;have h4:(WTm.not (.lt (.lit (.int (n:Int))) (.len (.arg 0)))).holds [] { args:=[.list (ns.map .int)] }=true:=by have h4:=(holds_andW hc).1;rw [hn] at h4;exact h4
  have h5:=condW_of h4 (w_not (w_lt w_lit (w_len_list (w_arg rfl))));rw [length_map] at h5;refine Nat.le_of_not_lt fun q=>?_
  have q':(n:Int)<((ns.length:Nat):Int):=by omega
  first
   | (rw [decide_eq_true q'] at h5;exact absurd h5 (by decide))
   | (simp at h5;omega)
 cases hwl with
 | cons w1 w2 =>
  cases w2;cases w1 with
  | list ho hall=>exact ⟨_,_,ns,rfl,rfl,ho,yhw ns _ hall,hlen⟩
def yqw (l:OpenLaw) (args:List WData):l.row.toRowW.claim.post args (.bool true) args=true :=
 postW_of (r:=l.row.toRowW) (X:=(true == true))
  (show WShape.has [] (.bool true) .bool=true by first|rfl|decide|simp [WShape.has,WShape.arms,WShape.armsAll])
  (show (WTm.eq .res (.lit (.bool true))).value [] { args:=args,res:=some (.bool true),after:=args }=some (.bool (true == true)) from w_eq_bool (w_res rfl) w_lit) rfl
def attach_call {l:OpenLaw}{d:DefRec}
  (hn:l.most=some n) (hdf:d.params.defaults=[])
  (call:∀ (w:World) (s₀ s₁:Shared) (mg mb:Str->Option Value) (fa:Addr) (o:Obj) (pm cd doc:Value) (a:Addr) (vs:List Value) (ns:List Int),
   Ground q loose [] XP w s₀ mg mb s₁.heap->YP w s₁.heap ->
   s₁.heap.get? fa=some o->o.data=.func (docDef d.name d.params d.body d.scope pm cd doc)->s₁.heap.CodeRec cd d.name->mg d.name=some (.ref fa) ->
   s₁.heap.get? a=some { cls:=.type "list",data:=.seq vs.toArray }->IntsAre vs ns->ns.length<=n->s₁.gens = #[] ->
   codeAny (model l.prog w) callerA (.call (.ref fa) ⟨[.ref a],[]⟩) (fun r s'=>r=.ok (.ret (.bool true))/\OldK s₁.heap s'.heap/\s'.os=s₁.os/\AllBare s'.gens) s₁) :
  WalkO q loose XP YP l.row.toRowW d [] (fun f vs=>PySem.call f vs):=by
 intro w s₀ s₁ mg mb G Y fa o pm cd doc dV kV ho hd hcd hD hmg hg args vals as hpre hlay hrd hwl hlo;obtain rfl:dV=.none:=Dflts.none hD hdf;obtain rfl:kV=.none:=Dflts.noKw hD;obtain ⟨a,vs,ns,rfl,rfl,hobj,hints,hlen⟩:=yqv hn hpre hwl;refine enter_call (codeAny_mono (call w s₀ s₁ mg mb fa o pm cd doc a vs ns G Y ho (fd_plain hd) hcd hmg hobj hints hlen hg) fun r s' hq=>?_);obtain ⟨rfl,h2,h3,h4⟩:=hq;exact ⟨.inl ⟨.bool true,.bool true,[],rfl,fun _=>rfl,.bool true,yqw l _,fun _=>⟨List.Pairwise.nil,fun _ hm=>(nomatch hm)⟩⟩,h2,h3,h4⟩
section
variable {prog:Program}{w:World}{A:Around}{E:Value->Shared->Prop}{s:Shared}{K:Frag}
end
end Att
namespace L2
open PySem PySem.Spec PyProof.Rows
theorem yhx:∀ {vs:List Value}{ns:List Int},IntsAre vs ns->Vals (ns.map V.int) vs
 | _,_,.nil=>.nil
 | _,_,.cons n t h=>.cons ⟨t,rfl⟩ (yhx h)
def yCL (H:Hp):Prop:=∀ b,H b=none\/∃ o xs,H b=some (.frz o (.lst xs))
def ytl {K:PySem.W.Frag}{s₁:Shared}{vs:List Value}
  (KX:K.In s₁.heap) (hns:s₁.heap.Ns mainGlobals mg) (hb:s₁.heap.Ns builtinsNs mb) (hbb:∀ x:Str,x≠"__name__"->mb x=bootBuiltins x) (hlim:s₁.heap.NoLimit) (hg:s₁.gens = #[])
  (ha:s₁.heap.get? a=some { cls:=.type "list",data:=.seq vs.toArray }) (hi:IntsAre vs ns) (hl:ns.length<=sizeLine) (hr:Room k callerA)
  (F:∀ base:Heap,K.In base->base.Ns mainGlobals mg->FnOk P w K mg base CX k fa fd [x] sp) (hbind:∀ (s:Shared) (u:Value),BindsTo s fd ⟨[u],[]⟩ [(x,u)])
  (hsp:∀ H:Hp,yCL H->SqL K H a (ns.map V.int)->sp [.ref a] H (fun v _=>v=.bl true) fun _ _ _=>False)
  (hCX:∀ H e s',CX [] H s₁ (fun _ _ _=>False) e s'->False) :
  codeAny (model P w) callerA (.call (.ref fa) ⟨[.ref a],[]⟩) (fun r s'=>r=.ok (.ret (.bool true))/\OldK s₁.heap s'.heap/\s'.os=s₁.os/\AllBare s'.gens) s₁:=by
 have rv:=yhx hi;have lenV:=hi.length;have core:∀ H:Hp,yCL H->SqL K H a (ns.map V.int)->HOk P w H s₁.heap->(∀ b,H b≠none->b=a)->(H a≠none->K.lookup a=none) ->
   codeAny (model P w) callerA (.call (.ref fa) ⟨[.ref a],[]⟩) (fun r s'=>r=.ok (.ret (.bool true))/\OldK s₁.heap s'.heap/\s'.os=s₁.os/\AllBare s'.gens) s₁:=by
  intro H hO hS hok hA hK;have base_of:∀ {b:Addr}{o:Obj},s₁.heap.get? b=some o->H b=none->(ysP s₁.heap H).get? b=some o:=fun e n=>ysQ e n
  have noA:∀ {b:Addr}{o:Obj}{es:Array DictEntry}{ep:Nat},s₁.heap.get? b=some o->o.data=.dict es ep->H b=none:=fun {b o es ep} e d=>by
   cases q:H b with
   | none=>rfl
   | some u =>
    have e':b=a:=hA b (by rw [q];simp);subst e';rw [ha] at e;cases e;have d':Data.seq vs.toArray _=Data.dict es ep:=d;cases d'
  have nsK:∀ {b:Addr}{m:Str->Option Value},s₁.heap.Ns b m->(ysP s₁.heap H).Ns b m:=fun {b m} ⟨o,es,ep,e,d,r⟩=>⟨o,es,ep,base_of e (noA e d),d,r⟩
  have hKb:K.In (ysP s₁.heap H):=fun b o e=>base_of (KX b o e) (by
   cases q:H b with
   | none=>rfl
   | some u =>
    have e':b=a:=hA b (by rw [q];simp);subst e';rw [hK (by rw [q];simp)] at e;cases e)
  have hM:Mod K mg (ysP s₁.heap H):=⟨hKb,nsK hns,⟨mb,nsK hb,hbb⟩,let ⟨mc,h1,h2⟩:=hlim;⟨mc,nsK h1,h2⟩⟩
  have e0:Env0 P w K mg (ysP s₁.heap H) callerA [] s₁ H:=⟨rfl,hM,fun b o e=>ywy e,le_of_eq (ypU _ _),trivial,fun b hb=>absurd (show b∈([]:List Addr) from hb) (by simp),hok,.of_eq hg⟩
  refine codeAny_mono ((F _ hKb (nsK hns)).run callerA [] s₁ H ⟨[.ref a],[]⟩ [.ref a] [.ref a] _ _ hr e0 (hbind s₁ (.ref a)) (.cons rfl .nil) (hsp H hO hS)) fun r s' h=>?_
  cases r with
  | error e=>exact (hCX H e s' h).elim
  | ok fl =>
   cases fl with
   | next=>exact False.elim h
   | brk=>exact False.elim h
   | cont=>exact False.elim h
   | ret u =>
    obtain ⟨v,H',os,bare,un,hok',r',q⟩:=h;have q':v=.bl true:=q;subst q';obtain rfl:u=Value.bool true:=r';refine ⟨rfl,OldK.of_keep fun b o e=>?_,os,bare⟩;cases q:H b with
    | none=>exact un.keep b o e q (by intro z;exact absurd (show b∈([]:List Addr) from z) (by simp)) (by simp)
    | some u =>
     rcases hO b with z|⟨ob,xs,z⟩
     .rw [q] at z;cases z
     .have z2:=un.frzs b ob _ z;obtain ⟨e1,_⟩:=hok b _ z;obtain ⟨e2,_⟩:=hok' b _ z2;rw [e] at e1;cases e1;exact e2
 cases hk:K.lookup a with
 | some o =>
  have e:=KX a o hk;rw [ha] at e;cases e;refine core (fun _=>none) (fun _=>.inl rfl) (.inr ⟨_,vs.toArray,_,hk,rfl,rfl,rfl,by rw [size_toArray,lenV];exact hl,by simpa using rv⟩) (fun b u z=>by have z':(none:Option HO)=some u:=z;cases z') (fun b z=>absurd rfl z) fun z=>absurd rfl z
 | none =>
  refine core (fun b=>if b=a then some (.frz { cls:=.type "list",data:=.seq vs.toArray } (.lst (ns.map V.int))) else none) (fun b=>?_) (.inl (.inr ⟨{ cls:=.type "list",data:=.seq vs.toArray },if_pos rfl⟩)) (fun b u z=>?_) (fun b z=>?_) fun _=>hk
  .by_cases hb:b=a
   .exact .inr ⟨_,_,if_pos hb⟩
   .exact .inl (if_neg hb)
  .by_cases hb:b=a
   .have z':=(if_pos hb).symm.trans z;cases z';subst hb;exact ⟨ha,by rw [length_map];exact hl,vs,_,rv,ha⟩
   .have z':=(if_neg hb).symm.trans z;cases z'
  .by_cases hb:b=a
   .exact hb
   .exact absurd (if_neg hb) z
def walk_of {l:PySem.W.OpenLaw}{n k:Nat}{q:Program}{loose:List Str}{XP:(Str->Option Value)->Heap->Prop}{YP:World->Heap->Prop}{d:DefRec}{K:Params->PySem.W.Frag}{CX:World->CXT}{sp:World->Sp}{x:Str}
  (hn:l.most=some n) (hn2:n<=sizeLine) (hdf:d.params.defaults=[]) (hr:Room k callerA)
  (hY:∀ (w:World) (h:Heap),YP w h->(K w.params).In h)
  (F:∀ (w:World) (mg:Str->Option Value) (fa:Addr) (h:Heap),(K w.params).In h->h.Ns mainGlobals mg->mg d.name=some (.ref fa) ->
   ∃ fd:FuncData,(∀ (s:Shared) (u:Value),BindsTo s fd ⟨[u],[]⟩ [(x,u)]) /\
    ∀ base:Heap,(K w.params).In base->base.Ns mainGlobals mg->FnOk l.prog w (K w.params) mg base (CX w) k fa fd [x] (sp w))
  (hsp:∀ (w:World) (H:Hp) (a:Addr) (ns:List Int),ns.length<=n->yCL H->SqL (K w.params) H a (ns.map V.int)->sp w [.ref a] H (fun v _=>v=.bl true) fun _ _ _=>False)
  (hCX:∀ (w:World) (H:Hp) (s:Shared) (e:Value) (s':Shared),CX w [] H s (fun _ _ _=>False) e s'->False) :
  PySem.W.WalkO q loose XP YP l.row.toRowW d [] (fun f vs=>PySem.call f vs):=by
 refine Att.attach_call hn hdf fun w s₀ s₁ mg mb fa o pm cd doc a vs ns G Y ho hd hcd hmg hobj hints hlen hg=>?_
 have KX:=hY w _ Y;obtain ⟨fd,hb,hF⟩:=F w mg fa _ KX G.T.g hmg;exact ytl KX G.T.g G.T.b G.T.builtins G.T.nolimit hg hobj hints (Nat.le_trans hlen hn2) hr hF hb (fun H hO hS=>hsp w H a ns hlen hO hS) fun H e s'=>hCX w H s₁ e s'
noncomputable def inClass (s:Stmt) (j:Nat):Stmt:=match s with
 | .ClassDef _ _ _ body _ _ _ _ _ _ _=>body.getD j (.Pass ⟨0,0,0,0⟩)
 | _=>.Pass ⟨0,0,0,0⟩
noncomputable def ymE (s:Stmt):Arguments:=match s with
 | .FunctionDef _ a _ _ _ _ _ _ _ _=>a
 | _=>{ posonlyargs:=[],args:=[],vararg:=none,kwonlyargs:=[],kw_defaults:=[],kwarg:=none,defaults:=[] }
def yfB (s:Stmt):List Stmt:=match s with
 | .FunctionDef _ _ b _ _ _ _ _ _ _=>b
 | _=>[]
noncomputable def ybE (s:Stmt):Scope:=match s with
 | .FunctionDef _ _ _ _ _ _ sc _ _ _=>sc
 | _=>{ kind:=.function,names:=[],isGenerator:=false,isCoroutine:=false }
abbrev CX0:CXT:=fun _ _ _ _ _ _=>False
abbrev E0:XK:=fun _ _ _=>False
def ykW:yfU CX0 X E0:=fun _ _ _ _ _ _ _ h=>h.elim
structure Fun (K:PySem.W.Frag) (x qual:Str) (st:Stmt) (f:Addr) (fd:FuncData):Prop where
 ex:∃ (oc:Value) (od:Option Addr) (kV doc pm:Value) (an:Option Addr) (cdv ct:Value) (osl:Array (Option Value)),
  fd=fnOf x qual (ymE st) (yfB st) (ybE st) .none kV doc pm an cdv ct/\K.lookup f=some ⟨oc,od,.func fd,osl⟩/\codeIn K cdv qual=true
 kp:keepIn K (.ref f)=true
section
variable {P:Program}{w:World}{K:PySem.W.Frag}{mg:Str->Option Value}{base:Heap}
def Fun.ok {x qual:Str}{st:Stmt}{f:Addr}{fd:FuncData}{N ps:List Str}{k:Nat}{sp:Sp}(F:Fun K x qual st f fd) (S:yel N ps (ybE st)) (len:∀ vs H Q E,sp vs H Q E->vs.length=ps.length)
  (hbody:∀ (cdv:Value) (A:Around) (outer:List Env) (s:Shared) (H:Hp) (vs:List V) (Q:VK) (E:XK),Room k (A.deeper (envOfC qual (ybE st) s.heap.objs.size f cdv))->sp vs H Q E ->
   ∃ t,PSs (yti CX0 P w K mg base N qual (ybE st) f cdv A outer s H E).nox (yfB st) t/\t { nx:=fun _ H'=>Q .non H',rt:=Q } (start N vs) H):FnOk P w K mg base CX0 (k+1) f fd ps sp:=by
 obtain ⟨oc,od,kV,doc,pm,an,cdv,ct,osl,rfl,lk,hcd⟩:=F.ex;refine yCI lk hcd S len fun A outer s H vs Q E hr hsp=>?_
 obtain ⟨t,h,q⟩:=hbody cdv A outer s H vs Q E hr hsp;exact ⟨t,h.nox,q⟩
def fun_mk {x qual:Str}{st:Stmt}{f:Addr}{oc:Value}{od an:Option Addr}{osl:Array (Option Value)}{kV doc pm cdv ct:Value}(l:K.lookup f=some ⟨oc,od,.func (fnOf x qual (ymE st) (yfB st) (ybE st) .none kV doc pm an cdv ct),osl⟩)
  (c:codeIn K cdv qual=true) (k:keepIn K (.ref f)=true):Fun K x qual st f (fnOf x qual (ymE st) (yfB st) (ybE st) .none kV doc pm an cdv ct):=⟨⟨oc,od,kV,doc,pm,an,cdv,ct,osl,rfl,l,c⟩,k⟩
end
def ywR (hr:Room k A):A.units+1<cLine:=Nat.lt_of_le_of_lt (Nat.add_le_add_left (by decide:1<=64) _) hr.units
def yhy (h:n<=1000):n<sizeLine:=Nat.lt_of_le_of_lt h (by decide)
section
variable {X:Cx}
end
def Same (H H':Hp):Prop:=∀ b o,H b=some o->H' b=some o
def Same.refl (H:Hp):Same H H:=fun _ _ h=>h
def Same.trans (a:Same H H1) (b:Same H1 H2):Same H H2:=fun c o h=>b c o (a c o h)
def Same.free (e:Same H H') (h:H' l=Option.none):H l=Option.none:=by
 cases q:H l with
 | none=>rfl
 | some o =>
  rw [e l o q] at h;cases h
def Same.seq {K:PySem.W.Frag}{H H':Hp}{a:Addr}{xs:List V}(e:Same H H') (h:SqL K H a xs):SqL K H' a xs:=by
 rcases h with (h|⟨o,h⟩)|h
 .exact .inl (.inl (e _ _ h))
 .exact .inl (.inr ⟨o,e _ _ h⟩)
 .exact .inr h
def cV:V->Option Value
 | .ty n=>some (.type n)
 | .ref a=>some (.ref a)
 | _=>none
def IsI (K:PySem.W.Frag) (H:Hp) (x c:V) (b:Bool):Prop:=∃ t u,ynS K H x t/\cV c=some u/\PySem.W.kitOne K t u=some b
def ymF {K:PySem.W.Frag}{H:Hp}{i:Int}:IsI K H (.int i) (.ty "int") true:=⟨_,_,.int i,rfl,by with_unfolding_all rfl⟩
def ykX {K:PySem.W.Frag}{H:Hp}{i:Int}:IsI K H (.int i) (.ty "bool") false:=⟨_,_,.int i,rfl,by with_unfolding_all rfl⟩
def ymG {K:PySem.W.Frag}{H:Hp}:IsI K H .non (.ty "int") false:=⟨_,_,.non,rfl,by with_unfolding_all rfl⟩
def ymH {K:PySem.W.Frag}{H:Hp}{i:Bool}:IsI K H (.bl i) (.ty "bool") true:=⟨_,_,.bl i,rfl,by with_unfolding_all rfl⟩
def ymI {K:PySem.W.Frag}{H:Hp}{i:Str}:IsI K H (.str i) (.ty "str") true:=⟨_,_,.str i,rfl,by with_unfolding_all rfl⟩
def ykY {K:PySem.W.Frag}{H:Hp}{a:Addr}{xs:List V}(e:H a=some (.lst xs)):IsI K H (.ref a) (.ty "list") true:=⟨_,_,.lst e,rfl,by with_unfolding_all rfl⟩
def str_len {v:Int}(h0:0<=v) {k:Nat}(hk:0<k) (h:v<10 ^ k):(Str.ofString (toString v)).length<=k:=toString_length_le h0 hk h
end L2
namespace L2
open PySem
abbrev yCM:R2:=rI0 fun i j=>.int (i+j)
abbrev yCN:R2:=rI0 fun i j=>.int (i-j)
abbrev yCO:R2:=rI CMul fun i j=>.int (i*j)
abbrev yCP:R2:=rI yEy fun i j=>.int (i/j)
abbrev yCQ:R2:=rI (fun _ j=>0<j) fun i j=>.int (i%j)
abbrev yCR:R2:=rI yCF fun i j=>.int (i ^ j.toNat)
abbrev yFh:R2:=rI0 fun i j=>.bl (decide (i<j))
abbrev yFi:R2:=rI0 fun i j=>.bl (decide (i<=j))
abbrev yFj:R2:=rI0 fun i j=>.bl (decide (j<i))
abbrev yFk:R2:=rI0 fun i j=>.bl (decide (j<=i))
abbrev yCS:V->Hp->VK->Prop:=rU fun i=>.int (-i)
def yCT:R2:=fun x y H Q=>∃ i j,x=.str i/\y=.str j/\i.length+j.length<=sizeLine/\Q (.str (i++j)) H
def yFl:R2:=fun x y H Q=>y=.non/\Q (.bl (decide (x=.non))) H
def yCU:R2:=fun x y H Q=>y=.non/\Q (.bl (!decide (x=.non))) H
def yCV:List V->Hp->VK->Prop:=fun xs H Q=>∃ z,xs=[.str z]/\z.length<=sizeLine/\Q (.int z.length) H
def yzW (K:PySem.W.Frag):List V->Hp->VK->Prop:=fun xs H Q=>∃ p ys,xs=[.ref p]/\(SqL K H p ys\/SqT K H p ys)/\Q (.int ys.length) H
def yCW:List V->Hp->VK->Prop:=fun xs H Q=>∃ i,xs=[.int i]/\i.natAbs.log2<1920/\Q (.str (toString i)) H
def yEJ (K:PySem.W.Frag):List V->Hp->VK->Prop:=fun xs H Q=>∃ x c b,xs=[x,c]/\IsI K H x c b/\Q (.bl b) H
def ydN (h:H p=none) (o:HO):Same H (upd H p o):=fun b u q=>by rw [yK (ybu q h)];exact q
section
variable {K:PySem.W.Frag}{Z:St}{H:Hp}{Q:VK}{ta tb tc:TE}{tA tB':TT}{t u:TS}{D:Ends}
def w_not {Q:Bool->Hp->Prop}:yCy tA Z H Q=tA Z H fun c H1=>Q (!c) H1:=rfl
end
def ywS (cs:List Nat):Int:=cs.foldl (fun (a:Int) (c:Nat)=>a*10+((c:Int)-48)) 0
noncomputable def yzX:List V->Hp->VK->Prop:=fun xs H Q=>∃ x:Str,xs=[.str x]/\x.cps.toList≠[]/\(∀ c∈x.cps.toList,48<=c/\c<=57)/\x.length<=640/\Q (.int (ywS x.cps.toList)) H
def yEK:R2:=fun x y H Q=>∃ (c:Nat) (j:Str),x=.str ⟨#[c]⟩/\y=.str j/\Q (.bl (decide (c∈j.cps.toList))) H
noncomputable def yqx:V->List V->Hp->VK->Prop:=fun x vs H Q=>∃ (z:Str) (c:Nat),x=.str z/\vs=[.str ⟨#[c]⟩]/\z.length<=1000/\c∈z.cps.toList/\Q (.int (z.cps.toList.idxOf c)) H
noncomputable def rJoin:V->List V->Hp->VK->Prop:=fun x vs H Q=>∃ (sep:Str) (p:Addr) (ts:List Str),x=.str sep/\vs=[.ref p]/\H p=some (.lst (ts.map V.str))/\sep.length<=16/\(ts.map (·.length)).sum+ts.length<=1048576/\Q (.str (Str.join sep ts)) H
noncomputable def yEL:List V->Hp->VK->Prop:=fun xs H Q=>∃ (p:Addr) (bs:List Bool),xs=[.ref p]/\H p=some (.lst (bs.map V.bl))/\Q (.bl (bs.all id)) H
noncomputable def yEM:List V->Hp->VK->Prop:=fun xs H Q=>∃ (p:Addr) (ns:List Int),xs=[.ref p]/\H p=some (.lst (ns.map V.int))/\Q (.int ns.sum) H
def ywT (K:PySem.W.Frag):List V->Hp->VK->Prop:=fun xs H Q=>∃ p ys,xs=[.ref p]/\(SqL K H p ys\/SqT K H p ys)/\∀ l,H l=none->Q (.ref l) (upd H l (.lst ys))
noncomputable def Its (z:Str):It:=⟨fun i _=>i<z.length,fun i H x H'=>H'=H/\∃ c,z.cps.toList[i]?=some c/\x=.str ⟨#[c]⟩,fun i _=>i=z.length⟩
def yEN (ta:TE):TI:=fun Z H R=>ta Z H fun x H1=>∃ z,x=.str z/\z.length<=sizeLine/\R (Its z) H1
noncomputable def yCX (J:It) (te:TE) (inn:V->St) (D:Addr) (Q:VK) (H:Hp):Prop:=∃ W:Nat->Nat->Hp->Prop,(∃ m,W 0 m H)/\∀ i m H,W i m H ->
 (J.stop i H/\Q (.ref D) H)\/(J.go i H/\∀ x H',J.yld i H x H'->te (inn x) H' fun y H2=>∃ acc,H2 D=some (.lst acc)/\acc.length<sizeLine/\∃ m',m'<m/\W (i+1) m' (upd H2 D (.lst (acc++[y]))))
def inner (ix:List Nat) (Z:St) (x:V):St:=some x::ix.map fun i=>(Z[i]?).getD none
def ype (wi:TI) (ix:List Nat) (te:TE):TE:=fun Z H Q=>wi Z H fun J H1=>∀ D,H1 D=none->yCX J te (inner ix Z) D Q (upd H1 D (.lst []))
section
variable {K:PySem.W.Frag}{Z:St}{H:Hp}{Q:VK}{ta tb tc:TE}{tA tB':TT}{t u:TS}{D:Ends}
end
def yvF (C:Addr):TE:=fun _ H Q=>∀ x dx,H x=none->H dx=none->dx≠x->Q (.ref x) (upd (upd H dx (.own x)) x (.ins C dx []))
noncomputable def yvG {O:Type}(A:O->Addr) (m:Str) (sp:O->Sp) (ta:TE):TE:=fun Z H Q=>ta Z H fun x H1=>∃ a k dx fs,x=.ref a/\H1 a=some (.ins (A k) dx fs)/\fs.lookup m=none/\sp k [x] H1 Q E0
def yCY {k:Str}{v:V}{r:List (Str×V)}:List.lookup k ((k,v)::r)=some v:=by simp [List.lookup]
def yzY {k k':Str}{v:V}{r:List (Str×V)}(h:¬ k=k'):List.lookup k ((k',v)::r)=List.lookup k r:=by
 have:(k == k')=false:=by simpa using h
 simp [List.lookup,this]
section
variable {K:PySem.W.Frag}{Z:St}{H:Hp}{Q:VK}{ta tb tc:TE}{t u:TS}{D:Ends}
end
open PySem.Builtin PySem.Builtin.Str
def at_one:StrLaws.At z ⟨#[c]⟩ z.length i ↔ z.cps.toList[i]?=some c:=by
 unfold StrLaws.At subAt;have e1:(⟨#[c]⟩:Str).length=1:=rfl;rw [e1];have e2:(z.cps.extract i (i+1) == (⟨#[c]⟩:Str).cps)=true ↔ z.cps.extract i (i+1) = #[c]:=by simp
 rw [e2];constructor
 .rintro ⟨h1,h2⟩;have h3:(z.cps.extract i (i+1)).toList=[c]:=by rw [h2]
  rw [Array.toList_extract,List.extract_eq_take_drop] at h3;have h4:((z.cps.toList.drop i).take (i+1-i))[0]?=some c:=by rw [h3];rfl
  rw [List.getElem?_take_of_lt (by omega),List.getElem?_drop] at h4;simpa using h4
 .intro h;obtain ⟨hlt,hc⟩:=List.getElem?_eq_some_iff.mp h;have hl:i<z.length:=by simpa [Str.length] using hlt
  refine ⟨by omega,?_⟩;apply Array.ext';rw [Array.toList_extract,List.extract_eq_take_drop];have e:i+1-i=1:=by omega
  rw [e,List.drop_eq_getElem_cons hlt,hc];rfl
def yqy (z:Str) (c:Nat):(occurrences z ⟨#[c]⟩ 0 z.length 1=[]/\c∉z.cps.toList)\/∃ r,occurrences z ⟨#[c]⟩ 0 z.length 1=z.cps.toList.idxOf c::r/\c∈z.cps.toList:=by
 rcases StrLaws.occ_head z ⟨#[c]⟩ 1 (Nat.le_refl _) with ⟨h1,h2⟩|⟨i,r,h1,h2,h3⟩
 .refine .inl ⟨h1,fun hc=>?_⟩;obtain ⟨i,hi,e⟩:=getElem_of_mem hc;exact h2 i (at_one.mpr (List.getElem?_eq_some_iff.mpr ⟨hi,e⟩))
 .have hi:=at_one.mp h2;obtain ⟨hlt,hc⟩:=List.getElem?_eq_some_iff.mp hi;have hm:c∈z.cps.toList:=mem_of_getElem? hi;refine .inr ⟨r,?_,hm⟩;have hj:z.cps.toList.idxOf c<z.cps.toList.length:=List.idxOf_lt_length_of_mem hm;have hg:z.cps.toList[z.cps.toList.idxOf c]?=some c:=by rw [List.getElem?_eq_getElem hj,List.getElem_idxOf hj]
  have e:i=z.cps.toList.idxOf c:=by
   rcases Nat.lt_trichotomy i (z.cps.toList.idxOf c) with h|h|h
   .exact absurd hc (by have:=List.not_of_lt_findIdx (p:=(· == c)) (xs:=z.cps.toList) (i:=i) (by simpa [idxOf] using h);simpa using this)
   .exact h
   .exact absurd (at_one.mpr hg) (h3 _ h)
  rw [h1,e]
end L2
namespace L2
open PySem PySem.Spec PyProof.Rows
theorem ydY {env:Env}(y:Str):∀ names:List (Str×NameKind),
  (names.map fun (n,k)=>if (k == NameKind.free && env.scope.kind == .function && env.kindOf n == some .cell) then (n,NameKind.cell) else (n,k)).lookup y
   = (names.lookup y).map fun k=>if (k == NameKind.free && env.scope.kind == .function && env.kindOf y == some .cell) then NameKind.cell else k
 | []=>rfl
 | (n,k)::r=>by
  have ih:=ydY (env:=env) y r;show List.lookup y ((if (k == NameKind.free && env.scope.kind == .function && env.kindOf n == some .cell)=true then (n,NameKind.cell) else (n,k))::_)=_;cases hx:y == n with
  | true =>
   have e:y=n:=eq_of_beq hx;subst e
   by_cases hc:(k == NameKind.free && env.scope.kind == .function && env.kindOf y == some .cell)=true
   .rw [if_pos hc];simp only [lookup_cons,hx,map_some,if_pos hc]
   .rw [if_neg hc];simp only [lookup_cons,hx,map_some,if_neg hc]
  | false =>
   by_cases hc:(k == NameKind.free && env.scope.kind == .function && env.kindOf n == some .cell)=true
   .rw [if_pos hc];simp only [lookup_cons,hx];exact ih
   .rw [if_neg hc];simp only [lookup_cons,hx];exact ih
theorem yeK {env:Env}:∀ (names:List (Str×NameKind)) (cs:List (Str×Addr)),(∀ n,(n,NameKind.free)∈names->∃ c,env.cells.lookup n=some c) ->
  ∃ cl,(forIn names cs (fun (x:Str×NameKind) (r:List (Str×Addr))=>if (x.2 == NameKind.free)=true then do let c <- cellOf env x.1;pure (ForInStep.yield ((x.1,c)::r)) else pure (ForInStep.yield r)):Sem (List (Str×Addr)))=pure cl /\
   (∀ y,(y,NameKind.free)∈names->cl.lookup y=env.cells.lookup y)/\(∀ y,(y,NameKind.free)∉names->cl.lookup y=cs.lookup y)
 | [],cs,_=>⟨cs,rfl,fun y h=>by simp at h,fun y _=>rfl⟩
 | (n,k)::r,cs,h=>by
  by_cases hk:k=.free
  .subst hk;obtain ⟨c,hc⟩:=h n mem_cons_self;obtain ⟨cl,e,h1,h2⟩:=yeK r ((n,c)::cs) fun y hy=>h y (mem_cons_of_mem _ hy)
   refine ⟨cl,?_,fun y hy=>?_,fun y hy=>?_⟩
   .rw [List.forIn_cons];have e0:cellOf env n=pure c:=by unfold cellOf;rw [hc]
    simp only [beq_self_eq_true,if_true,e0,pure_bind];exact e
   .by_cases hr:(y,NameKind.free)∈r
    .exact h1 y hr
    .rw [h2 y hr];rcases mem_cons.mp hy with z|z
     .cases z;rw [hc];simp [List.lookup]
     .exact absurd z hr
   .have hr:(y,NameKind.free)∉r:=fun z=>hy (mem_cons_of_mem _ z)
    rw [h2 y hr];have hn:(y == n)=false:=by
     cases e:y == n with
     | false=>rfl
     | true=>exact absurd (by rw [eq_of_beq e];exact mem_cons_self) hy
    simp [List.lookup,hn]
  .obtain ⟨cl,e,h1,h2⟩:=yeK r cs fun y hy=>h y (mem_cons_of_mem _ hy)
   have hb:(k == NameKind.free)=false:=by simpa using hk
   refine ⟨cl,?_,fun y hy=>?_,fun y hy=>?_⟩
   .rw [List.forIn_cons];simp only [hb,Bool.false_eq_true,if_false,pure_bind];exact e
   .rcases mem_cons.mp hy with z|z
    .cases z;exact absurd rfl hk
    .exact h1 y z
   .exact h2 y fun z=>hy (mem_cons_of_mem _ z)
noncomputable def cxC (X:Cx) (scope:Scope) (cl:List (Str×Addr)) (C:Addr) (N:List Str) (s₃:Shared) (H₃:Hp) (fp:List Addr) (pins:List (Addr×Obj)):Cx :=
 { prog:=X.prog,w:=X.w,K:=X.K,mg:=X.mg,base:=X.base,A:=X.A,N:=N,s₀:=s₃,H₀:=H₃,env:=compEnvC scope cl C X.env,outer:=X.stack,stack:=X.stack,ex:=fp,fn:=fun _=>false,calm:=X.calm,pn:=X.pn++pins,xe:=fun _ _=>False }
noncomputable def FrOk (X:Cx) (scope:Scope):List Nat->List Str->Prop
 | [],[]=>True
 | i::is,y::ys=>X.N[i]?=some y/\scope.names.lookup y=some .free/\X.env.kindOf y=some .cell/\FrOk X scope is ys
 | _,_=>False
theorem FrOk.len:∀ {is:List Nat}{ys:List Str},FrOk X scope is ys->is.length=ys.length
 | [],[],_=>rfl
 | _::is,_::ys,h=>by rw [length_cons,length_cons,FrOk.len h.2.2.2]
theorem FrOk.get:∀ {is:List Nat}{ys:List Str}{j:Nat}{y:Str},FrOk X scope is ys->ys[j]?=some y->∃ i,is[j]?=some i/\X.N[i]?=some y/\scope.names.lookup y=some .free/\X.env.kindOf y=some .cell
 | [],[],_,_,_,e=>by simp at e
 | [],_::_,_,_,h,_=>h.elim
 | _::_,[],_,_,h,_=>h.elim
 | i::is,z::ys,0,y,h,e=>by simp at e;subst e;exact ⟨i,rfl,h.1,h.2.1,h.2.2.1⟩
 | i::is,z::ys,j+1,y,h,e=>by obtain ⟨k,h1,h2⟩:=FrOk.get (j:=j) h.2.2.2 (by simpa using e);exact ⟨k,by simpa using h1,h2⟩
def ytm {P:Program}{w:World}{K:PySem.W.Frag}{tg:Expr}{ty:String}(hty:ty = "str_ascii_iterator"\/ty = "str_iterator") (z:Str) (t:Tok) (it:Addr):Turn P w K tg (Its z) [it] it (fun i h=>h.IsStrIter it ty z t i) where
 mem:=by simp
 obj:=fun i h st b hb=>by
  have e:b=it:=by simpa using hb
  subst e;obtain ⟨o,e,c,d⟩:=st;exact ⟨o,e,fun v q=>by rw [d] at q;cases q⟩
 keep:=fun i h h' st k=>by obtain ⟨o,e,c,d⟩:=st;exact ⟨o,k it (by simp) o e,c,d⟩
 item:=by
  intro X hP hw hK hc i pins s Z H E I hf st hg;subst hP hw hK;obtain ⟨f0,f1,f2,f3,f4,f5⟩:=hf it (by simp);have hg:i<z.length:=hg;obtain ⟨ch,hz⟩:∃ ch,z.cps[i]?=some ch:=⟨_,Array.getElem?_eq_getElem (show i<z.cps.size from hg)⟩
  have fin:∀ h',h'.IsStrIter it ty z t (i+1)->Heap.SameBut it s.heap h'->∃ u,some (Value.str ⟨#[ch]⟩ s.toks)=some u /\
    wpAny (model X.prog X.w) X.A (letOwnedTupleGo tg (.ref it) u) (fun _ s2=>∃ x H',Inv X pins Z H' s2/\RelV x u/\(Its z).yld i H x H'/\s2.heap.IsStrIter it ty z t (i+1)/\∀ b∈[it],H' b=none) E { s with heap:=h',toks:=s.toks+1 }:=fun h' st' sb=>by
   have I1:Inv X pins Z H { s with heap:=h',toks:=s.toks+1 }:=I.turned (t':=s.toks+1) (fun b o hb e=>(sb.2 b hb).trans e) f0 f1 f3 f4 f5;obtain ⟨o,e,c,d⟩:=id st';refine ⟨_,rfl,ypY (s:={ s with heap:=h',toks:=s.toks+1 }) e c d (by rcases hty with rfl|rfl<;>decide) ⟨.str ⟨#[ch]⟩,H,I1,⟨_,rfl⟩,⟨rfl,_,by simpa using hz,rfl⟩,st',fun b hb=>(hf b hb).1⟩⟩
  rcases hty with rfl|rfl
  .exact wpAny_pyNext_ascii_item st hz fun h' st' sb=>fin h' st' sb
  .exact wpAny_pyNext_wide_item st hz fun h' st' sb=>fin h' st' sb
 done:=by
  intro X hP hw hK hc i pins s Z H E I hf st hg;subst hP hw hK;obtain ⟨f0,f1,f2,f3,f4,f5⟩:=hf it (by simp);have hg:i=z.length:=hg;have hz:z.cps[i]?=none:=by simp [hg,Str.length]
  rcases hty with rfl|rfl
  .exact wpAny_pyNext_ascii_end (I.ok.hd hc) st hz fun h' eb=>⟨rfl,I.turned (t':=s.toks) (fun b o hb e=>eb b o hb e) f0 f1 f3 f4 f5⟩
  .exact wpAny_pyNext_wide_end (I.ok.hd hc) st hz fun h' eb=>⟨rfl,I.turned (t':=s.toks) (fun b o hb e=>eb b o hb e) f0 f1 f3 f4 f5⟩
 self:=fun _ _ _ _ _ st h=>by
  rcases hty with rfl|rfl
  .exact wpAny_pyIter_striter_ascii st h
  .exact wpAny_pyIter_striter_wide st h
section
variable {X:Cx}{tg:Expr}
def yzZ (hl:PE X l tl):PI X tg l (yEN tl):=by
 intro pins s Z H R I h;refine thn (hl pins s Z H _ I h) fun v s1 ⟨x,H1,I1,r1,q1⟩=>?_
 obtain ⟨z,e,hz,q⟩:=q1;subst e;obtain ⟨t,rfl⟩:=r1;have fin:∀ ty,(ty = "str_ascii_iterator"\/ty = "str_iterator")->PIE X pins Z tg R (.ref s1.heap.objs.size) { s1 with heap:=s1.heap.push { cls:=.type ty,data:=.fields #[.str z t,.int 0 0] } }:=fun ty hty=>by
  refine ⟨s1.heap.objs.size,[s1.heap.objs.size],_,_,H1,rfl,I1.kept (t':=s1.toks) fun b o e=>Heap.get?_push_of_some _ e,ytm hty z t _,⟨_,Heap.get?_push_size _ rfl,rfl,rfl⟩,fun b hb=>?_,q⟩;have e:b=s1.heap.objs.size:=by simpa using hb
  subst e;exact I1.fpOk (Nat.le_refl _) (I1.hok.fresh (Nat.le_refl _))
 cases ha:z.cps.all (· < 128)
 .exact wpAny_pyIter_wide ha (fin _ (.inr rfl))
 .exact wpAny_pyIter_ascii ha (fin _ (.inl rfl))
theorem yju:∀ {bs:List Bool}{us:List Value},Vals (bs.map V.bl) us->us=bs.map Value.bool
 | [],_,.nil=>rfl
 | b::bs,_,.cons r t=>by rw [show _=Value.bool b from r,yju t];rfl
def ynX (hc:X.calm=true):yfz X (.builtin "all") yEL:=by
 intro pins s Z H xs us Q I r h;obtain ⟨p,bs,rfl,hp,q⟩:=h;obtain ⟨u,rfl,rx⟩:=vals1 r;cases rx;obtain ⟨its,n,rv,e,hz⟩:=I.lst hp;have eb:=yju rv;subst eb;have hl:s.heap.IsList p (bs.map Value.bool).toArray:=⟨_,e,rfl,n,rfl⟩
 have hlt:p<s.heap.objs.size:=Heap.lt_size e;refine call_all_walk (wpAny_pyIter_list hl ?_);refine ⟨s.heap.objs.size,[s.heap.objs.size,p],[s.heap.objs.size],(bs.map Value.bool).toArray.size,_,_,fun i=>(bs[i]?).getD true,rfl,Walks.list (A:=X.A.in1) (I.ok.hd hc) _ p (ne_of_lt hlt) _,
  ⟨⟨_,Heap.get?_push_size _ rfl,rfl,rfl⟩,hl.push _⟩,fun i v s' Q' E' hP hQ=>?_,fun h' tk hk=>?_⟩
 .have hP:(bs.map Value.bool)[i]?=some v:=by simpa using hP
  rw [getElem?_map] at hP;cases eb:bs[i]? with
  | none=>rw [eb] at hP;cases hP
  | some b =>
   rw [eb] at hP;cases hP;simp only [eb,Option.getD_some] at hQ;exact wpAny_truthy_bool hQ
 .have ea:((List.range (bs.map Value.bool).toArray.size).all fun i=>(bs[i]?).getD true)=bs.all id:=by rw [size_toArray,length_map];exact LSm.range_all bs
  rw [ea];exact ⟨.bl _,H,I.kept (t':=tk) fun b o eo=>hk b o (fun hm=>by rw [List.mem_singleton.mp hm] at eo;exact absurd (Heap.lt_size eo) (lt_irrefl _)) (Heap.get?_push_of_some _ eo),rfl,q⟩
def ytn (hc:X.calm=true):yfz X (.builtin "sum") yEM:=by
 intro pins s Z H xs us Q I r h;obtain ⟨p,ns,rfl,hp,q⟩:=h;obtain ⟨u,rfl,rx⟩:=vals1 r;cases rx;obtain ⟨its,n,rv,e,hz⟩:=I.lst hp;have hi:IntsAre its ns:=intsAre_of rv;have hl:s.heap.IsList p its.toArray:=⟨_,e,rfl,n,rfl⟩
 obtain ⟨xs,hx⟩:=hi.allInts.items;have hl':s.heap.IsList p (intItems xs):=hx ▸ hl;refine sum_intListG (I.ok.hd hc) hl' fun h' tk t' hk=>?_
 have e1:ns=xs.toList.map (·.1):=by rw [<- nums_intItems,<- hx];exact (show numsOf its.toArray.toList=ns from hi.numsOf).symm
 have e2:preSum (numAt xs) xs.size=ns.sum:=by rw [preSum_eq,List.take_of_length_le (by simp),e1]
 rw [e2];exact ⟨.int ns.sum,H,I.kept (t':=tk) hk,⟨_,rfl⟩,q⟩
theorem yqz:∀ {ts:List Str}{us:List Value},Vals (ts.map V.str) us->StrsAre us ts
 | [],_,.nil=>.nil
 | y::ts,_,.cons r t=>by
  obtain ⟨k,e⟩:=(show ∃ t,_=Value.str y t from r)
  rw [e];exact .cons y k (yqz t)
def ywU:MtR X "str.join" rJoin:=by
 intro pins s Z H x xs v us Q I rx rv h;obtain ⟨sep,p,ts,rfl,rfl,hp,h1,h2,q⟩:=h;obtain ⟨t,rfl⟩:=rx;obtain ⟨u,rfl,ru⟩:=vals1 rv;cases ru;obtain ⟨its,n,r,e,hz⟩:=I.lst hp;have hl:s.heap.IsList p its.toArray:=⟨_,e,rfl,n,rfl⟩
 refine join_listW hl (yqz r) h1 h2 fun t' k=>⟨.str (Str.join sep ts),H,I.tok k,⟨t',?_⟩,q⟩
 show Value.str (Txt.join sep ts) t'=Value.str (Str.join sep ts) t';rw [show Txt.join sep ts=Str.join sep ts from StrLaws.glued_eq_join sep ts]
def ykZ:OpR X (compareOp .In) yEK:=by
 intro pins s Z H x y v u Q I rx ry h;obtain ⟨c,j,rfl,rfl,q⟩:=h;refine yqi pins s Z H _ _ v u Q I rx ry ⟨_,_,rfl,rfl,?_⟩;have e:(!(Builtin.Str.occurrences j ⟨#[c]⟩ 0 j.length 1).isEmpty)=decide (c∈j.cps.toList):=by
  rcases yqy j c with ⟨h1,h2⟩|⟨r,h1,h2⟩
  .rw [h1];simp [h2]
  .rw [h1];simp [h2]
 rw [e];exact q
def yto (hm:makesIn X.K C=true) (hi:findIn X.K (.ref C) "__init__" = some (some (.builtin "object.__init__"))) (hk:keepIn X.K (.ref C)=true)
  (hg:Gl X x) (hmg:X.mg x=some (.ref C)) (hdb:(x == ("__debug__":Str))=false:=by decide):PE X (.Call (.Name x p) [] [] pos) (yvF C):=by
 intro pins s Z H Q I h;refine wpAny_Call_Name_kw (yhs I hg hmg ?_ hdb);refine PySem.W.callWith_K0 I.kIn hk (wpAny_call ?_);have I2:=Inv.made (C:=C) I;have q:=h (s.heap.objs.size+1) s.heap.objs.size (I.hok.fresh (Nat.le_succ _)) (I.hok.fresh (Nat.le_refl _)) (ne_of_lt (Nat.lt_succ_self _));have kin:=I.kIn;obtain ⟨hh,g,d,t,os⟩:=s;have Y:=PySem.W.makes_of (M:=model X.prog X.w) kin hm;refine PySem.W.make_core Y (PySem.W.looks_findIn kin hi) (fun self=>PySem.W.Looks.of_pure (PySem.W.oi_bind self)) (.inr ⟨rfl,rfl⟩) ?_;have e1:((hh.push emptyDict).push (instObj C hh.objs.size)).get? (hh.objs.size+1)=some (instObj C hh.objs.size):=by have:=Heap.get?_push_size (h:=hh.push emptyDict) (o:=instObj C hh.objs.size) rfl;rwa [Heap.size_push] at this
 have t1:PySem.W.Looks (model X.prog X.w) ((hh.push emptyDict).push (instObj C hh.objs.size)) (typeOf (.ref (hh.objs.size+1))) (.ref C):=(PySem.W.Looks.ld e1).andThen .now;have t2:PySem.W.Looks (model X.prog X.w) ((hh.push emptyDict).push (instObj C hh.objs.size)) (isInstance (.ref (hh.objs.size+1)) (.type "object")) true:=t1.andThen (Y.top.keeps fun b o e=>Heap.get?_push_of_some _ (Heap.get?_push_of_some _ e));refine codeAny_call_builtin PySem.W.oi_plain PySem.W.entry_oi (@PySem.W.check_slot (model X.prog X.w) _ _ _ "object.__init__" "object" "__init__" (.ref (hh.objs.size+1)) [] [] _ PySem.W.oi_kind PySem.W.oi_split t2 (PySem.W.oi_args (.ref (hh.objs.size+1))) ?_);show wpAny _ _ (Builtin.«object.__init__» ⟨[.ref (hh.objs.size+1)],[]⟩) _ _ _;rw [PySem.W.oi_run];exact wpAny_pure (And.intro rfl ⟨.ref _,_,I2,rfl,q⟩)
def ymJ {O:Type}(P:Program) (w:World) (K:PySem.W.Frag) (mg:Str->Option Value) (base:Heap) (k:Nat) (A:O->Addr) (m:Str) (sp:O->Sp):Prop :=
 ∀ c:O,Cls K (A c)/\((∀ vs H Q E,¬ sp c vs H Q E)\/∃ f fd ps,Meth K (A c) m f/\FnOk P w K mg base CX0 k f fd ps (sp c)/\Binds K fd ps [])
def yqA {O:Type}{A:O->Addr}{m:Str}{sp:O->Sp}{k:Nat}{o:Expr}{ta:TE}{apos pos:Pos}{pl:Sem Bool}(he:PE X o ta) (G:ymJ X.prog X.w X.K X.mg X.base k A m sp) (hr:Room k X.A)
  (ht:eval (.Call (.Attribute o m apos) [] [] pos) X.env=(do
   let ov <- eval o X.env
   standAt apos.atName
   let (f,first) <- holding [ov] (getMethod ov m pl)
   callWith pos f first (backTo pos (starEach [] X.env)) (backToKw pos (keywordEach [] X.env))):=by rfl):PE X (.Call (.Attribute o m apos) [] [] pos) (yvG A m sp ta):=by
 intro pins s Z H Q I h;refine PySem.W.methodCall_KW (pl:=pl) (thn (he pins s Z H _ I h) fun u s1 ⟨x,H1,I1,rx,a,c,dx,fs,ex,ea,l,q⟩=>?_) ht;subst ex;obtain rfl:u=Value.ref a:=rx;obtain ⟨cl,hn|⟨f,fd,ps,hm,F,hb⟩⟩:=G c
 .exact (hn _ _ _ _ q).elim
 refine ygt I1 ea cl hm l ?_;exact PySem.W.callWith_K0 (first:=[.ref a]) I1.kIn hm.kp (ykP (us:=[.ref a]) (vs:=[.ref a]) (dvs:=[]) (ds:=[]) F hr hb .nil ykW I1 (.cons rfl .nil) q)
end
def ExO (D a:Addr):HO:=.ext fun h=>∃ ox,PySem.W.InstAt h a ox D none
def xAd (K:PySem.W.Frag) (n:Str):Addr:=match nsIn K mainGlobals n with|some (some (.ref D))=>D|_=>0
section
variable {X:Cx}
def ybd:yfz X (.builtin "isinstance") (yEJ X.K):=by
 intro pins s Z H xs us Q I r h;obtain ⟨x,c,b,rfl,⟨t,u',ty,hc,hk⟩,q⟩:=h;obtain ⟨u,w',rfl,ru,rc⟩:=vals2 r;have e:w'=u':=by cases c<;>first|(cases hc;exact rc)|cases hc
 subst e;exact yqm I ru ty hk fun tk=>⟨.bl b,H,I.tok tk,rfl,q⟩
theorem yiR:∀ (cs:List Nat) (a:Nat),(∀ c∈cs,48<=c/\c<=57)->((cs.foldl (fun acc c=>acc*10+(c-48)) a:Nat):Int)=cs.foldl (fun (a:Int) (c:Nat)=>a*10+((c:Int)-48)) (a:Int)
 | [],_,_=>rfl
 | c::cs,a,h=>by have hc:=h c mem_cons_self;rw [List.foldl_cons,List.foldl_cons,yiR cs _ fun d hd=>h d (mem_cons_of_mem _ hd)];congr 1;omega
def yla:yfz X (.type "int") yzX:=by intro pins s Z H xs us Q I r h;obtain ⟨z,rfl,hne,hd,hl,q⟩:=h;obtain ⟨u,rfl,t,rfl⟩:=vals1 r;have e:=PySem.intText_digits (x:=z) hd hne (by omega);have e2:((PySem.NumText.digitsVal z.cps.toList:Nat):Int)=ywS z.cps.toList:=yiR z.cps.toList 0 hd;rw [e2] at e;exact PySem.W.KIN.call_text e hl ⟨.int _,H,I.tok _,⟨_,rfl⟩,q⟩
end
section
variable {X:Cx}
def ywV (hg:Gl X x) (hm:X.mg x=some (.int n t)) (hd:(x == ("__debug__":Str))=false:=by decide):PE X (.Name x pos) (tC (.int n)):=ymw hg hm ⟨t,rfl⟩ hd
def ywW (hg:Gl X x) (hm:X.mg x=some (.str n t)) (hd:(x == ("__debug__":Str))=false:=by decide):PE X (.Name x pos) (tC (.str n)):=ymw hg hm ⟨t,rfl⟩ hd
def ymK (hg:Gl X x) (hm:X.mg x=some (.ref a)) (hd:(x == ("__debug__":Str))=false:=by decide):PE X (.Name x pos) (tC (.ref a)):=ymw hg hm rfl hd
def yAa {x:Str}{n:String}{pos:Pos}(hg:Gl X x) (hm:X.mg x=none) (hv:bootBuiltins x=some (.type n)) (hn:x≠"__name__":=by decide) (hd:(x == ("__debug__":Str))=false:=by decide):PE X (.Name x pos) (tC (.ty n)):=ywA hg hm hv rfl hn hd
end
def ymL {K:PySem.W.Frag}{H:Hp}{i:Int}:IsI K H (.int i) (.ty "str") false:=⟨_,_,.int i,rfl,by with_unfolding_all rfl⟩
def ylb {K:PySem.W.Frag}{H:Hp}{i:Int}:IsI K H (.int i) (.ty "list") false:=⟨_,_,.int i,rfl,by with_unfolding_all rfl⟩
def yjv {K:PySem.W.Frag}{H:Hp}{i:Int}:IsI K H (.int i) (.ty "tuple") false:=⟨_,_,.int i,rfl,by with_unfolding_all rfl⟩
def ylc {K:PySem.W.Frag}{H:Hp}{i:Int}:IsI K H (.int i) (.ty "dict") false:=⟨_,_,.int i,rfl,by with_unfolding_all rfl⟩
def ypf {K:PySem.W.Frag}{H:Hp}{i:Bool}:IsI K H (.bl i) (.ty "int") true:=⟨_,_,.bl i,rfl,by with_unfolding_all rfl⟩
def ypg {K:PySem.W.Frag}{H:Hp}{i:Bool}:IsI K H (.bl i) (.ty "str") false:=⟨_,_,.bl i,rfl,by with_unfolding_all rfl⟩
def ymM {K:PySem.W.Frag}{H:Hp}{i:Bool}:IsI K H (.bl i) (.ty "list") false:=⟨_,_,.bl i,rfl,by with_unfolding_all rfl⟩
def yle {K:PySem.W.Frag}{H:Hp}{i:Bool}:IsI K H (.bl i) (.ty "tuple") false:=⟨_,_,.bl i,rfl,by with_unfolding_all rfl⟩
def ymN {K:PySem.W.Frag}{H:Hp}{i:Bool}:IsI K H (.bl i) (.ty "dict") false:=⟨_,_,.bl i,rfl,by with_unfolding_all rfl⟩
def ymO {K:PySem.W.Frag}{H:Hp}{i:Str}:IsI K H (.str i) (.ty "int") false:=⟨_,_,.str i,rfl,by with_unfolding_all rfl⟩
def ylf {K:PySem.W.Frag}{H:Hp}{i:Str}:IsI K H (.str i) (.ty "bool") false:=⟨_,_,.str i,rfl,by with_unfolding_all rfl⟩
def ylg {K:PySem.W.Frag}{H:Hp}{i:Str}:IsI K H (.str i) (.ty "list") false:=⟨_,_,.str i,rfl,by with_unfolding_all rfl⟩
def yjw {K:PySem.W.Frag}{H:Hp}{i:Str}:IsI K H (.str i) (.ty "tuple") false:=⟨_,_,.str i,rfl,by with_unfolding_all rfl⟩
def ylh {K:PySem.W.Frag}{H:Hp}{i:Str}:IsI K H (.str i) (.ty "dict") false:=⟨_,_,.str i,rfl,by with_unfolding_all rfl⟩
def yli {K:PySem.W.Frag}{H:Hp}:IsI K H (.non) (.ty "bool") false:=⟨_,_,.non,rfl,by with_unfolding_all rfl⟩
def ymP {K:PySem.W.Frag}{H:Hp}:IsI K H (.non) (.ty "str") false:=⟨_,_,.non,rfl,by with_unfolding_all rfl⟩
def ylj {K:PySem.W.Frag}{H:Hp}:IsI K H (.non) (.ty "list") false:=⟨_,_,.non,rfl,by with_unfolding_all rfl⟩
def yjx {K:PySem.W.Frag}{H:Hp}:IsI K H (.non) (.ty "tuple") false:=⟨_,_,.non,rfl,by with_unfolding_all rfl⟩
def ylk {K:PySem.W.Frag}{H:Hp}:IsI K H (.non) (.ty "dict") false:=⟨_,_,.non,rfl,by with_unfolding_all rfl⟩
def ymQ {K:PySem.W.Frag}{H:Hp}{a:Addr}{xs:List V}(e:H a=some (.lst xs)):IsI K H (.ref a) (.ty "int") false:=⟨_,_,.lst e,rfl,by with_unfolding_all rfl⟩
def yll {K:PySem.W.Frag}{H:Hp}{a:Addr}{xs:List V}(e:H a=some (.lst xs)):IsI K H (.ref a) (.ty "bool") false:=⟨_,_,.lst e,rfl,by with_unfolding_all rfl⟩
def ymR {K:PySem.W.Frag}{H:Hp}{a:Addr}{xs:List V}(e:H a=some (.lst xs)):IsI K H (.ref a) (.ty "str") false:=⟨_,_,.lst e,rfl,by with_unfolding_all rfl⟩
def yjy {K:PySem.W.Frag}{H:Hp}{a:Addr}{xs:List V}(e:H a=some (.lst xs)):IsI K H (.ref a) (.ty "tuple") false:=⟨_,_,.lst e,rfl,by with_unfolding_all rfl⟩
def ylm {K:PySem.W.Frag}{H:Hp}{a:Addr}{xs:List V}(e:H a=some (.lst xs)):IsI K H (.ref a) (.ty "dict") false:=⟨_,_,.lst e,rfl,by with_unfolding_all rfl⟩
def yjz {K:PySem.W.Frag}(e:(∃ xs,H a=some (.tup xs))\/∃ o,K.lookup a=some o/\o.cls=.type "tuple"):IsI K H (.ref a) (.ty "tuple") true:=e.elim (fun ⟨_,e⟩=>⟨_,_,.tup e,rfl,by with_unfolding_all rfl⟩) fun ⟨_,e,c⟩=>⟨_,_,.kt e c,rfl,by with_unfolding_all rfl⟩
def ymS {K:PySem.W.Frag}(e:(∃ xs,H a=some (.tup xs))\/∃ o,K.lookup a=some o/\o.cls=.type "tuple"):IsI K H (.ref a) (.ty "int") false:=e.elim (fun ⟨_,e⟩=>⟨_,_,.tup e,rfl,by with_unfolding_all rfl⟩) fun ⟨_,e,c⟩=>⟨_,_,.kt e c,rfl,by with_unfolding_all rfl⟩
def yln {K:PySem.W.Frag}(e:(∃ xs,H a=some (.tup xs))\/∃ o,K.lookup a=some o/\o.cls=.type "tuple"):IsI K H (.ref a) (.ty "bool") false:=e.elim (fun ⟨_,e⟩=>⟨_,_,.tup e,rfl,by with_unfolding_all rfl⟩) fun ⟨_,e,c⟩=>⟨_,_,.kt e c,rfl,by with_unfolding_all rfl⟩
def ymT {K:PySem.W.Frag}(e:(∃ xs,H a=some (.tup xs))\/∃ o,K.lookup a=some o/\o.cls=.type "tuple"):IsI K H (.ref a) (.ty "str") false:=e.elim (fun ⟨_,e⟩=>⟨_,_,.tup e,rfl,by with_unfolding_all rfl⟩) fun ⟨_,e,c⟩=>⟨_,_,.kt e c,rfl,by with_unfolding_all rfl⟩
def ylo {K:PySem.W.Frag}(e:(∃ xs,H a=some (.tup xs))\/∃ o,K.lookup a=some o/\o.cls=.type "tuple"):IsI K H (.ref a) (.ty "list") false:=e.elim (fun ⟨_,e⟩=>⟨_,_,.tup e,rfl,by with_unfolding_all rfl⟩) fun ⟨_,e,c⟩=>⟨_,_,.kt e c,rfl,by with_unfolding_all rfl⟩
def ylp {K:PySem.W.Frag}(e:(∃ xs,H a=some (.tup xs))\/∃ o,K.lookup a=some o/\o.cls=.type "tuple"):IsI K H (.ref a) (.ty "dict") false:=e.elim (fun ⟨_,e⟩=>⟨_,_,.tup e,rfl,by with_unfolding_all rfl⟩) fun ⟨_,e,c⟩=>⟨_,_,.kt e c,rfl,by with_unfolding_all rfl⟩
def ytp {K:PySem.W.Frag}{C:Addr}:PySem.W.kitOne K (.ref C) (.ref C)=some true:=by
 unfold PySem.W.kitOne;have:((Value.ref C) == (Value.ref C))=true:=by simp
 rw [if_pos this]
def ytq {K:PySem.W.Frag}{C C':Addr}{b:Bool}(hm:mroIn K C' (.type "object")=some true) (ht:typeIn K (.ref C')=some (.type "type")) (hs:subIn K (.ref C) (.ref C')=some b):PySem.W.kitCls K (.ref C) (.ref C')=some b:=by
 unfold PySem.W.kitCls;have h1:(PySem.W.clsIn K C').isSome=true:=by
  unfold mroIn at hm;cases e:PySem.W.clsIn K C' with
  | none=>rw [e] at hm;cases hm
  | some c=>rfl
 have h2:(typeIn K (.ref C') == some (.type "type"))=true:=by rw [ht];simp
 show (if _ then _ else _)=_;rw [if_pos (by rw [h1,h2];rfl)];exact hs
def ytr {K:PySem.W.Frag}{C C':Addr}(hn:(C == C')=false) (hm:mroIn K C' (.type "object")=some true) (ht:typeIn K (.ref C')=some (.type "type")) (hs:subIn K (.ref C) (.ref C')=some false):PySem.W.kitOne K (.ref C) (.ref C')=some false:=by
 unfold PySem.W.kitOne;have:¬ ((Value.ref C) == (Value.ref C'))=true:=by intro z;have z:=eq_of_beq z;cases z;simp at hn
 rw [if_neg this];exact ytq hm ht hs
end L2
namespace PX
open PySem L2
structure Ck where
 K:PySem.W.Frag
 A:Nat->Addr
inductive PV where
 | non|bl (b:Bool)|int (i:Int)|str (s:Str)|ty (n:String)|cls (k:Nat)
 | scr (ns:List Int)
 | lst (xs:List PV)|tup (xs:List PV)
 | ins (k:Nat) (ns:List Str) (xs:List PV)
 | loc (n:Nat)
 | exc (n:Str)|xcl (n:Str)
inductive Nd where
 | lst (xs:List PV)|dct (ks:List Key) (xs:List PV)|fz (ks:List Key) (xs:List PV)|ins (k:Nat) (ns:List Str) (xs:List PV)|dead
abbrev AH:=List Nd
inductive PVar where|no|val (x:PV)|own (d:Nd)
abbrev PSt:=List PVar
inductive Out where|nx (Y:PSt)|rt (x:PV)|bk (Y:PSt)|ct (Y:PSt)
abbrev XE:=PSt->AH->Option (PV×AH)
abbrev XT:=PSt->AH->Option (Bool×AH)
abbrev XA:=PSt->AH->Option (List PV×AH)
abbrev XO:=PSt->AH->Option (Nd×AH)
abbrev XS:=PSt->AH->Option (Out×AH)
abbrev Fn:=List PV->AH->Option (PV×AH)
def KTp (K:PySem.W.Frag) (a:Addr) (xs:List V):Prop:=∃ (o:Obj) (its:Array Value) (n:Nat),K.lookup a=some o/\o.cls=.type "tuple"/\o.data=.seq its n/\its.size<=sizeLine/\Vals xs its.toList
def TpAt (K:PySem.W.Frag) (F:Hp) (a:Addr) (xs:List V):Prop:=F a=some (.tup xs)\/KTp K a xs
def TpAt.mono (s:Same F F') (h:TpAt K F a xs):TpAt K F' a xs:=h.elim (fun h=>.inl (s _ _ h)) .inr
mutual
noncomputable def Rep (K:Ck) (F:Hp) (m:List Addr):PV->V->Prop
 | .non,v=>v=.non
 | .bl b,v=>v=.bl b
 | .int i,v=>v=.int i
 | .str s,v=>v=.str s
 | .ty n,v=>v=.ty n
 | .cls k,v=>v=.ref (K.A k)
 | .scr ns,v=>∃ a,v=.ref a/\SqL K.K F a (ns.map V.int)
 | .lst xs,v=>∃ a vs,v=.ref a/\F a=some (.lst vs)/\RepL K F m xs vs
 | .tup xs,v=>∃ a vs,v=.ref a/\TpAt K.K F a vs/\RepL K F m xs vs
 | .ins k ns xs,v=>∃ a dx vs,v=.ref a/\F a=some (.ins (K.A k) dx (ns.zip vs))/\vs.length=ns.length/\RepL K F m xs vs
 | .loc n,v=>∃ a,v=.ref a/\m[n]?=some a
 | .exc n,v=>∃ a,v=.ref a/\F a=some (ExO (xAd K.K n) a)
 | .xcl n,v=>v=.ref (xAd K.K n)
noncomputable def RepL (K:Ck) (F:Hp) (m:List Addr):List PV->List V->Prop
 | [],vs=>vs=[]
 | x::xs,vs=>∃ v r,vs=v::r/\Rep K F m x v/\RepL K F m xs r
end
section
variable {K:Ck}{F F' H H':Hp}{m m':List Addr}
def yem {n:Nat}{a:Addr}(p:m <+: m') (h:m[n]?=some a):m'[n]?=some a:=by obtain ⟨r,rfl⟩:=p;rw [getElem?_append_left (List.getElem?_eq_some_iff.mp h).1];exact h
mutual
theorem Rep.mono (s:Same F F') (p:m <+: m'):∀ (x:PV) (v:V),Rep K F m x v->Rep K F' m' x v
 | .non,_,h=>h
 | .bl _,_,h=>h
 | .int _,_,h=>h
 | .str _,_,h=>h
 | .ty _,_,h=>h
 | .cls _,_,h=>h
 | .scr _,_,⟨a,e,h⟩=>⟨a,e,s.seq h⟩
 | .lst xs,_,⟨a,vs,e,h,r⟩=>⟨a,vs,e,s _ _ h,RepL.mono s p xs vs r⟩
 | .tup xs,_,⟨a,vs,e,h,r⟩=>⟨a,vs,e,h.mono s,RepL.mono s p xs vs r⟩
 | .ins _ _ xs,_,⟨a,dx,vs,e,h,l,r⟩=>⟨a,dx,vs,e,s _ _ h,l,RepL.mono s p xs vs r⟩
 | .loc _,_,⟨a,e,h⟩=>⟨a,e,yem p h⟩
 | .exc _,_,⟨a,e,h⟩=>⟨a,e,s _ _ h⟩
 | .xcl _,_,h=>h
theorem RepL.mono (s:Same F F') (p:m <+: m'):∀ (xs:List PV) (vs:List V),RepL K F m xs vs->RepL K F' m' xs vs
 | [],_,h=>h
 | x::xs,_,⟨v,r,e,h,l⟩=>⟨v,r,e,Rep.mono s p x v h,RepL.mono s p xs r l⟩
end
theorem RepL.len:∀ {xs:List PV}{vs:List V},RepL K F m xs vs->vs.length=xs.length
 | [],_,h=>by rw [show _=[] from h];rfl
 | x::xs,_,⟨v,r,e,h,l⟩=>by rw [e,length_cons,length_cons,RepL.len l]
theorem RepL.get:∀ {xs:List PV}{vs:List V}{i:Nat}{x:PV},RepL K F m xs vs->xs[i]?=some x->∃ v,vs[i]?=some v/\Rep K F m x v
 | x::xs,_,0,y,⟨v,r,e,h,l⟩,q=>by simp at q;subst q;subst e;exact ⟨v,rfl,h⟩
 | x::xs,_,i+1,y,⟨v,r,e,h,l⟩,q=>by subst e;obtain ⟨w,h1,h2⟩:=RepL.get (i:=i) l (by simpa using q);exact ⟨w,by simpa using h1,h2⟩
def RepL.get' {xs:List PV}{vs:List V}{i:Nat}{v:V}(h:RepL K F m xs vs) (e:vs[i]?=some v):∃ x,xs[i]?=some x/\Rep K F m x v:=by have hl:=h.len;have hi:i<vs.length:=(List.getElem?_eq_some_iff.mp e).1;have hx:xs[i]?=some xs[i]:=List.getElem?_eq_getElem (by omega);obtain ⟨w,h1,h2⟩:=h.get hx;rw [e] at h1;cases h1;exact ⟨_,hx,h2⟩
theorem RepL.app:∀ {xs ys:List PV}{vs us:List V},RepL K F m xs vs->RepL K F m ys us->RepL K F m (xs++ys) (vs++us)
 | [],_,_,_,h,k=>by rw [show _=[] from h];exact k
 | x::xs,ys,_,us,⟨v,r,e,h,l⟩,k=>by subst e;exact ⟨v,r++us,rfl,h,RepL.app l k⟩
def RepL.snoc (h:RepL K F m xs vs) (k:Rep K F m x v):RepL K F m (xs++[x]) (vs++[v]):=h.app ⟨v,[],rfl,k,rfl⟩
theorem RepL.drop:∀ {xs:List PV}{vs:List V}(n:Nat),RepL K F m xs vs->RepL K F m (xs.drop n) (vs.drop n)
 | _,_,0,h=>by simpa using h
 | [],_,n+1,h=>by rw [show _=[] from h];rfl
 | x::xs,_,n+1,⟨v,r,e,h,l⟩=>by subst e;simpa using RepL.drop n l
theorem RepL.take:∀ {xs:List PV}{vs:List V}(n:Nat),RepL K F m xs vs->RepL K F m (xs.take n) (vs.take n)
 | _,_,0,h=>by simp;rfl
 | [],_,n+1,h=>by rw [show _=[] from h];rfl
 | x::xs,_,n+1,⟨v,r,e,h,l⟩=>by subst e;exact ⟨v,r.take n,rfl,h,RepL.take n l⟩
theorem RepL.set:∀ {xs:List PV}{vs:List V}{x:PV}{v:V}(i:Nat),RepL K F m xs vs->Rep K F m x v->RepL K F m (xs.set i x) (vs.set i v)
 | [],_,_,_,_,h,_=>by rw [show _=[] from h];rfl
 | y::xs,_,x,v,0,⟨w,r,e,h,l⟩,k=>by subst e;exact ⟨v,r,rfl,k,l⟩
 | y::xs,_,x,v,i+1,⟨w,r,e,h,l⟩,k=>by subst e;exact ⟨w,r.set i v,rfl,h,RepL.set i l k⟩
theorem RepL.of_ints:∀ (ns:List Int),RepL K F m (ns.map PV.int) (ns.map V.int)
 | []=>rfl
 | n::ns=>⟨_,_,rfl,rfl,RepL.of_ints ns⟩
end
noncomputable def NdAt (K:Ck) (F H:Hp) (m:List Addr):Nd->Addr->Prop
 | .dead,a=>∃ o,H a=some o
 | .lst xs,a=>F a=none/\∃ vs,H a=some (.lst vs)/\RepL K F m xs vs
 | .dct ks xs,a=>F a=none/\∃ vs,H a=some (.dK (ks.zip vs))/\vs.length=ks.length/\RepL K F m xs vs
 | .fz ks xs,a=>F a=none/\∃ o vs,H a=some (.frz o (.dK (ks.zip vs)))/\vs.length=ks.length/\RepL K F m xs vs
 | .ins k ns xs,a=>F a=none/\∃ dx vs,H a=some (.ins (K.A k) dx (ns.zip vs))/\vs.length=ns.length/\RepL K F m xs vs
structure Wd where
 F:Hp
 H:Hp
 m:List Addr
 h:AH
structure WOk (K:Ck) (W:Wd):Prop where
 le:Same W.F W.H
 len:W.m.length=W.h.length
 nd:W.m.Nodup
 at_:∀ (n:Nat) (d:Nd) (a:Addr),W.h[n]?=some d->W.m[n]?=some a->NdAt K W.F W.H W.m d a
structure Le (K:Ck) (W W':Wd):Prop where
 ok:WOk K W'
 fs:Same W.F W'.F
 pre:W.m <+: W'.m
 keep:∀ b o,W.H b=some o->b∉W.m->W'.H b=some o
 new:∀ b o,W.H b=some o->b∉W.m->W.F b=none->W'.F b=none
 mn:∀ b∈W'.m,b∉W.m->W.H b=none
 fz:∀ (n:Nat) (ks:List Key) (xs:List PV),W.h[n]?=some (.fz ks xs)->W'.h[n]?=some (.fz ks xs)/\∀ a,W.m[n]?=some a->W'.H a=W.H a
theorem Le.refl (h:WOk K W):Le K W W:=⟨h,Same.refl _,prefix_refl _,fun _ _ e _=>e,fun _ _ _ _ e=>e,fun _ h h'=>absurd h h',fun _ _ _ e=>⟨e,fun _ _=>rfl⟩⟩
theorem Le.trans (a:Le K W W1) (b:Le K W1 W2):Le K W W2 where
 ok:=b.ok
 fs:=a.fs.trans b.fs
 pre:=a.pre.trans b.pre
 keep:=fun c o e n=>b.keep c o (a.keep c o e n) fun z=>by rw [a.mn c z n] at e;cases e
 new:=fun c o e n f=>b.new c o (a.keep c o e n) (fun z=>by rw [a.mn c z n] at e;cases e) (a.new c o e n f)
 mn:=fun c z n=>by
  by_cases hc:c∈W1.m
  .exact a.mn c hc n
  .have:=b.mn c z hc
   cases e:W.H c with
   | none=>rfl
   | some o=>rw [a.keep c o e n] at this;cases this
 fz:=fun n ks xs e=>by obtain ⟨e1,q1⟩:=a.fz n ks xs e;obtain ⟨e2,q2⟩:=b.fz n ks xs e1;exact ⟨e2,fun c em=>(q2 c (yem a.pre em)).trans (q1 c em)⟩
abbrev ycG (K:Ck) (W:Wd) (x:PV) (v:V):Prop:=Rep K W.F W.m x v
abbrev ycE (K:Ck) (W:Wd) (x:List PV) (v:List V):Prop:=RepL K W.F W.m x v
def Le.rep (l:Le K W W') (h:ycG K W x v):ycG K W' x v:=Rep.mono l.fs l.pre x v h
def Le.repL (l:Le K W W') (h:ycE K W x v):ycE K W' x v:=RepL.mono l.fs l.pre x v h
theorem NdAt.mono (s:Same F F') (p:m <+: m') (hH:∀ o,H a=some o->H' a=some o) (hF:F a=none->F' a=none) (h:NdAt K F H m d a):NdAt K F' H' m' d a:=by
 cases d with
 | dead=>obtain ⟨o,e⟩:=h;exact ⟨o,hH _ e⟩
 | lst xs=>obtain ⟨f,vs,e,r⟩:=h;exact ⟨hF f,vs,hH _ e,RepL.mono s p _ _ r⟩
 | dct ks xs=>obtain ⟨f,vs,e,l,r⟩:=h;exact ⟨hF f,vs,hH _ e,l,RepL.mono s p _ _ r⟩
 | fz ks xs=>obtain ⟨f,o,vs,e,l,r⟩:=h;exact ⟨hF f,o,vs,hH _ e,l,RepL.mono s p _ _ r⟩
 | ins C ns xs=>obtain ⟨f,dx,vs,e,l,r⟩:=h;exact ⟨hF f,dx,vs,hH _ e,l,RepL.mono s p _ _ r⟩
def NdAt.some (h:NdAt K F H m d a):∃ o,H a=some o:=by
 cases d with
 | dead=>exact h
 | lst xs=>obtain ⟨f,vs,e,r⟩:=h;exact ⟨_,e⟩
 | dct ks xs=>obtain ⟨f,vs,e,r⟩:=h;exact ⟨_,e⟩
 | fz ks xs=>obtain ⟨f,o,vs,e,r⟩:=h;exact ⟨_,e⟩
 | ins C ns xs=>obtain ⟨f,dx,vs,e,r⟩:=h;exact ⟨_,e⟩
structure Good (K:Ck) (W0 W:Wd) (Y:PSt) (Z:St):Prop where
 le:Le K W0 W
 len:Z.length=Y.length
 val:∀ (i:Nat) (x:PV),Y[i]?=some (.val x)->∃ v,Z[i]?=some (some v)/\ycG K W x v
 own:∀ (i:Nat) (d:Nd),Y[i]?=some (.own d)->∃ p,Z[i]?=some (some (.ref p))/\p∉W.m/\W0.H p=none/\d≠.dead/\NdAt K W.F W.H W.m d p
 ne:∀ (i j:Nat) (d d':Nd),i≠j->Y[i]?=some (.own d)->Y[j]?=some (.own d')->Z[i]?≠Z[j]?
theorem Good.ok (g:Good K W0 W Y Z):WOk K W:=g.le.ok
def Good.step (g:Good K W0 W Y Z) (l:Le K W W'):Good K W0 W' Y Z where
 le:=g.le.trans l
 len:=g.len
 val:=fun i x e=>let ⟨v,h1,h2⟩:=g.val i x e;⟨v,h1,l.rep h2⟩
 own:=fun i d e=>by
  obtain ⟨p,h1,h2,h3,h4,h5⟩:=g.own i d e;obtain ⟨o,ho⟩:=h5.some;have n':p∉W'.m:=fun z=>by rw [l.mn p z h2] at ho;cases ho
  refine ⟨p,h1,n',h3,h4,h5.mono l.fs l.pre (fun o e=>l.keep p o e h2) fun f=>l.new p o ho h2 f⟩
 ne:=g.ne
theorem WOk.some (w:WOk K W) (h:a∈W.m):∃ o,W.H a=some o:=by
 obtain ⟨n,hn,e⟩:=getElem_of_mem h;have hl:n<W.h.length:=by rw [<- w.len];exact hn
 exact (w.at_ n W.h[n] a (List.getElem?_eq_getElem hl) (by rw [List.getElem?_eq_getElem hn,e])).some
def Le.fresh (l:Le K W W') (h:W'.H p=none):W.H p=none:=by
 cases e:W.H p with
 | none=>rfl
 | some o =>
  by_cases hm:p∈W.m
  .obtain ⟨o,q⟩:=l.ok.some (l.pre.subset hm);rw [h] at q;cases q
  .rw [l.keep p o e hm] at h;cases h
def WOk.out (w:WOk K W) (h:W.H p=none):p∉W.m:=fun z=>by obtain ⟨o,q⟩:=w.some z;rw [h] at q;cases q
def WOk.ff (w:WOk K W) (h:W.H p=none):W.F p=none:=Same.free w.le h
structure Lf (K:Ck) (W W':Wd):Prop where
 fs:Same W.F W'.F
 pre:W.m <+: W'.m
 fz:∀ (n:Nat) (ks:List Key) (xs:List PV),W.h[n]?=some (.fz ks xs)->W'.h[n]?=some (.fz ks xs)/\∀ a,W.m[n]?=some a->W'.H a=W.H a
def Le.lf (l:Le K W W'):Lf K W W':=⟨l.fs,l.pre,l.fz⟩
theorem Lf.refl:Lf K W W:=⟨Same.refl _,prefix_refl _,fun _ _ _ e=>⟨e,fun _ _=>rfl⟩⟩
theorem Lf.trans (a:Lf K W W1) (b:Lf K W1 W2):Lf K W W2:=⟨a.fs.trans b.fs,a.pre.trans b.pre,fun n ks xs e=>by obtain ⟨e1,q1⟩:=a.fz n ks xs e;obtain ⟨e2,q2⟩:=b.fz n ks xs e1;exact ⟨e2,fun c em=>(q2 c (yem a.pre em)).trans (q1 c em)⟩⟩
def Lf.rep (l:Lf K W W') (h:ycG K W x v):ycG K W' x v:=Rep.mono l.fs l.pre x v h
noncomputable def ybR (K:Ck) (t:TE) (e:XE):Prop:=∀ (W0 W:Wd) (Y:PSt) (Z:St) (Q:VK) (x:PV) (h':AH),Good K W0 W Y Z->e Y W.h=some (x,h') ->
 (∀ v W',W'.h=h'->Le K W W'->ycG K W' x v->Q v W'.H)->t Z W.H Q
noncomputable def ymm (K:Ck) (t:TT) (e:XT):Prop:=∀ (W0 W:Wd) (Y:PSt) (Z:St) (Q:Bool->Hp->Prop) (x:Bool) (h':AH),Good K W0 W Y Z->e Y W.h=some (x,h') ->
 (∀ W',W'.h=h'->Le K W W'->Q x W'.H)->t Z W.H Q
noncomputable def ylq (K:Ck) (t:TA) (e:XA):Prop:=∀ (W0 W:Wd) (Y:PSt) (Z:St) (Q:List V->Hp->Prop) (x:List PV) (h':AH),Good K W0 W Y Z->e Y W.h=some (x,h') ->
 (∀ v W',W'.h=h'->Le K W W'->ycE K W' x v->Q v W'.H)->t Z W.H Q
def ymn (K:Ck) (t:TE) (e:XO):Prop:=∀ (W0 W:Wd) (Y:PSt) (Z:St) (Q:VK) (d:Nd) (h':AH),Good K W0 W Y Z->e Y W.h=some (d,h') ->
 (∀ p W',W'.h=h'->Le K W W'->p∉W'.m->W.H p=none->d≠.dead->NdAt K W'.F W'.H W'.m d p->Q (.ref p) W'.H)->t Z W.H Q
noncomputable def Ends.Ok (K:Ck) (W0 W:Wd) (D:Ends) (h':AH):Out->Prop
 | .nx Y'=>∀ W' Z',W'.h=h'->Lf K W W'->Good K W0 W' Y' Z'->D.nx Z' W'.H
 | .bk Y'=>∀ W' Z',W'.h=h'->Lf K W W'->Good K W0 W' Y' Z'->D.bk Z' W'.H
 | .ct Y'=>∀ W' Z',W'.h=h'->Lf K W W'->Good K W0 W' Y' Z'->D.ct Z' W'.H
 | .rt x=>∀ W' v,W'.h=h'->Le K W0 W'->ycG K W' x v->D.rt v W'.H
def yfb (K:Ck) (t:TS) (s:XS):Prop:=∀ (W0 W:Wd) (Y:PSt) (Z:St) (D:Ends) (o:Out) (h':AH),Good K W0 W Y Z->s Y W.h=some (o,h')->Ends.Ok K W0 W D h' o->t D Z W.H
noncomputable def ob {Z B:Type}(o:Option (Z×AH)) (f:Z->AH->Option B):Option B:=o.bind fun q=>f q.1 q.2
def yi {Z B:Type}{o:Option (Z×AH)}{f:Z->AH->Option B}{b:B}(h:ob o f=some b):∃ x h',o=some (x,h')/\f x h'=some b:=by obtain ⟨⟨x,h'⟩,e,k⟩:=Option.bind_eq_some_iff.mp h;exact ⟨x,h',e,k⟩
variable {K:Ck}
def ye (i:Nat):XE:=fun Y h=>match Y[i]? with|some (.val x)=>some (x,h)|_=>none
def xC (x:PV):XE:=fun _ h=>some (x,h)
abbrev P2:=PV->PV->AH->Option (PV×AH)
abbrev P2O:=PV->PV->AH->Option (Nd×AH)
def xOp (p:P2) (a b:XE):XE:=fun Y h=>ob (a Y h) fun x h1=>ob (b Y h1) fun y h2=>p x y h2
def ypP (p:P2O) (a b:XE):XO:=fun Y h=>ob (a Y h) fun x h1=>ob (b Y h1) fun y h2=>p x y h2
def xUn (p:PV->AH->Option (PV×AH)) (a:XE):XE:=fun Y h=>ob (a Y h) fun x h1=>p x h1
def oB (x:PV) (h:AH):Option (Bool×AH):=match x with|.bl b=>some (b,h)|_=>none
def yfn (p p':P2) (a b c:XE):XE:=fun Y h=>ob (a Y h) fun x h1=>ob (b Y h1) fun y h2=>ob (p x y h2) fun z h3=>ob (oB z h3) fun k h3=>if k=true then ob (c Y h3) fun w h4=>p' y w h4 else some (.bl false,h3)
def yz (a:XE):XT:=fun Y h=>ob (a Y h) oB
def yjA (a b:XE):XE:=fun Y h=>ob (a Y h) fun x h1=>ob (oB x h1) fun k h1=>if k=true then b Y h1 else some (.bl false,h1)
def ywX (a:XE):XE:=fun Y h=>ob (a Y h) fun x h1=>ob (oB x h1) fun k h1=>some (.bl (!k),h1)
def yvH (a b:XT):XT:=fun Y h=>ob (a Y h) fun k h1=>if k=true then b Y h1 else some (false,h1)
def xOr (a b:XT):XT:=fun Y h=>ob (a Y h) fun k h1=>if k=true then some (true,h1) else b Y h1
def ymo (a:XT):XT:=fun Y h=>ob (a Y h) fun k h1=>some (!k,h1)
def xIf (c:XT) (a b:XE):XE:=fun Y h=>ob (c Y h) fun k h1=>if k=true then a Y h1 else b Y h1
def yh:XA:=fun _ h=>some ([],h)
def yc (a:XE) (r:XA):XA:=fun Y h=>ob (a Y h) fun x h1=>ob (r Y h1) fun xs h2=>some (x::xs,h2)
def yfC (a:XA):XE:=fun Y h=>ob (a Y h) fun xs h1=>if xs.length<=1000 then some (.tup xs,h1) else none
def yec (a:XA):XO:=fun Y h=>ob (a Y h) fun xs h1=>if xs.length<=1000 then some (.lst xs,h1) else none
def xFz (e:XO):XE:=fun Y h=>ob (e Y h) fun d h1=>match d with|.lst xs=>some (.lst xs,h1)|.ins k ns xs=>some (.ins k ns xs,h1)|_=>none
def yfo (e:XO):XE:=fun Y h=>ob (e Y h) fun d h1=>some (.loc h1.length,h1++[d])
def yW (f:Fn) (a:XA):XE:=fun Y h=>ob (a Y h) f
def xCB (p:List PV->AH->Option (PV×AH)) (a:XA):XE:=fun Y h=>ob (a Y h) p
def yfc (p:List PV->AH->Option (Nd×AH)) (a:XA):XO:=fun Y h=>ob (a Y h) p
abbrev PM:=PV->List PV->AH->Option (PV×AH)
def xBM (c:PV->AH->Bool) (p:PM) (o:XE) (a:XA):XE:=fun Y h=>ob (o Y h) fun x h1=>if c x h1=true then ob (a Y h1) fun xs h2=>p x xs h2 else none
def yen (e:XE):PSt->AH->Option (Option Int×AH):=fun Y h=>ob (e Y h) fun x h1=>match x with|.int i=>some (some i,h1)|_=>none
def yci:PSt->AH->Option (Option Int×AH):=fun _ h=>some (none,h)
def yjB (p:PV->Option Int->Option Int->AH->Option (Nd×AH)) (e:XE) (lo hi:PSt->AH->Option (Option Int×AH)):XO:=fun Y h=>ob (e Y h) fun x h1=>ob (lo Y h1) fun l h2=>ob (hi Y h2) fun u h3=>p x l u h3
noncomputable def ycj (K:Ck) (r:R2) (p:P2):Prop:=∀ (W:Wd) (x y:PV) (v u:V) (Q:VK) (z:PV) (h':AH),WOk K W->ycG K W x v->ycG K W y u->p x y W.h=some (z,h')->(∀ w W',W'.h=h'->Le K W W'->ycG K W' z w->Q w W'.H)->r v u W.H Q
def yph (K:Ck) (W:Wd) (d:Nd) (h':AH) (Q:VK):Prop:=∀ p W',W'.h=h'->Le K W W'->p∉W'.m->W.H p=none->d≠.dead->NdAt K W'.F W'.H W'.m d p->Q (.ref p) W'.H
def ynY (K:Ck) (r:R2) (p:P2O):Prop:=∀ (W:Wd) (x y:PV) (v u:V) (Q:VK) (d:Nd) (h':AH),WOk K W->ycG K W x v->ycG K W y u->p x y W.h=some (d,h')->yph K W d h' Q->r v u W.H Q
noncomputable def ywY (K:Ck) (r:V->Hp->VK->Prop) (p:PV->AH->Option (PV×AH)):Prop:=∀ (W:Wd) (x:PV) (v:V) (Q:VK) (z:PV) (h':AH),WOk K W->ycG K W x v->p x W.h=some (z,h')->(∀ w W',W'.h=h'->Le K W W'->ycG K W' z w->Q w W'.H)->r v W.H Q
noncomputable def yhz (K:Ck) (r:List V->Hp->VK->Prop) (p:List PV->AH->Option (PV×AH)):Prop:=∀ (W:Wd) (xs:List PV) (vs:List V) (Q:VK) (z:PV) (h':AH),WOk K W->ycE K W xs vs->p xs W.h=some (z,h')->(∀ w W',W'.h=h'->Le K W W'->ycG K W' z w->Q w W'.H)->r vs W.H Q
def yqB (K:Ck) (r:List V->Hp->VK->Prop) (p:List PV->AH->Option (Nd×AH)):Prop:=∀ (W:Wd) (xs:List PV) (vs:List V) (Q:VK) (d:Nd) (h':AH),WOk K W->ycE K W xs vs->p xs W.h=some (d,h')->yph K W d h' Q->r vs W.H Q
def yhA (K:Ck) (T:String) (c:PV->AH->Bool) (r:V->List V->Hp->VK->Prop) (p:PM):Prop :=
 (∀ (W:Wd) (x:PV) (v:V),WOk K W->ycG K W x v->c x W.h=true->tyV K.K T v W.H) /\
 ∀ (W:Wd) (x:PV) (v:V) (xs:List PV) (vs:List V) (Q:VK) (z:PV) (h':AH),WOk K W->ycG K W x v->ycE K W xs vs->p x xs W.h=some (z,h')->(∀ w W',W'.h=h'->Le K W W'->ycG K W' z w->Q w W'.H)->r v vs W.H Q
def ywZ (i:Nat):ybR K (ypN i) (ye i):=by
 intro W0 W Y Z Q x h' g e q;unfold ye at e;split at e
 .rename_i y hy;cases e;obtain ⟨v,h1,h2⟩:=g.val i _ hy;exact ⟨v,h1,q v W rfl (.refl g.ok) h2⟩
 .cases e
def ypi (h:∀ W:Wd,ycG K W x v):ybR K (tC v) (xC x):=by intro W0 W Y Z Q y h' g e q;cases e;exact q v W rfl (.refl g.ok) (h W)
def yqC:ybR K (tC (.int i)) (xC (.int i)):=ypi fun _=>rfl
def yqD:ybR K (tC (.str i)) (xC (.str i)):=ypi fun _=>rfl
def yAb:ybR K (tC (.bl i)) (xC (.bl i)):=ypi fun _=>rfl
def yxa:ybR K (tC .non) (xC .non):=ypi fun _=>rfl
def yAc:ybR K (tC (.ty n)) (xC (.ty n)):=ypi fun _=>rfl
def yxb:ybR K (tC (.ref (K.A k))) (xC (.cls k)):=ypi fun _=>rfl
section
variable {ta tb tc:TE}{ea eb ec:XE}{t:TA}{e:XA}
def ynZ (o:ycj K r p) (a:ybR K ta ea) (b:ybR K tb eb):ybR K (tOp r ta tb) (xOp p ea eb):=by
 intro W0 W Y Z Q z h' g e q;obtain ⟨x,h1,e1,f1⟩:=yi e;obtain ⟨y,h2,e2,f2⟩:=yi f1;refine a W0 W Y Z _ x h1 g e1 fun v W1 w1 l1 r1=>?_
 subst w1;refine b W0 W1 Y Z _ y h2 (g.step l1) e2 fun u W2 w2 l2 r2=>?_
 subst w2;exact o W2 x y v u Q z h' l2.ok (l2.rep r1) r2 f2 fun w W3 w3 l3 r3=>q w W3 w3 (l1.trans (l2.trans l3)) r3
def ygu {Q:VK}(l:Le K W W1) (q:yph K W d h' Q):yph K W1 d h' Q:=fun p W' e l' n f=>q p W' e (l.trans l') n (l.fresh f)
def yxc (o:ynY K r p) (a:ybR K ta ea) (b:ybR K tb eb):ymn K (tOp r ta tb) (ypP p ea eb):=by
 intro W0 W Y Z Q z h' g e q;obtain ⟨x,h1,e1,f1⟩:=yi e;obtain ⟨y,h2,e2,f2⟩:=yi f1;refine a W0 W Y Z _ x h1 g e1 fun v W1 w1 l1 r1=>?_
 subst w1;refine b W0 W1 Y Z _ y h2 (g.step l1) e2 fun u W2 w2 l2 r2=>?_
 subst w2;exact o W2 x y v u Q z h' l2.ok (l2.rep r1) r2 f2 (ygu (l1.trans l2) q)
def yAd {r} {p} (o:ywY K r p) (a:ybR K ta ea):ybR K (tUn r ta) (xUn p ea):=by
 intro W0 W Y Z Q z h' g e q;obtain ⟨x,h1,e1,f1⟩:=yi e;refine a W0 W Y Z _ x h1 g e1 fun v W1 w1 l1 r1=>?_
 subst w1;exact o W1 x v Q z h' l1.ok r1 f1 fun w W3 w3 l3 r3=>q w W3 w3 (l1.trans l3) r3
def yjC (e:oB x h=some (k,h')):x=.bl k/\h'=h:=by
 unfold oB at e;split at e
 .cases e;exact ⟨rfl,rfl⟩
 .cases e
def ylr (o:ycj K r p) (o':ycj K r' p') (a:ybR K ta ea) (b:ybR K tb eb) (c:ybR K tc ec):ybR K (yqj r r' ta tb tc) (yfn p p' ea eb ec):=by
 intro W0 W Y Z Q z h' g e q;obtain ⟨x,h1,e1,f1⟩:=yi e;obtain ⟨y,h2,e2,f2⟩:=yi f1;obtain ⟨z',h3,e3,f3⟩:=yi f2;obtain ⟨k,h3',e3',f4⟩:=yi f3;obtain ⟨rfl,rfl⟩:=yjC e3';refine a W0 W Y Z _ x h1 g e1 fun v W1 w1 l1 r1=>?_
 subst w1;refine b W0 W1 Y Z _ y h2 (g.step l1) e2 fun u W2 w2 l2 r2=>?_
 subst w2;refine o W2 x y v u _ _ _ l2.ok (l2.rep r1) r2 e3 fun w W3 w3 l3 r3=>⟨k,r3,?_⟩
 subst w3;have l:=l1.trans (l2.trans l3);cases k with
 | false =>
  rw [if_neg (by decide)] at f4 ⊢;cases f4;exact q _ W3 rfl l rfl
 | true =>
  rw [if_pos rfl] at f4 ⊢;obtain ⟨w',h4,e4,f5⟩:=yi f4;refine c W0 W3 Y Z _ w' h4 (g.step l) e4 fun u' W4 w4 l4 r4=>?_
  subst w4;exact o' W4 y w' u u' Q z h' l4.ok ((l3.trans l4).rep r2) r4 f5 fun w W5 w5 l5 r5=>q w W5 w5 (l.trans (l4.trans l5)) r5
def yhl (a:ybR K ta ea):ymm K (ywG ta) (yz ea):=by intro W0 W Y Z Q k h' g e q;obtain ⟨x,h1,e1,f1⟩:=yi e;obtain ⟨rfl,rfl⟩:=yjC f1;exact a W0 W Y Z _ _ _ g e1 fun v W1 w1 l1 r1=>⟨k,r1,q W1 w1 l1⟩
def yAe (a:ybR K ta ea):ymm K (tB ta) (yz ea):=yhl a
def yts (a:ybR K ta ea) (b:ybR K tb eb):ybR K (yzB ta tb) (yjA ea eb):=by
 intro W0 W Y Z Q z h' g e q;obtain ⟨x,h1,e1,f1⟩:=yi e;obtain ⟨k,h1',e1',f2⟩:=yi f1;obtain ⟨rfl,rfl⟩:=yjC e1';refine a W0 W Y Z _ _ _ g e1 fun v W1 w1 l1 r1=>⟨k,r1,?_⟩
 subst w1;cases k with
 | false =>
  rw [if_neg (by decide)] at f2 ⊢;cases f2;exact q _ W1 rfl l1 rfl
 | true =>
  rw [if_pos rfl] at f2 ⊢;exact b W0 W1 Y Z _ z h' (g.step l1) f2 fun v W2 w2 l2 r2=>q v W2 w2 (l1.trans l2) r2
def ytt (a:ybR K ta ea):ybR K (yzC ta) (ywX ea):=by intro W0 W Y Z Q z h' g e q;obtain ⟨x,h1,e1,f1⟩:=yi e;obtain ⟨k,h1',e1',f2⟩:=yi f1;obtain ⟨rfl,rfl⟩:=yjC e1';cases f2;exact a W0 W Y Z _ _ _ g e1 fun v W1 w1 l1 r1=>⟨k,r1,q _ W1 w1 l1 rfl⟩
section
variable {tA tB':TT}{eA eB:XT}
def yxd (a:ymm K tA eA) (b:ymm K tB' eB):ymm K (yEq tA tB') (yvH eA eB):=by
 intro W0 W Y Z Q z h' g e q;obtain ⟨k,h1,e1,f1⟩:=yi e;refine a W0 W Y Z _ _ _ g e1 fun W1 w1 l1=>?_
 subst w1;cases k with
 | false =>
  rw [if_neg (by decide)] at f1 ⊢;cases f1;exact q W1 rfl l1
 | true =>
  rw [if_pos rfl] at f1 ⊢;exact b W0 W1 Y Z _ z h' (g.step l1) f1 fun W2 w2 l2=>q W2 w2 (l1.trans l2)
def yAf (a:ymm K tA eA) (b:ymm K tB' eB):ymm K (tOr tA tB') (xOr eA eB):=by
 intro W0 W Y Z Q z h' g e q;obtain ⟨k,h1,e1,f1⟩:=yi e;refine a W0 W Y Z _ _ _ g e1 fun W1 w1 l1=>?_
 subst w1;cases k with
 | true =>
  rw [if_pos rfl] at f1 ⊢;cases f1;exact q W1 rfl l1
 | false =>
  rw [if_neg (by decide)] at f1 ⊢;exact b W0 W1 Y Z _ z h' (g.step l1) f1 fun W2 w2 l2=>q W2 w2 (l1.trans l2)
def yxe (a:ymm K tA eA):ymm K (yCy tA) (ymo eA):=by intro W0 W Y Z Q z h' g e q;obtain ⟨k,h1,e1,f1⟩:=yi e;cases f1;exact a W0 W Y Z _ _ _ g e1 fun W1 w1 l1=>q W1 w1 l1
def yAg (c:ymm K tA eA) (a:ybR K ta ea) (b:ybR K tb eb):ybR K (tIf tA ta tb) (xIf eA ea eb):=by
 intro W0 W Y Z Q z h' g e q;obtain ⟨k,h1,e1,f1⟩:=yi e;refine c W0 W Y Z _ _ _ g e1 fun W1 w1 l1=>?_
 subst w1;cases k with
 | true =>
  rw [if_pos rfl] at f1 ⊢;exact a W0 W1 Y Z _ z h' (g.step l1) f1 fun v W2 w2 l2 r2=>q v W2 w2 (l1.trans l2) r2
 | false =>
  rw [if_neg (by decide)] at f1 ⊢;exact b W0 W1 Y Z _ z h' (g.step l1) f1 fun v W2 w2 l2 r2=>q v W2 w2 (l1.trans l2) r2
end
def yjD:ylq K ytd yh:=by intro W0 W Y Z Q z h' g e q;cases e;exact q [] W rfl (.refl g.ok) rfl
def ytu (a:ybR K ta ea) (r:ylq K t e):ylq K (ymz ta t) (yc ea e):=by
 intro W0 W Y Z Q z h' g e q;obtain ⟨x,h1,e1,f1⟩:=yi e;obtain ⟨xs,h2,e2,f2⟩:=yi f1;cases f2;refine a W0 W Y Z _ x h1 g e1 fun v W1 w1 l1 r1=>?_
 subst w1;exact r W0 W1 Y Z _ xs _ (g.step l1) e2 fun vs W2 w2 l2 r2=>q (v::vs) W2 w2 (l1.trans l2) ⟨v,vs,rfl,l2.rep r1,r2⟩
def yvI (W:Wd) (p:Addr) (o:HO):Wd:=⟨upd W.F p o,upd W.H p o,W.m,W.h⟩
def ymU (w:WOk K W) (h:W.H p=none):Le K W (yvI W p o):=by
 have hm:=w.out h;have hf:=w.ff h;have sF:Same W.F (upd W.F p o):=ydN hf o;refine ⟨⟨?_,w.len,w.nd,fun n d a e1 e2=>?_⟩,sF,prefix_refl _,fun b u e _=>ydN h o b u e,fun b u e _ f=>?_,fun b z n=>absurd z n,fun n ks xs e1=>⟨e1,fun a e2=>yK fun z=>hm (z ▸ mem_of_getElem? e2)⟩⟩
 .intro b u e;show upd W.H p o b=some u
  by_cases hb:b=p
  .subst hb;rw [show (yvI W b o).F b=upd W.F b o b from rfl,yE] at e;rw [yE];exact e
  .rw [show (yvI W p o).F b=upd W.F p o b from rfl,yK hb] at e;rw [yK hb];exact w.le _ _ e
 .have ha:a≠p:=fun z=>hm (z ▸ mem_of_getElem? e2)
  exact (w.at_ n d a e1 e2).mono sF (prefix_refl _) (fun u e=>by rw [show (yvI W p o).H a=upd W.H p o a from rfl,yK ha];exact e) fun f=>(yK ha).trans f
 .have:b≠p:=ybu e h;rw [show (yvI W p o).F b=upd W.F p o b from rfl,yK this];exact f
def ygv (W:Wd) (p:Addr) (o:HO):Wd:=⟨W.F,upd W.H p o,W.m,W.h⟩
def ycL (w:WOk K W) (h:W.H p=none):Le K W (ygv W p o):=by
 have hm:=w.out h;refine ⟨⟨?_,w.len,w.nd,fun n d a e1 e2=>?_⟩,Same.refl _,prefix_refl _,fun b u e _=>ydN h o b u e,fun b u e _ f=>f,fun b z n=>absurd z n,fun n ks xs e1=>⟨e1,fun a e2=>yK fun z=>hm (z ▸ mem_of_getElem? e2)⟩⟩
 .exact fun b u e=>ydN h o b u (w.le _ _ e)
 .exact (w.at_ n d a e1 e2).mono (Same.refl _) (prefix_refl _) (fun u e=>ydN h o _ _ e) id
def small (h:n<=1000):n<=sizeLine:=le_of_lt (yhy h)
def yxf (a:ylq K t e):ybR K (yEA t) (yfC e):=by
 intro W0 W Y Z Q z h' g e q;obtain ⟨xs,h1,e1,f1⟩:=yi e;split at f1
 .rename_i hl;cases f1;refine a W0 W Y Z _ xs _ g e1 fun vs W1 w1 l1 r1=>⟨small (by rw [r1.len];exact hl),fun p hp=>?_⟩
  have l2:=ymU (o:=.tup vs) l1.ok hp;exact q (.ref p) (yvI W1 p (.tup vs)) w1 (l1.trans l2) ⟨p,vs,rfl,.inl yE,l2.repL r1⟩
 .cases f1
def yxg (a:ylq K t e):ymn K (yEB t) (yec e):=by
 intro W0 W Y Z Q z h' g e q;obtain ⟨xs,h1,e1,f1⟩:=yi e;split at f1
 .rename_i hl;cases f1;refine a W0 W Y Z _ xs _ g e1 fun vs W1 w1 l1 r1=>⟨small (by rw [r1.len];exact hl),fun p hp=>?_⟩
  have l2:=ycL (o:=.lst vs) l1.ok hp;exact q p (ygv W1 p (.lst vs)) w1 (l1.trans l2) (l1.ok.out hp) (l1.fresh hp) (fun z=>by cases z) ⟨l1.ok.ff hp,vs,yE,r1⟩
 .cases f1
def ytv (W:Wd) (p:Addr) (o:HO):Wd:=⟨upd W.F p o,W.H,W.m,W.h⟩
def yqE (w:WOk K W) (h:W.H p=some o) (hm:p∉W.m) (hf:W.F p=none):WOk K (ytv W p o)/\Same W.F (upd W.F p o):=by
 have sF:Same W.F (upd W.F p o):=ydN hf o;refine ⟨⟨?_,w.len,w.nd,fun n d a e1 e2=>?_⟩,sF⟩
 .intro b u e
  by_cases hb:b=p
  .subst hb;rw [show (ytv W b o).F b=upd W.F b o b from rfl,yE] at e;cases e;exact h
  .rw [show (ytv W p o).F b=upd W.F p o b from rfl,yK hb] at e;exact w.le _ _ e
 .have ha:a≠p:=fun z=>hm (z ▸ mem_of_getElem? e2)
  exact (w.at_ n d a e1 e2).mono sF (prefix_refl _) (fun u e=>e) fun f=>(yK ha).trans f
def ymV (l:Le K W W1) (h:W1.H p=some o) (hm:p∉W1.m) (hf:W1.F p=none) (hn:W.H p=none):Le K W (ytv W1 p o):=by obtain ⟨k,sF⟩:=yqE l.ok h hm hf;refine ⟨k,l.fs.trans sF,l.pre,l.keep,fun b u e n f=>?_,l.mn,l.fz⟩;have:b≠p:=ybu e hn;rw [show (ytv W1 p o).F b=upd W1.F p o b from rfl,yK this];exact l.new b u e n f
def yAh (a:ymn K ta o):ybR K ta (xFz o):=by
 intro W0 W Y Z Q z h' g e q;obtain ⟨d,h1,e1,f1⟩:=yi e;refine a W0 W Y Z _ d h1 g e1 fun p W1 w1 l1 hm hn hd at_=>?_
 split at f1
 .rename_i xs;cases f1;obtain ⟨hf,vs,hp,r⟩:=at_
  have l2:=ymV l1 hp hm hf hn;exact q (.ref p) (ytv W1 p (.lst vs)) w1 l2 ⟨p,vs,rfl,yE,RepL.mono (ydN hf _) (prefix_refl _) _ _ r⟩
 .rename_i k ns xs;cases f1;obtain ⟨hf,dx,vs,hp,hl,r⟩:=at_
  have l2:=ymV l1 hp hm hf hn;exact q (.ref p) (ytv W1 p _) w1 l2 ⟨p,dx,vs,rfl,yE,hl,RepL.mono (ydN hf _) (prefix_refl _) _ _ r⟩
 .cases f1
def ymW (a:ymn K ta o):ybR K ta (yfo o):=by
 intro W0 W Y Z Q z h' g e q;obtain ⟨d,h1,e1,f1⟩:=yi e;cases f1;refine a W0 W Y Z _ d h1 g e1 fun p W1 w1 l1 hm hn hd at_=>?_
 subst w1;have pre:W1.m <+: W1.m++[p]:=List.prefix_append _ _;refine q (.ref p) ⟨W1.F,W1.H,W1.m++[p],W1.h++[d]⟩ rfl ⟨⟨l1.ok.le,?_,?_,fun n d' a e1 e2=>?_⟩,l1.fs,l1.pre.trans pre,l1.keep,l1.new,fun b z n=>?_,fun n ks xs e1=>⟨by have:=(l1.fz n ks xs e1).1;show (W1.h++[d])[n]?=_;rw [getElem?_append_left (List.getElem?_eq_some_iff.mp this).1];exact this,(l1.fz n ks xs e1).2⟩⟩ ⟨p,rfl,?_⟩
 .show (W1.m++[p]).length=(W1.h++[d]).length;rw [length_append,length_append,l1.ok.len];rfl
 .show (W1.m++[p]).Nodup;rw [List.nodup_append];refine ⟨l1.ok.nd,by simp,?_⟩;intro a ha b hb;simp at hb;subst hb;exact fun z=>hm (z ▸ ha)
 .have e1:(W1.h++[d])[n]?=some d':=e1;have e2:(W1.m++[p])[n]?=some a:=e2
  by_cases hlt:n<W1.h.length
  .rw [getElem?_append_left hlt] at e1;rw [getElem?_append_left (by rw [l1.ok.len];exact hlt)] at e2;exact (l1.ok.at_ n d' a e1 e2).mono (Same.refl _) pre (fun _ f1=>f1) id
  .rw [getElem?_append_right (by omega)] at e1;rw [getElem?_append_right (by rw [l1.ok.len];omega)] at e2;rw [l1.ok.len] at e2;cases hk:n-W1.h.length with
   | zero =>
    rw [hk] at e1 e2;simp at e1 e2;subst e1 e2;exact at_.mono (Same.refl _) pre (fun _ f1=>f1) id
   | succ k=>rw [hk] at e1;simp at e1
 .have z:b∈W1.m++[p]:=z;rcases List.mem_append.mp z with z|z
  .exact l1.mn b z n
  .simp at z;subst z;exact hn
 .show (W1.m++[p])[W1.h.length]?=some p;rw [<- l1.ok.len];simp
noncomputable def spE (K:Ck) (n:Nat) (f:Fn):Sp:=fun vs H Q _=>∃ (W:Wd) (xs:List PV) (x:PV) (h':AH),W.H=H/\WOk K W/\ycE K W xs vs/\xs.length=n/\f xs W.h=some (x,h')/\∀ v W',W'.h=h'->Le K W W'->ycG K W' x v->Q v W'.H
def ytw (a:ylq K t e) (hn:∀ Y h xs h',e Y h=some (xs,h')->xs.length=n):ybR K (yte (spE K n f) [] ex t) (yW f e):=by
 intro W0 W Y Z Q z h' g e' q;obtain ⟨xs,h1,e1,e2⟩:=yi e';refine a W0 W Y Z _ xs h1 g e1 fun vs W1 w1 l1 r1=>?_
 subst w1;rw [append_nil];exact ⟨W1,xs,z,h',rfl,l1.ok,r1,hn _ _ _ _ e1,e2,fun v W2 w2 l2 r2=>q v W2 w2 (l1.trans l2) r2⟩
def ymX:∀ Y h xs h',yh Y h=some (xs,h')->xs.length=0:=fun Y h xs h' e=>by cases e;rfl
def ytx (l:∀ Y h xs h',e Y h=some (xs,h')->xs.length=n):∀ Y h xs h',yc ea e Y h=some (xs,h')->xs.length=n+1:=fun Y h xs h' q=>by obtain ⟨x,h1,e1,q⟩:=yi q;obtain ⟨ys,h2,e2,q⟩:=yi q;cases q;rw [length_cons,l _ _ _ _ e2]
def yvJ {r} {p} (o:yhz K r p) (a:ylq K t e):ybR K (tCB r t) (xCB p e):=by
 intro W0 W Y Z Q z h' g e' q;obtain ⟨xs,h1,e1,e2⟩:=yi e';refine a W0 W Y Z _ xs h1 g e1 fun vs W1 w1 l1 r1=>?_
 subst w1;exact o W1 xs vs Q z h' l1.ok r1 e2 fun v W2 w2 l2 r2=>q v W2 w2 (l1.trans l2) r2
def yxh {r} {p} (o:yqB K r p) (a:ylq K t e):ymn K (tCB r t) (yfc p e):=by
 intro W0 W Y Z Q z h' g e' q;obtain ⟨xs,h1,e1,e2⟩:=yi e';refine a W0 W Y Z _ xs h1 g e1 fun vs W1 w1 l1 r1=>?_
 subst w1;exact o W1 xs vs Q z h' l1.ok r1 e2 (ygu l1 q)
def yvK {c} {r} {p} (o:yhA K T c r p) (b:ybR K ta ea) (a:ylq K t e):ybR K (tBM K.K T r ta t) (xBM c p ea e):=by
 intro W0 W Y Z Q z h' g e' q;obtain ⟨x,h1,e1,f1⟩:=yi e';split at f1
 .rename_i hc;obtain ⟨xs,h2,e2,f2⟩:=yi f1;refine b W0 W Y Z _ x h1 g e1 fun v W1 w1 l1 r1=>⟨o.1 W1 x v l1.ok r1 (by rw [w1];exact hc),?_⟩
  subst w1;refine a W0 W1 Y Z _ xs h2 (g.step l1) e2 fun vs W2 w2 l2 r2=>?_
  subst w2;exact o.2 W2 x v xs vs Q z h' l2.ok (l2.rep r1) r2 f2 fun w W3 w3 l3 r3=>q w W3 w3 (l1.trans (l2.trans l3)) r3
 .cases f1
def yxi {c} {r} {p} (o:yhA K T c r p) (b:ybR K ta ea):ybR K (yCK K.K T r ta) (xBM c p ea yh):=yvK (t:=ytd) o b yjD
end
noncomputable def yzg (K:Ck) (t:TO) (e:PSt->AH->Option (Option Int×AH)):Prop:=∀ (W0 W:Wd) (Y:PSt) (Z:St) (Q:Option Int->Hp->Prop) (x:Option Int) (h':AH),Good K W0 W Y Z->e Y W.h=some (x,h') ->
 (∀ W',W'.h=h'->Le K W W'->Q x W'.H)->t Z W.H Q
def ypj:yzg K yqp yci:=by intro W0 W Y Z Q z h' g e q;cases e;exact q W rfl (.refl g.ok)
def yty (a:ybR K ta ea):yzg K (yzS ta) (yen ea):=by
 intro W0 W Y Z Q z h' g e q;obtain ⟨x,h1,e1,f1⟩:=yi e;split at f1
 .rename_i i;cases f1;exact a W0 W Y Z _ _ _ g e1 fun v W1 w1 l1 r1=>⟨i,r1,q W1 w1 l1⟩
 .cases f1
def yqF (K:Ck) (r:V->Option Int->Option Int->Hp->VK->Prop) (p:PV->Option Int->Option Int->AH->Option (Nd×AH)):Prop:=∀ (W:Wd) (x:PV) (v:V) (lo hi:Option Int) (Q:VK) (d:Nd) (h':AH),WOk K W->ycG K W x v->p x lo hi W.h=some (d,h')->yph K W d h' Q->r v lo hi W.H Q
def yxj {r} {p} {el eh} (o:yqF K r p) (a:ybR K ta ea) (b:yzg K tl el) (c:yzg K th eh):ymn K (tSl r ta tl th) (yjB p ea el eh):=by
 intro W0 W Y Z Q z h' g e q;obtain ⟨x,h1,e1,f1⟩:=yi e;obtain ⟨l,h2,e2,f2⟩:=yi f1;obtain ⟨u,h3,e3,f3⟩:=yi f2;refine a W0 W Y Z _ x h1 g e1 fun v W1 w1 l1 r1=>?_
 subst w1;refine b W0 W1 Y Z _ l h2 (g.step l1) e2 fun W2 w2 l2=>?_
 subst w2;refine c W0 W2 Y Z _ u h3 (g.step (l1.trans l2)) e3 fun W3 w3 l3=>?_
 subst w3;exact o W3 x v l u Q z h' l3.ok ((l2.trans l3).rep r1) f3 (ygu (l1.trans (l2.trans l3)) q)
end PX
namespace PX
open PySem L2
variable {K:Ck}
def yS:XS:=fun Y h=>some (.nx Y,h)
def yl (s u:XS):XS:=fun Y h=>ob (s Y h) fun o h1=>match o with|.nx Y'=>u Y' h1|.rt x=>some (.rt x,h1)|.bk Y'=>some (.bk Y',h1)|.ct Y'=>some (.ct Y',h1)
def yY (e:XE):XS:=fun Y h=>ob (e Y h) fun _ h1=>some (.nx Y,h1)
def yO (e:XE):XS:=fun Y h=>ob (e Y h) fun x h1=>some (.rt x,h1)
def ybN (c:XT) (s u:XS):XS:=fun Y h=>ob (c Y h) fun k h1=>if k=true then s Y h1 else u Y h1
abbrev XG:=PV->PSt->Option PSt
abbrev XGs:=List PV->PSt->Option PSt
def yn (i:Nat):XG:=fun x Y=>some (Y.set i (.val x))
def yxk:XGs:=fun xs Y=>match xs with|[]=>some Y|_=>none
def ygU (g:XG) (r:XGs):XGs:=fun xs Y=>match xs with|[]=>none|x::xs=>(g x Y).bind fun Y'=>r xs Y'
def yvL (n:Nat) (g:XGs):XG:=fun x Y=>match x with|.tup xs=>if xs.length=n then g xs Y else none|_=>none
def ybq (e:XE) (g:XG):XS:=fun Y h=>ob (e Y h) fun x h1=>(g x Y).bind fun Y'=>some (.nx Y',h1)
def ygV (e:XO) (i:Nat):XS:=fun Y h=>ob (e Y h) fun d h1=>some (.nx (Y.set i (.own d)),h1)
def ytz:PVar->PVar
 | .own (.lst xs)=>.val (.lst xs)
 | .own (.ins k ns xs)=>.val (.ins k ns xs)
 | v=>v
def ymY (i:Nat) (Y:PSt):PSt:=Y.modify i ytz
def yqG (i:Nat) (s:XS):XS:=fun Y h=>s (ymY i Y) h
def yfi (i:Nat) (e:XE):XS:=fun Y h=>match Y[i]? with
 | some (.own (.lst xs))=>ob (e Y h) fun x h1=>if xs.length<100000 then some (.nx (Y.set i (.own (.lst (xs++[x])))),h1) else none
 | _=>none
def yeL (g:XG) (s:XS):List PV->PSt->AH->Option (Out×AH)
 | [],Y,h=>some (.nx Y,h)
 | x::xs,Y,h=>(g x Y).bind fun Y1=>ob (s Y1 h) fun o h1=>match o with|.nx Y'=>yeL g s xs Y' h1|.ct Y'=>yeL g s xs Y' h1|.bk Y'=>some (.nx Y',h1)|.rt y=>some (.rt y,h1)
def yhm (it:XA) (g:XG) (s:XS):XS:=fun Y h=>ob (it Y h) fun xs h1=>yeL g s xs Y h1
def whl (c:XT) (s:XS):Nat->PSt->AH->Option (Out×AH)
 | 0,_,_=>none
 | n+1,Y,h=>ob (c Y h) fun k h1=>if k=true then ob (s Y h1) fun o h2=>(match o with|.nx Y'=>whl c s n Y' h2|.ct Y'=>whl c s n Y' h2|.bk Y'=>some (.nx Y',h2)|.rt y=>some (.rt y,h2)) else some (.nx Y,h1)
def yfp (fuel:Nat) (c:XT) (s:XS):XS:=fun Y h=>whl c s fuel Y h
def ybl (N:Nat) (s:XS):Fn:=fun xs h=>ob (s (xs.map .val++replicate (N-xs.length) .no) h) fun o h1=>match o with|.rt x=>some (x,h1)|.nx _=>some (.non,h1)|_=>none
def ysK (Y:PSt) (i:Nat):PVar:=match Y[i]? with|some (.val y)=>.val y|_=>.no
def yfS (ix:List Nat) (Y:PSt) (x:PV):PSt:=.val x::ix.map (ysK Y)
def yiS (e:XE) (inn:PV->PSt):List PV->AH->Option (List PV×AH)
 | [],h=>some ([],h)
 | x::xs,h=>ob (e (inn x) h) fun y h1=>ob (yiS e inn xs h1) fun ys h2=>some (y::ys,h2)
def yfj (it:XA) (ix:List Nat) (e:XE):XO:=fun Y h=>ob (it Y h) fun xs h1=>if xs.length<=100000 then ob (yiS e (yfS ix Y) xs h1) fun ys h2=>some (.lst ys,h2) else none
def Ends.Ok.from_ (l:Lf K W W1) (k:Ends.Ok K W0 W D h' o):Ends.Ok K W0 W1 D h' o:=by
 cases o with
 | nx Y=>exact fun W' Z' e l' g=>k W' Z' e (l.trans l') g
 | bk Y=>exact fun W' Z' e l' g=>k W' Z' e (l.trans l') g
 | ct Y=>exact fun W' Z' e l' g=>k W' Z' e (l.trans l') g
 | rt x=>exact k
section
variable {ta tb:TE}{ea eb:XE}{t u:TS}{s s':XS}{tA:TT}{eA:XT}
def ytA:yfb K yzG yS:=by intro W0 W Y Z D o h' g e q;cases e;exact q W Z rfl .refl g
def yxl (a:yfb K t s) (b:yfb K u s'):yfb K (yCA t u) (yl s s'):=by
 intro W0 W Y Z D o h' g e q;obtain ⟨o1,h1,e1,f1⟩:=yi e;refine a W0 W Y Z _ o1 h1 g e1 ?_;cases o1 with
 | nx Y'=>exact fun W' Z' w l g'=>b W0 W' Y' Z' D o h' g' (by rw [w];exact f1) (q.from_ l)
 | rt x=>cases f1;exact q
 | bk Y'=>cases f1;exact q
 | ct Y'=>cases f1;exact q
def ytB (a:ybR K ta ea):yfb K (ypX ta) (yY ea):=by intro W0 W Y Z D o h' g e q;obtain ⟨x,h1,e1,f1⟩:=yi e;cases f1;exact a W0 W Y Z _ x _ g e1 fun v W1 w1 l1 r1=>q W1 Z w1 l1.lf (g.step l1)
def yxm (a:ybR K ta ea):yfb K (yEr ta) (yO ea):=by intro W0 W Y Z D o h' g e q;obtain ⟨x,h1,e1,f1⟩:=yi e;cases f1;exact a W0 W Y Z _ x _ g e1 fun v W1 w1 l1 r1=>q W1 v w1 (g.le.trans l1) r1
def yxn (c:ymm K tA eA) (a:yfb K t s) (b:yfb K u s'):yfb K (yEs tA t u) (ybN eA s s'):=by
 intro W0 W Y Z D o h' g e q;obtain ⟨k,h1,e1,f1⟩:=yi e;refine c W0 W Y Z _ k h1 g e1 fun W1 w1 l1=>?_
 subst w1;cases k with
 | true =>
  rw [if_pos rfl] at f1 ⊢;exact a W0 W1 Y Z D o h' (g.step l1) f1 (q.from_ l1.lf)
 | false =>
  rw [if_neg (by decide)] at f1 ⊢;exact b W0 W1 Y Z D o h' (g.step l1) f1 (q.from_ l1.lf)
theorem Good.set (g:Good K W0 W Y Z) (i:Nat) (r:ycG K W x v):Good K W0 W (Y.set i (.val x)) (Z.set i (some v)) where
 le:=g.le
 len:=by simp [g.len]
 val:=fun j y e=>by
  by_cases hj:i=j
  .subst hj
   by_cases hl:i<Y.length
   .rw [getElem?_set_self hl] at e;cases e;exact ⟨v,getElem?_set_self (by rw [g.len];exact hl),r⟩
   .rw [getElem?_eq_none (by simp;omega)] at e;cases e
  .rw [getElem?_set_ne hj] at e;obtain ⟨w,h1,h2⟩:=g.val j y e;exact ⟨w,by rw [getElem?_set_ne hj];exact h1,h2⟩
 own:=fun j d e=>by
  by_cases hj:i=j
  .subst hj
   by_cases hl:i<Y.length
   .rw [getElem?_set_self hl] at e;cases e
   .rw [getElem?_eq_none (by simp;omega)] at e;cases e
  .rw [getElem?_set_ne hj] at e;obtain ⟨p,h1,h2⟩:=g.own j d e;exact ⟨p,by rw [getElem?_set_ne hj];exact h1,h2⟩
 ne:=fun j k d d' hjk e1 e2=>by
  have f:∀ {j:Nat}{d:Nd},(Y.set i (.val x))[j]?=some (.own d)->i≠j/\Y[j]?=some (.own d):=fun {j d} e=>by
   by_cases hj:i=j
   .subst hj
    by_cases hl:i<Y.length
    .rw [getElem?_set_self hl] at e;cases e
    .rw [getElem?_eq_none (by simp;omega)] at e;cases e
   .rw [getElem?_set_ne hj] at e;exact ⟨hj,e⟩
  obtain ⟨a1,a2⟩:=f e1;obtain ⟨b1,b2⟩:=f e2;rw [getElem?_set_ne a1,getElem?_set_ne b1];exact g.ne j k d d' hjk a2 b2
theorem Good.setO (g:Good K W0 W Y Z) (i:Nat) (hm:p∉W.m) (h0:W0.H p=none) (hd:d≠.dead) (at_:NdAt K W.F W.H W.m d p)
  (ne:∀ j d',i≠j->Y[j]?=some (.own d')->Z[j]?≠some (some (.ref p))):Good K W0 W (Y.set i (.own d)) (Z.set i (some (.ref p))) where
 le:=g.le
 len:=by simp [g.len]
 val:=fun j y e=>by
  by_cases hj:i=j
  .subst hj
   by_cases hl:i<Y.length
   .rw [getElem?_set_self hl] at e;cases e
   .rw [getElem?_eq_none (by simp;omega)] at e;cases e
  .rw [getElem?_set_ne hj] at e;obtain ⟨w,h1,h2⟩:=g.val j y e;exact ⟨w,by rw [getElem?_set_ne hj];exact h1,h2⟩
 own:=fun j d' e=>by
  by_cases hj:i=j
  .subst hj
   by_cases hl:i<Y.length
   .rw [getElem?_set_self hl] at e;cases e;exact ⟨p,getElem?_set_self (by rw [g.len];exact hl),hm,h0,hd,at_⟩
   .rw [getElem?_eq_none (by simp;omega)] at e;cases e
  .rw [getElem?_set_ne hj] at e;obtain ⟨p,h1,h2⟩:=g.own j d' e;exact ⟨p,by rw [getElem?_set_ne hj];exact h1,h2⟩
 ne:=fun j k d1 d2 hjk e1 e2=>by
  have self:∀ {j:Nat}{d':Nd},i=j->(Y.set i (.own d))[j]?=some (.own d')->(Z.set i (some (.ref p)))[j]?=some (some (.ref p)):=fun {j d'} hj e=>by
   subst hj
   by_cases hl:i<Y.length
   .exact getElem?_set_self (by rw [g.len];exact hl)
   .rw [getElem?_eq_none (by simp;omega)] at e;cases e
  by_cases hj:i=j
  .have hk:i≠k:=fun z=>hjk (hj.symm.trans z)
   rw [self hj e1,getElem?_set_ne hk];rw [getElem?_set_ne hk] at e2;exact (ne k d2 hk e2).symm
  .rw [getElem?_set_ne hj];rw [getElem?_set_ne hj] at e1
   by_cases hk:i=k
   .rw [self hk e2];exact ne j d1 hj e1
   .rw [getElem?_set_ne hk] at e2 ⊢;exact g.ne j k d1 d2 hjk e1 e2
noncomputable def yqH (K:Ck) (g:TG) (y:XG):Prop:=∀ (W0 W:Wd) (Y Y':PSt) (Z:St) (x:PV) (v:V) (Q:St->Hp->Prop),Good K W0 W Y Z->ycG K W x v->y x Y=some Y'->(∀ Z',Good K W0 W Y' Z'->Q Z' W.H)->g v Z W.H Q
noncomputable def ypk (K:Ck) (g:TGs) (y:XGs):Prop:=∀ (W0 W:Wd) (Y Y':PSt) (Z:St) (x:List PV) (v:List V) (Q:St->Hp->Prop),Good K W0 W Y Z->ycE K W x v->y x Y=some Y'->(∀ Z',Good K W0 W Y' Z'->Q Z' W.H)->g v Z W.H Q
def yfW (i:Nat):yqH K (yoW i) (yn i):=by intro W0 W Y Y' Z x v Q g r e q;cases e;exact q _ (g.set i r)
def ytC:ypk K yEu yxk:=by
 intro W0 W Y Y' Z x v Q g r e q;cases x with
 | nil=>cases e;exact ⟨r,q _ g⟩
 | cons _ _=>cases e
def yqI (a:yqH K g y) (b:ypk K gs ys):ypk K (yzI g gs) (ygU y ys):=by
 intro W0 W Y Y' Z x v Q gd r e q;cases x with
 | nil=>cases e
 | cons x xs =>
  obtain ⟨v1,vs,rfl,r1,r2⟩:=r;obtain ⟨Y1,e1,e2⟩:=Option.bind_eq_some_iff.mp e;exact ⟨v1,vs,rfl,a W0 W Y Y1 Z x v1 _ gd r1 e1 fun Z' g'=>b W0 W Y1 Y' Z' xs vs Q g' r2 e2 q⟩
def ytD (b:ypk K gs ys):yqH K (yEv K.K n gs) (yvL n ys):=by
 intro W0 W Y Y' Z x v Q g r e q;unfold yvL at e;split at e
 .rename_i xs;split at e
  .rename_i hl;obtain ⟨a,vs,rfl,hs,rs⟩:=r;exact ⟨a,vs,rfl,(hs.elim (fun h=>SqT.of (g.ok.le _ _ h)) .inr),by rw [rs.len];exact hl,b W0 W Y Y' Z xs vs Q g rs e q⟩
  .cases e
 .cases e
def ymZ (a:ybR K ta ea) (b:yqH K g y):yfb K (yvu ta g) (ybq ea y):=by intro W0 W Y Z D o h' gd e q;obtain ⟨x,h1,e1,f1⟩:=yi e;obtain ⟨Y',e2,f2⟩:=Option.bind_eq_some_iff.mp f1;cases f2;exact a W0 W Y Z _ x _ gd e1 fun v W1 w1 l1 r1=>b W0 W1 Y Y' Z x v _ (gd.step l1) r1 e2 fun Z' g'=>q W1 Z' w1 l1.lf g'
def ytE (i:Nat) (a:ymn K ta o):yfb K (yvu ta (yoW i)) (ygV o i):=by
 intro W0 W Y Z D o h' gd e q;obtain ⟨d,h1,e1,f1⟩:=yi e;cases f1;refine a W0 W Y Z _ d _ gd e1 fun p W1 w1 l1 hm hn hd at_=>q W1 _ w1 l1.lf ((gd.step l1).setO i hm (gd.le.fresh hn) hd at_ fun j d' hj e hs=>?_)
 obtain ⟨p',h1,h2,_,_,h5⟩:=gd.own j d' e;rw [h1] at hs;cases hs;obtain ⟨o,ho⟩:=h5.some;rw [hn] at ho;cases ho
theorem Good.frz {W0 W:Wd}{Y:PSt}{Z:St}(g:Good K W0 W Y Z) (i:Nat):∃ W',W'.h=W.h/\W'.H=W.H/\Lf K W W'/\Good K W0 W' (ymY i Y) Z:=by
 unfold ymY;cases e:Y[i]? with
 | none=>exact ⟨W,rfl,rfl,.refl,by rw [List.modify_eq_self (by simpa using e)];exact g⟩
 | some v =>
  have hl:i<Y.length:=(List.getElem?_eq_some_iff.mp e).1;have em:Y.modify i ytz=Y.set i (ytz v):=by
   apply List.ext_getElem?;intro j;rw [List.getElem?_modify,List.getElem?_set]
   by_cases hj:i=j
   .subst hj;obtain ⟨_,ev⟩:=List.getElem?_eq_some_iff.mp e;simp [hl,ev]
   .simp [hj]
  have same:ytz v=v->∃ W',W'.h=W.h/\W'.H=W.H/\Lf K W W'/\Good K W0 W' (Y.modify i ytz) Z:=fun z=>⟨W,rfl,rfl,.refl,by
   rw [em,z];have:Y.set i v=Y:=by
    apply List.ext_getElem?;intro j
    by_cases hj:i=j
    .subst hj;rw [getElem?_set_self hl,e]
    .rw [getElem?_set_ne hj]
   rw [this];exact g⟩
  have go:∀ (d:Nd) (x:PV) (p:Addr) (o:HO),v=.own d->ytz v=.val x->Z[i]?=some (some (.ref p))->p∉W.m->W0.H p=none->W.H p=some o->W.F p=none->(∀ (F':Hp),Same W.F F'->F' p=some o->Rep K F' W.m x (.ref p)) ->
    ∃ W',W'.h=W.h/\W'.H=W.H/\Lf K W W'/\Good K W0 W' (Y.modify i ytz) Z:=fun d x p o hv hx hs hm h0 hp hf hr=>by
   obtain ⟨k,sF⟩:=yqE (K:=K) g.ok hp hm hf;have lf:Lf K W (ytv W p o):=⟨sF,prefix_refl _,fun _ _ _ e=>⟨e,fun _ _=>rfl⟩⟩
   refine ⟨ytv W p o,rfl,rfl,lf,⟨ymV g.le hp hm hf h0,by rw [List.length_modify];exact g.len,fun j y e'=>?_,fun j d' e'=>?_,fun j1 j2 d1 d2 hj e1 e2=>?_⟩⟩
   .rw [em,hx] at e'
    by_cases hj:i=j
    .subst hj;rw [getElem?_set_self hl] at e';cases e';exact ⟨_,hs,hr _ sF yE⟩
    .rw [getElem?_set_ne hj] at e';obtain ⟨w,a1,a2⟩:=g.val j y e';exact ⟨w,a1,lf.rep a2⟩
   .rw [em,hx] at e'
    by_cases hj:i=j
    .subst hj;rw [getElem?_set_self hl] at e';cases e'
    .rw [getElem?_set_ne hj] at e';obtain ⟨q,a1,a2,a3,a4,a5⟩:=g.own j d' e';have hq:q≠p:=fun z=>g.ne j i d' d (fun z=>hj z.symm) e' (hv ▸ e) (by rw [a1,hs,z])
     exact ⟨q,a1,a2,a3,a4,a5.mono sF (prefix_refl _) (fun _ e=>e) fun f=>(yK hq).trans f⟩
   .rw [em,hx] at e1 e2;have f:∀ {j:Nat}{d:Nd},(Y.set i (.val x))[j]?=some (.own d)->Y[j]?=some (.own d):=fun {j d} e=>by
     by_cases hj:i=j
     .subst hj;rw [getElem?_set_self hl] at e;cases e
     .rw [getElem?_set_ne hj] at e;exact e
    exact g.ne j1 j2 d1 d2 hj (f e1) (f e2)
  cases v with
  | no=>exact same rfl
  | val x=>exact same rfl
  | own d =>
   obtain ⟨p,a1,a2,a3,a4,a5⟩:=g.own i d e;cases d with
   | lst xs =>
    obtain ⟨hf,vs,hp,r⟩:=a5;exact go _ (.lst xs) p _ rfl rfl a1 a2 a3 hp hf fun F' s hF=>⟨p,vs,rfl,hF,RepL.mono s (prefix_refl _) _ _ r⟩
   | dct ks xs=>exact same rfl
   | fz ks xs=>exact same rfl
   | ins k ns xs =>
    obtain ⟨hf,dx,vs,hp,hl,r⟩:=a5;exact go _ (.ins k ns xs) p _ rfl rfl a1 a2 a3 hp hf fun F' s hF=>⟨p,dx,vs,rfl,hF,hl,RepL.mono s (prefix_refl _) _ _ r⟩
   | dead=>exact same rfl
def yxo (i:Nat) (a:yfb K t s):yfb K t (yqG i s):=by intro W0 W Y Z D o h' g e q;obtain ⟨W',e1,e2,l,g'⟩:=g.frz i;rw [<- e2];exact a W0 W' _ Z D o h' g' (by rw [e1];exact e) (q.from_ l)
end
end PX
namespace PX
open PySem L2
variable {K:Ck}
section
variable {ta tb:TE}{ea eb:XE}{t u:TS}{s s':XS}{tA:TT}{eA:XT}
def ysL (W:Wd) (p:Addr) (o:HO):Wd:=⟨W.F,upd W.H p o,W.m,W.h⟩
def yxp (w:WOk K W) (hm:p∉W.m) (hf:W.F p=none):WOk K (ysL W p o):=by
 refine ⟨fun b u e=>?_,w.len,w.nd,fun n d a e1 e2=>?_⟩
 .have:b≠p:=ybu e hf;exact (yK this).trans (w.le _ _ e)
 .have ha:a≠p:=fun z=>hm (z ▸ mem_of_getElem? e2)
  exact (w.at_ n d a e1 e2).mono (Same.refl _) (prefix_refl _) (fun u e=>(yK ha).trans e) id
def yjE (l:Le K W W1) (hm:p∉W1.m) (hf:W1.F p=none) (hn:W.H p=none):Le K W (ysL W1 p o) :=
 ⟨yxp l.ok hm hf,l.fs,l.pre,fun b u e n=>(yK (ybu e hn)).trans (l.keep b u e n),l.new,l.mn,fun n ks xs e1=>⟨(l.fz n ks xs e1).1,fun a e2=>(yK (fun (z:a=p)=>hm (z ▸ mem_of_getElem? (yem l.pre e2)))).trans ((l.fz n ks xs e1).2 a e2)⟩⟩
def yqJ (l:Le K W W1) (hm:p∉W1.m):Lf K W (ysL W1 p o) :=
 ⟨l.fs,l.pre,fun n ks xs e1=>⟨(l.fz n ks xs e1).1,fun a e2=>(yK (fun (z:a=p)=>hm (z ▸ mem_of_getElem? (yem l.pre e2)))).trans ((l.fz n ks xs e1).2 a e2)⟩⟩
theorem Good.mut (g:Good K W0 W Y Z) (e:Y[i]?=some (.own d)) (hs:Z[i]?=some (some (.ref p))) (hm:p∉W.m) (h0:W0.H p=none) (hf:W.F p=none) (hd:d'≠.dead)
  (at_:NdAt K W.F (upd W.H p o) W.m d' p):Good K W0 (ysL W p o) (Y.set i (.own d')) Z:=by
 have hl:i<Y.length:=(List.getElem?_eq_some_iff.mp e).1;refine ⟨yjE g.le hm hf h0,by rw [length_set];exact g.len,fun j y e'=>?_,fun j d1 e'=>?_,fun j1 j2 d1 d2 hj e1 e2=>?_⟩
 .by_cases hj:i=j
  .subst hj;rw [getElem?_set_self hl] at e';cases e'
  .rw [getElem?_set_ne hj] at e';exact g.val j y e'
 .by_cases hj:i=j
  .subst hj;rw [getElem?_set_self hl] at e';cases e';exact ⟨p,hs,hm,h0,hd,at_⟩
  .rw [getElem?_set_ne hj] at e';obtain ⟨q,a1,a2,a3,a4,a5⟩:=g.own j d1 e';have hq:q≠p:=fun z=>g.ne j i d1 d (fun z=>hj z.symm) e' e (by rw [a1,hs,z])
   exact ⟨q,a1,a2,a3,a4,a5.mono (Same.refl _) (prefix_refl _) (fun u e=>(yK hq).trans e) id⟩
 .have f:∀ {j:Nat}{d1:Nd},(Y.set i (.own d'))[j]?=some (.own d1)->∃ d2,Y[j]?=some (.own d2):=fun {j d1} e'=>by
   by_cases hj:i=j
   .subst hj;exact ⟨d,e⟩
   .rw [getElem?_set_ne hj] at e';exact ⟨_,e'⟩
  obtain ⟨_,f1⟩:=f e1;obtain ⟨_,f2⟩:=f e2;exact g.ne j1 j2 _ _ hj f1 f2
def big (h:n<100000):n<sizeLine:=lt_of_lt_of_le h (by decide)
def yxq (h:n<=100000):n<=sizeLine:=Nat.le_trans h (by decide)
def ytF (i:Nat) (a:ybR K ta ea):yfb K (ypX (tBM K.K "list" ymD (ypN i) (ymz ta ytd))) (yfi i ea):=by
 intro W0 W Y Z D o h' g e q;unfold yfi at e;split at e
 .rename_i xs0 hx;obtain ⟨x,h1,e1,f1⟩:=yi e;split at f1
  .rename_i hlen;cases f1;obtain ⟨p,a1,a2,a3,a4,hf,vs,hp,r⟩:=g.own i _ hx;refine ⟨.ref p,a1,.inl ⟨rfl,_,SqL.of hp⟩,?_⟩;refine a W0 W Y Z _ x _ g e1 fun v W1 w1 l1 r1=>⟨p,vs,v,rfl,rfl,l1.keep _ _ hp a2,by rw [r.len];exact big hlen,?_⟩
   have g1:=g.step l1;obtain ⟨p',b1,b2,b3,b4,b5,vs',b6,b7⟩:=g1.own i _ hx;rw [a1] at b1;cases b1;rw [l1.keep _ _ hp a2] at b6;cases b6;exact q (ysL W1 p (.lst (vs++[v]))) Z w1 (yqJ l1 b2) (g1.mut hx a1 b2 b3 b5 (fun z=>by cases z) ⟨b5,_,yE,b7.snoc r1⟩)
  .cases f1
 .cases e
structure yCZ (K:Ck) (W:Wd) (J:It) (xs:List PV):Prop where
 go:∀ (i:Nat) (W':Wd),Lf K W W'->WOk K W'->i<xs.length->J.go i W'.H
 yld:∀ (i:Nat) (W':Wd) (v:V) (H2:Hp),Lf K W W'->WOk K W'->i<xs.length->J.yld i W'.H v H2->H2=W'.H/\∃ x,xs[i]?=some x/\ycG K W' x v
 stop:∀ (W':Wd),Lf K W W'->WOk K W'->J.stop xs.length W'.H
noncomputable def yxr (K:Ck) (wi:TI) (e:XA):Prop:=∀ (W0 W:Wd) (Y:PSt) (Z:St) (R:It->Hp->Prop) (xs:List PV) (h':AH),Good K W0 W Y Z->e Y W.h=some (xs,h')->(∀ J W',W'.h=h'->Le K W W'->yCZ K W' J xs->R J W'.H)->wi Z W.H R
def xIL (e:XE):XA:=fun Y h=>ob (e Y h) fun x h1=>match x with|.lst xs=>some (xs,h1)|.scr ns=>some (ns.map .int,h1)|_=>none
def sgn (c:Nat):PV:=.str ⟨#[c]⟩
def xIS (e:XE):XA:=fun Y h=>ob (e Y h) fun x h1=>match x with|.str z=>if z.length<=100000 then some (z.cps.toList.map sgn,h1) else none|_=>none
def ygW (lo:Int) (n:Nat):List PV:=(List.range n).map fun (k:Nat)=>.int (lo+(k:Int))
def yis (a:XA):XA:=fun Y h=>ob (a Y h) fun xs h1=>match xs with|[.int j]=>if -1000000000<=j/\j<=1000000000 then some (ygW 0 j.toNat,h1) else none|_=>none
def ydZ (w:WOk K W) (h:SqL K.K W.F a vs):SqL K.K W.H a vs:=Same.seq w.le h
def ydq (w:WOk K W) (h:TpAt K.K W.F a vs):SqT K.K W.H a vs:=h.elim (fun h=>SqT.of (w.le _ _ h)) .inr
def yqK (a:ybR K ta ea):yxr K (ysW K.K ta) (xIL ea):=by
 intro W0 W Y Z R xs h' g e q;obtain ⟨x,h1,e1,f1⟩:=yi e;refine a W0 W Y Z _ x h1 g e1 fun v W1 w1 l1 r1=>?_
 have key:∀ (a:Addr) (vs:List V),v=.ref a->SqL K.K W1.F a vs->RepL K W1.F W1.m xs vs->h1=h'->∃ a,v=.ref a/\(∃ xs,SqL K.K W1.H a xs)/\R (Itl K.K a) W1.H:=fun a vs ev hs rs eh=>by
  subst eh;refine ⟨a,ev,⟨vs,ydZ l1.ok hs⟩,q _ W1 w1 l1 ⟨fun i W' l w hi=>?_,fun i W' v' H2 l w hi hy=>?_,fun W' l w=>?_⟩⟩
  .obtain ⟨v',h1,_⟩:=rs.get (List.getElem?_eq_getElem hi);exact ⟨vs,v',ydZ w (Same.seq l.fs hs),h1⟩
  .obtain ⟨h1,h2⟩:=hy;have:=h2 vs (ydZ w (Same.seq l.fs hs));obtain ⟨x,h3,h4⟩:=rs.get' this;exact ⟨h1,x,h3,l.rep h4⟩
  .exact ⟨vs,ydZ w (Same.seq l.fs hs),by rw [rs.len];exact Nat.le_refl _⟩
 split at f1
 .cases f1;obtain ⟨a,vs,ev,hs,rs⟩:=r1;exact key a vs ev (SqL.of hs) rs rfl
 .rename_i ns;cases f1;obtain ⟨a,ev,hs⟩:=r1;exact key a _ ev hs (RepL.of_ints ns) rfl
 .cases f1
def ytG (a:ybR K ta ea):yxr K (yEN ta) (xIS ea):=by
 intro W0 W Y Z R xs h' g e q;obtain ⟨x,h1,e1,f1⟩:=yi e;refine a W0 W Y Z _ x h1 g e1 fun v W1 w1 l1 r1=>?_
 split at f1
 .rename_i z;split at f1
  .rename_i hz;cases f1;have hl:z.length=z.cps.toList.length:=by simp [Str.length]
   refine ⟨z,r1,yxq hz,q _ W1 w1 l1 ⟨fun i W' l w hi=>?_,fun i W' v' H2 l w hi hy=>?_,fun W' l w=>?_⟩⟩
   .show i<z.length;rw [hl];simpa using hi
   .obtain ⟨h1,c,h2,h3⟩:=hy;exact ⟨h1,sgn c,by rw [getElem?_map,h2];rfl,h3⟩
   .show _=z.length;rw [hl];simp
  .cases f1
 .cases f1
def yAi (W:Wd) (lo:Int) (n:Nat):yCZ K W (Itr lo n) (ygW lo n):=by
 refine ⟨fun i W' l w hi=>?_,fun i W' v' H2 l w hi hy=>?_,fun W' l w=>?_⟩
 .show i<n;simpa [ygW] using hi
 .obtain ⟨h1,h2⟩:=hy;have hi:i<n:=by simpa [ygW] using hi
  exact ⟨h1,.int (lo+(i:Int)),by simp [ygW,hi],h2⟩
 .show n<=_;simp [ygW]
def yqL {t:TA}(a:ylq K t e):yxr K (yzM t) (yis e):=by
 intro W0 W Y Z R xs h' g e q;obtain ⟨ys,h1,e1,f1⟩:=yi e;split at f1
 .rename_i j;split at f1
  .rename_i hj;cases f1;refine a W0 W Y Z _ _ _ g e1 fun vs W1 w1 l1 r1=>?_
   obtain ⟨v,r,rfl,rv,rr⟩:=r1;obtain rfl:r=[]:=rr;exact ⟨j,by rw [show v=.int j from rv],by omega,by omega,q _ W1 w1 l1 (yAi W1 0 _)⟩
  .cases f1
 .cases f1
def yxs (a:yxr K wi it) (b:yqH K g y) (c:yfb K t s):yfb K (yzN wi g t) (yhm it y s):=by
 intro W0 W Y Z D o h' gd e q;obtain ⟨xs,h1,e1,f1⟩:=yi e;refine a W0 W Y Z _ xs h1 gd e1 fun J W1 w1 l1 J1=>?_
 subst w1;have q1:=q.from_ l1.lf;refine ⟨fun i m Z H=>m=xs.length-i/\i<=xs.length/\∃ W' Y',W'.H=H/\Lf K W1 W'/\Good K W0 W' Y' Z/\yeL y s (xs.drop i) Y' W'.h=some (o,h'),⟨_,rfl,zero_le _,W1,Y,rfl,.refl,gd.step l1,by simpa using f1⟩,?_⟩;rintro i m Z _ ⟨rfl,hi,W',Y',rfl,l,g',f⟩
 by_cases hlt:i<xs.length
 .rw [List.drop_eq_getElem_cons hlt] at f;obtain ⟨Y1,k1,f⟩:=Option.bind_eq_some_iff.mp f;obtain ⟨o1,h2,k2,f3⟩:=yi f;refine .inr ⟨J1.go i W' l g'.ok hlt,fun Z2 H2=>i+1<=xs.length/\∃ W2 Y2,W2.H=H2/\Lf K W1 W2/\Good K W0 W2 Y2 Z2/\yeL y s (xs.drop (i+1)) Y2 W2.h=some (o,h'),fun Z2 H2 ⟨n1,n2⟩=>⟨xs.length-(i+1),by omega,rfl,n1,n2⟩,fun v H2 hy=>?_⟩;obtain ⟨rfl,x,hx,rx⟩:=J1.yld i W' v H2 l g'.ok hlt hy;rw [List.getElem?_eq_getElem hlt] at hx;cases hx;refine b W0 W' Y' Y1 Z _ v _ g' rx k1 fun Z2 g2=>?_
  refine c W0 W' Y1 Z2 _ o1 h2 g2 k2 ?_;cases o1 with
  | nx Y2=>exact fun W2 Z3 w2 l2 g3=>⟨hlt,W2,Y2,rfl,l.trans l2,g3,by rw [w2];exact f3⟩
  | ct Y2=>exact fun W2 Z3 w2 l2 g3=>⟨hlt,W2,Y2,rfl,l.trans l2,g3,by rw [w2];exact f3⟩
  | bk Y2=>cases f3;exact fun W2 Z3 w2 l2 g3=>q1 W2 Z3 w2 (l.trans l2) g3
  | rt x=>cases f3;exact q1
 .have ei:i=xs.length:=by omega
  subst ei;refine .inl ⟨J1.stop W' l g'.ok,?_⟩;rw [List.drop_length] at f;cases f;exact q1 W' Z rfl l g'
def yqM (n:Nat) (c:ymm K tA eA) (a:yfb K t s):yfb K (yvw tA t) (yfp n eA s):=by
 intro W0 W Y Z D o h' gd e q;refine ⟨fun m Z H=>∃ W' Y',W'.H=H/\Lf K W W'/\Good K W0 W' Y' Z/\whl eA s m Y' W'.h=some (o,h'),⟨n,W,Y,rfl,.refl,gd,e⟩,?_⟩;rintro m Z _ ⟨W',Y',rfl,l,g',f⟩;cases m with
 | zero=>cases f
 | succ m =>
  obtain ⟨k,h1,e1,f1⟩:=yi f;refine c W0 W' Y' Z _ k h1 g' e1 fun W1 w1 l1=>?_
  subst w1;cases k with
  | false =>
   rw [if_neg (by decide)] at f1 ⊢;cases f1;exact q W1 Z rfl (l.trans l1.lf) (g'.step l1)
  | true =>
   rw [if_pos rfl] at f1 ⊢;obtain ⟨o1,h2,k2,f3⟩:=yi f1;refine ⟨fun Z2 H2=>∃ W2 Y2,W2.H=H2/\Lf K W W2/\Good K W0 W2 Y2 Z2/\whl eA s m Y2 W2.h=some (o,h'),fun Z2 H2 z=>⟨m,Nat.lt_succ_self _,z⟩,?_⟩;refine a W0 W1 Y' Z _ o1 h2 (g'.step l1) k2 ?_;have l':=l.trans l1.lf;cases o1 with
   | nx Y2=>exact fun W2 Z3 w2 l2 g3=>⟨W2,Y2,rfl,l'.trans l2,g3,by rw [w2];exact f3⟩
   | ct Y2=>exact fun W2 Z3 w2 l2 g3=>⟨W2,Y2,rfl,l'.trans l2,g3,by rw [w2];exact f3⟩
   | bk Y2=>cases f3;exact fun W2 Z3 w2 l2 g3=>q W2 Z3 w2 (l'.trans l2) g3
   | rt x=>cases f3;exact q
theorem yna:∀ {xs:List PV}{h:AH}{ys:List PV}{h':AH},yiS e inn xs h=some (ys,h')->ys.length=xs.length
 | [],_,_,_,e=>by cases e;rfl
 | x::xs,_,_,_,e=>by obtain ⟨y,h1,e1,f1⟩:=yi e;obtain ⟨ys,h2,e2,f2⟩:=yi f1;cases f2;rw [length_cons,length_cons,yna e2]
def yjF (g:Good K W0 W Y Z) (l:Le K W W') (ix:List Nat) (r:ycG K W' x v):Good K W' W' (yfS ix Y x) (inner ix Z v) where
 le:=.refl l.ok
 len:=by simp [yfS,inner]
 val:=fun j y e=>by
  cases j with
  | zero=>simp [yfS] at e;subst e;exact ⟨v,rfl,r⟩
  | succ j =>
   have e:(ix.map (ysK Y))[j]?=some (.val y):=e;rw [getElem?_map] at e;cases ei:ix[j]? with
   | none=>rw [ei] at e;cases e
   | some i =>
    rw [ei] at e;have e:ysK Y i=.val y:=Option.some.inj e;unfold ysK at e;split at e
    .rename_i z hz;cases e;obtain ⟨w,h1,h2⟩:=g.val i _ hz;exact ⟨w,by show (ix.map fun i=>(Z[i]?).getD none)[j]?=_;rw [getElem?_map,ei];simp [h1],l.rep h2⟩
    .cases e
 own:=fun j d e=>by
  cases j with
  | zero=>simp [yfS] at e
  | succ j =>
   have e:(ix.map (ysK Y))[j]?=some (.own d):=e;rw [getElem?_map] at e;cases ei:ix[j]? with
   | none=>rw [ei] at e;cases e
   | some i =>
    rw [ei] at e;have e:ysK Y i=.own d:=Option.some.inj e;unfold ysK at e;split at e<;>cases e
 ne:=fun j k d d' _ e _=>by
  cases j with
  | zero=>simp [yfS] at e
  | succ j =>
   have e:(ix.map (ysK Y))[j]?=some (.own d):=e;rw [getElem?_map] at e;cases ei:ix[j]? with
   | none=>rw [ei] at e;cases e
   | some i =>
    rw [ei] at e;have e:ysK Y i=.own d:=Option.some.inj e;unfold ysK at e;split at e<;>cases e
def yoa (ix:List Nat) (a:yxr K wi it) (b:ybR K ta ea):ymn K (ype wi ix ta) (yfj it ix ea):=by
 intro W0 W Y Z Q d h' gd e q;obtain ⟨xs,h1,e1,f1⟩:=yi e;split at f1
 .rename_i hlen;obtain ⟨zs,h2,e2,f2⟩:=yi f1;cases f2;have hz:=yna e2;refine a W0 W Y Z _ xs h1 gd e1 fun J W1 w1 l1 J1=>?_
  subst w1;intro D hD;have nm:=l1.ok.out hD;have nf:=l1.ok.ff hD;refine ⟨fun i m H=>m=xs.length-i/\i<=xs.length/\∃ W' acc done rest,W'.H=H/\Le K W1 W'/\D∉W'.m/\W'.F D=none/\H D=some (.lst acc)/\ycE K W' done acc/\done.length=i/\zs=done++rest/\yiS ea (yfS ix Y) (xs.drop i) W'.h=some (rest,h'),⟨_,rfl,zero_le _,ygv W1 D (.lst []),[],[],zs,rfl,ycL l1.ok hD,nm,nf,yE,rfl,rfl,rfl,by rw [List.drop_zero];exact e2⟩,?_⟩;rintro i m _ ⟨rfl,hi,W',acc,done,rest,rfl,l,n1,n2,hd,rd,ld,ez,f⟩
  by_cases hlt:i<xs.length
  .rw [List.drop_eq_getElem_cons hlt] at f;obtain ⟨y,h3,k1,f3⟩:=yi f;obtain ⟨ys,h4,k2,f4⟩:=yi f3;cases f4;refine .inr ⟨J1.go i W' l.lf l.ok hlt,fun v H2 hy=>?_⟩;obtain ⟨rfl,x,hx,rx⟩:=J1.yld i W' v H2 l.lf l.ok hlt hy;rw [List.getElem?_eq_getElem hlt] at hx;cases hx;refine b W' W' _ _ _ y h3 (yjF gd (l1.trans l) ix rx) k1 fun w W2 w2 l2 r2=>?_
   obtain ⟨o2,n2'⟩:∃ o,W'.H D=some o:=⟨_,hd⟩
   have nm2:D∉W2.m:=fun z=>by rw [l2.mn D z n1] at hd;cases hd
   have nf2:W2.F D=none:=l2.new D _ hd n1 n2;refine ⟨acc,l2.keep _ _ hd n1,?_,xs.length-(i+1),by omega,rfl,hlt,ysL W2 D (.lst (acc++[w])),acc++[w],done++[y],ys,rfl,yjE (l.trans l2) nm2 nf2 hD,nm2,nf2,yE,(l2.repL rd).snoc r2,by simp [ld],by simp [ez],?_⟩
   .rw [rd.len,ld];exact big (by omega)
   .show yiS ea (yfS ix Y) (xs.drop (i+1)) W2.h=some (ys,h');rw [w2];exact k2
  .have ei:i=xs.length:=by omega
   subst ei;rw [List.drop_length] at f;cases f;refine .inl ⟨J1.stop W' l.lf l.ok,?_⟩;rw [append_nil] at ez;subst ez;exact q D W' rfl (l1.trans l) n1 (l1.fresh hD) (fun z=>by cases z) ⟨n2,acc,hd,rd⟩
 .cases f1
def ygw (w:WOk K W) {N:List Str}(r:ycE K W xs vs):Good K W W (xs.map .val++replicate (N.length-xs.length) .no) (L2.start N vs) where
 le:=.refl w
 len:=by simp [L2.start,r.len]
 val:=fun j y e=>by
  by_cases hj:j<xs.length
  .rw [getElem?_append_left (by simpa using hj),getElem?_map,List.getElem?_eq_getElem hj] at e;cases e;obtain ⟨v,h1,h2⟩:=r.get (List.getElem?_eq_getElem hj);refine ⟨v,?_,h2⟩;unfold L2.start;rw [getElem?_append_left (by simp [r.len,hj]),getElem?_map,h1];rfl
  .rw [getElem?_append_right (by simp;omega),getElem?_replicate] at e;split at e<;>cases e
 own:=fun j d e=>by
  by_cases hj:j<xs.length
  .rw [getElem?_append_left (by simpa using hj),getElem?_map,List.getElem?_eq_getElem hj] at e;cases e
  .rw [getElem?_append_right (by simp;omega),getElem?_replicate] at e;split at e<;>cases e
 ne:=fun j k d d' _ e _=>by
  by_cases hj:j<xs.length
  .rw [getElem?_append_left (by simpa using hj),getElem?_map,List.getElem?_eq_getElem hj] at e;cases e
  .rw [getElem?_append_right (by simp;omega),getElem?_replicate] at e;split at e<;>cases e
def ytH {N:List Str}{Q:VK}(a:yfb K t s) (h:spE K n (ybl N.length s) vs H Q E):t ⟨fun _ H'=>Q .non H',Q,bk,ct⟩ (L2.start N vs) H:=by
 obtain ⟨W,xs,x,h',rfl,w,r,_,e,q⟩:=h;obtain ⟨o,h1,e1,f1⟩:=yi e;refine a W W _ _ _ o h1 (ygw w r) e1 ?_;cases o with
 | rt y=>cases f1;exact fun W' v ew l rv=>q v W' ew l rv
 | nx Y=>cases f1;exact fun W' Z' ew _ g=>q .non W' ew g.le rfl
 | bk Y=>cases f1
 | ct Y=>cases f1
def yxt {Q:VK}(h:spE K n f vs H Q E):vs.length=n:=by obtain ⟨W,xs,x,h',rfl,w,r,hn,_⟩:=h;rw [r.len,hn]
end
end PX
namespace PX
open PySem L2
variable {K:Ck}
def oI (g:Int->Int->PV):P2:=fun x y h=>match x,y with|.int i,.int j=>some (g i j,h)|_,_=>none
noncomputable def oIc (C:Int->Int->Prop) [∀ i j,Decidable (C i j)] (g:Int->Int->PV):P2:=fun x y h=>match x,y with|.int i,.int j=>if C i j then some (g i j,h) else none|_,_=>none
abbrev yfd:P2:=oI fun i j=>.int (i+j)
abbrev yvM:P2:=oI fun i j=>.int (i-j)
noncomputable def MulOk (i j:Int):Prop:=(-18446744073709551616<i/\i<18446744073709551616)\/(-18446744073709551616<j/\j<18446744073709551616)
instance (i j:Int):Decidable (MulOk i j):=by unfold MulOk;infer_instance
def PowOk (i j:Int):Prop:=(0<=i/\i<18446744073709551616)/\0<=j/\j<=1000000
instance (i j:Int):Decidable (PowOk i j):=by unfold PowOk;infer_instance
abbrev yxu:P2:=oIc MulOk fun i j=>.int (i*j)
abbrev oDiv:P2:=oIc (fun _ j=>0<j/\j<1073741824) fun i j=>.int (i/j)
abbrev oMod:P2:=oIc (fun _ j=>0<j) fun i j=>.int (i%j)
abbrev yCm:P2:=oIc PowOk fun i j=>.int (i ^ j.toNat)
abbrev oLt:P2:=oI fun i j=>.bl (decide (i<j))
abbrev oLe:P2:=oI fun i j=>.bl (decide (i<=j))
abbrev oGt:P2:=oI fun i j=>.bl (decide (j<i))
abbrev oGe:P2:=oI fun i j=>.bl (decide (j<=i))
abbrev yAj:PV->AH->Option (PV×AH):=fun x h=>match x with|.int i=>some (.int (-i),h)|_=>none
def yzh (h:∀ (W:Wd) i j,ycG K W (g i j) (gV i j)):ycj K (rI0 gV) (oI g):=by
 intro W x y v u Q z h' w rx ry e q;unfold oI at e;split at e
 .rename_i i j;cases e;exact ⟨i,j,rx,ry,q _ W rfl (.refl w) (h W i j)⟩
 .cases e
def ytI {C:Int->Int->Prop} [∀ i j,Decidable (C i j)] {C':Int->Int->Prop}{g:Int->Int->PV}{gV:Int->Int->V}(hc:∀ i j,C i j->C' i j) (h:∀ (W:Wd) i j,ycG K W (g i j) (gV i j)):ycj K (rI C' gV) (oIc C g):=by
 intro W x y v u Q z h' w rx ry e q;unfold oIc at e;split at e
 .rename_i i j;split at e
  .rename_i c;cases e;exact ⟨i,j,rx,ry,hc i j c,q _ W rfl (.refl w) (h W i j)⟩
  .cases e
 .cases e
def ydw:ycj K yCM yfd:=yzh fun _ _ _=>rfl
def yqN:ycj K yCN yvM:=yzh fun _ _ _=>rfl
def yqO:ycj K yCO yxu:=ytI (fun i j h=>by unfold CMul;rw [show (2:Int) ^ 64=18446744073709551616 by decide];exact h) fun _ _ _=>rfl
def yiv:ycj K yCP oDiv:=ytI (fun i j h=>h) fun _ _ _=>rfl
def ydr:ycj K yCQ oMod:=ytI (fun i j h=>h) fun _ _ _=>rfl
def yxv:ycj K yCR yCm:=ytI (fun i j h=>by unfold yCF;rw [show 2 ^ 64=18446744073709551616 by decide];unfold PowOk at h;omega) fun _ _ _=>rfl
def yxw:ycj K yFh oLt:=yzh fun _ _ _=>rfl
def ysM:ycj K yFi oLe:=yzh fun _ _ _=>rfl
def yAk:ycj K yFj oGt:=yzh fun _ _ _=>rfl
def yFm:ycj K yFk oGe:=yzh fun _ _ _=>rfl
def yxx:ywY K yCS yAj:=by
 intro W x v Q z h' w rx e q;unfold yAj at e;split at e
 .rename_i i;cases e;exact ⟨i,rx,q _ W rfl (.refl w) rfl⟩
 .cases e
def sv:PV->Option V
 | .non=>some .non
 | .bl b=>some (.bl b)
 | .int i=>some (.int i)
 | .str s=>some (.str s)
 | _=>none
def yfq (e:sv x=some u) (r:ycG K W x v):v=u:=by cases x<;>cases e<;>exact r
def oEq:P2:=fun x y h=>match sv x,sv y with|some v,some u=>if yvx v u=true then some (.bl (decide (v=u)),h) else none|_,_=>none
def oNe:P2:=fun x y h=>match sv x,sv y with|some v,some u=>if yvx v u=true then some (.bl (!decide (v=u)),h) else none|_,_=>none
def ydJ:ycj K rEq oEq:=by
 intro W x y v u Q z h' w rx ry e q;unfold oEq at e;split at e
 .rename_i v' u' e1 e2;obtain rfl:=yfq e1 rx;obtain rfl:=yfq e2 ry;split at e
  .rename_i c;cases e;exact ⟨c,q _ W rfl (.refl w) rfl⟩
  .cases e
 .cases e
def yCn:ycj K rNe oNe:=by
 intro W x y v u Q z h' w rx ry e q;unfold oNe at e;split at e
 .rename_i v' u' e1 e2;obtain rfl:=yfq e1 rx;obtain rfl:=yfq e2 ry;split at e
  .rename_i c;cases e;exact ⟨c,q _ W rfl (.refl w) rfl⟩
  .cases e
 .cases e
def isN:PV->Bool
 | .non=>true
 | _=>false
def yxy:P2:=fun x y h=>match y with|.non=>some (.bl (isN x),h)|_=>none
def ytJ:P2:=fun x y h=>match y with|.non=>some (.bl (!isN x),h)|_=>none
def yqP (r:ycG K W x v):decide (v=.non)=isN x:=by
 cases x with
 | non=>rw [show v=.non from r];rfl
 | bl b=>rw [show v=.bl b from r];rfl
 | int b=>rw [show v=.int b from r];rfl
 | str b=>rw [show v=.str b from r];rfl
 | ty b=>rw [show v=.ty b from r];rfl
 | cls b=>rw [show v=.ref _ from r];rfl
 | scr b=>obtain ⟨a,e,_⟩:=r;rw [e];rfl
 | lst b=>obtain ⟨a,_,e,_⟩:=r;rw [e];rfl
 | tup b=>obtain ⟨a,_,e,_⟩:=r;rw [e];rfl
 | ins k n b=>obtain ⟨a,_,_,e,_⟩:=r;rw [e];rfl
 | loc n=>obtain ⟨a,e,_⟩:=r;rw [e];rfl
 | exc n=>obtain ⟨a,e,_⟩:=r;rw [e];rfl
 | xcl n=>rw [show v=.ref _ from r];rfl
def ytK:ycj K yFl yxy:=by
 intro W x y v u Q z h' w rx ry e q;unfold yxy at e;split at e
 .cases e;exact ⟨ry,by rw [yqP rx];exact q _ W rfl (.refl w) rfl⟩
 .cases e
def yAl:ycj K yCU ytJ:=by
 intro W x y v u Q z h' w rx ry e q;unfold ytJ at e;split at e
 .cases e;exact ⟨ry,by rw [yqP rx];exact q _ W rfl (.refl w) rfl⟩
 .cases e
noncomputable def ycV:P2:=fun x y h=>match x,y with|.str i,.str j=>if i.length+j.length<=100000 then some (.str (i++j),h) else none|_,_=>none
def ycy:ycj K yCT ycV:=by
 intro W x y v u Q z h' w rx ry e q;unfold ycV at e;split at e
 .rename_i i j;split at e
  .rename_i c;cases e;exact ⟨i,j,rx,ry,yxq c,q _ W rfl (.refl w) rfl⟩
  .cases e
 .cases e
noncomputable def yCo:P2:=fun x y h=>match x,y with|.str s,.str j=>(match s.cps.toList with|[c]=>some (.bl (decide (c∈j.cps.toList)),h)|_=>none)|_,_=>none
def one_sign {s:Str}(h:s.cps.toList=[c]):s=⟨#[c]⟩:=by obtain ⟨⟨l⟩⟩:=s;have:l=[c]:=h;rw [this]
def yAm:ycj K yEK yCo:=by
 intro W x y v u Q z h' w rx ry e q;unfold yCo at e;split at e
 .rename_i s j;split at e
  .rename_i c hc;cases e;exact ⟨c,j,by rw [<- one_sign hc];exact rx,ry,q _ W rfl (.refl w) rfl⟩
  .cases e
 .cases e
def ybM:P2:=fun x y h=>match y with
 | .int i=>(match x with
  | .lst xs=>(match atI xs i with|some v=>some (v,h)|none=>none)
  | .scr ns=>(match atI ns i with|some v=>some (.int v,h)|none=>none)
  | .loc n=>(match h[n]? with|some (.lst xs)=>(match atI xs i with|some v=>some (v,h)|none=>none)|_=>none)
  | _=>none)
 | _=>none
def ybx:P2:=fun x y h=>match x,y with|.tup xs,.int i=>(match atI xs i with|some v=>some (v,h)|none=>none)|_,_=>none
def yAn:P2:=fun x y h=>match x,y with|.str s,.int i=>(match atI s.cps.toList i with|some c=>if s.length<=100000 then some (sgn c,h) else none|none=>none)|_,_=>none
def RepL.at (r:RepL K F m xs vs) (e:atI xs i=some x):∃ v,atI vs i=some v/\Rep K F m x v:=by unfold atI at e ⊢;rw [r.len];obtain ⟨j,e1,e2⟩:=Option.bind_eq_some_iff.mp e;rw [e1];exact r.get e2
theorem WOk.loc (w:WOk K W) (e:W.h[n]?=Option.some d) (r:ycG K W (.loc n) v):∃ a,v=.ref a/\W.m[n]?=Option.some a/\NdAt K W.F W.H W.m d a:=by obtain ⟨a,ea,h⟩:=r;exact ⟨a,ea,h,w.at_ n d a e h⟩
def ych:ycj K (yEC K.K) ybM:=by
 intro W x y v u Q z h' w rx ry e q;unfold ybM at e;split at e
 .rename_i i;split at e
  .rename_i xs;split at e
   .rename_i y hy;cases e;obtain ⟨a,vs,ev,hs,rs⟩:=rx;obtain ⟨v',h1,h2⟩:=rs.at hy;exact ⟨a,vs,i,v',ev,ry,SqL.of (w.le _ _ hs),h1,q _ W rfl (.refl w) h2⟩
   .cases e
  .rename_i ns;split at e
   .rename_i y hy;cases e;obtain ⟨a,ev,hs⟩:=rx;refine ⟨a,_,i,.int y,ev,ry,ydZ w hs,?_,q _ W rfl (.refl w) rfl⟩;unfold atI at hy ⊢;rw [length_map];obtain ⟨j,e1,e2⟩:=Option.bind_eq_some_iff.mp hy;rw [e1];show (ns.map V.int)[j]?=_;rw [getElem?_map,e2];rfl
   .cases e
  .rename_i n;split at e
   .rename_i xs hn;split at e
    .rename_i y hy;cases e;obtain ⟨a,ev,hm,hf,vs,hp,rs⟩:=w.loc hn rx;obtain ⟨v',h1,h2⟩:=rs.at hy;exact ⟨a,vs,i,v',ev,ry,SqL.of hp,h1,q _ W rfl (.refl w) h2⟩
    .cases e
   .cases e
  .cases e
 .cases e
def yZ:ycj K (yED K.K) ybx:=by
 intro W x y v u Q z h' w rx ry e q;unfold ybx at e;split at e
 .rename_i xs i;split at e
  .rename_i y hy;cases e;obtain ⟨a,vs,ev,hs,rs⟩:=rx;obtain ⟨v',h1,h2⟩:=rs.at hy;exact ⟨a,vs,i,v',ev,ry,ydq w hs,h1,q _ W rfl (.refl w) h2⟩
  .cases e
 .cases e
def yDa:ycj K yEE yAn:=by
 intro W x y v u Q z h' w rx ry e q;unfold yAn at e;split at e
 .rename_i s i;split at e
  .rename_i c hc;split at e
   .rename_i hl;cases e;exact ⟨s,i,c,rx,ry,yxq hl,hc,q _ W rfl (.refl w) rfl⟩
   .cases e
  .cases e
 .cases e
noncomputable def ykL {Z:Type}(xs:List Z) (lo hi:Option Int):List Z:=(xs.drop (HT.sIx xs.length 0 lo)).take (HT.sIx xs.length xs.length hi-HT.sIx xs.length 0 lo)
noncomputable def listOf (x:PV) (h:AH):Option (List PV):=match x with|.lst xs=>some xs|.scr ns=>some (ns.map .int)|.loc n=>(match h[n]? with|some (.lst xs)=>some xs|_=>none)|_=>none
def ygx (w:WOk K W) (e:listOf x W.h=some xs) (r:ycG K W x v):∃ a vs,v=.ref a/\SqL K.K W.H a vs/\ycE K W xs vs:=by
 unfold listOf at e;split at e
 .cases e;obtain ⟨a,vs,ev,hs,rs⟩:=r;exact ⟨a,vs,ev,SqL.of (w.le _ _ hs),rs⟩
 .rename_i ns;cases e;obtain ⟨a,ev,hs⟩:=r;exact ⟨a,_,ev,ydZ w hs,RepL.of_ints ns⟩
 .rename_i n;split at e
  .rename_i ys hn;cases e;obtain ⟨a,ev,hm,hf,vs,hp,rs⟩:=w.loc hn r;exact ⟨a,vs,ev,SqL.of hp,rs⟩
  .cases e
 .cases e
noncomputable def ybH (x:PV) (h:AH):Option (List PV):=match x with|.lst xs=>some xs|.loc n=>(match h[n]? with|some (.lst xs)=>some xs|_=>none)|_=>none
def yX (w:WOk K W) (e:ybH x W.h=some xs) (r:ycG K W x v):∃ a vs,v=.ref a/\W.H a=some (.lst vs)/\ycE K W xs vs:=by
 unfold ybH at e;split at e
 .cases e;obtain ⟨a,vs,ev,hs,rs⟩:=r;exact ⟨a,vs,ev,w.le _ _ hs,rs⟩
 .rename_i n;split at e
  .rename_i ys hn;cases e;obtain ⟨a,ev,hm,hf,vs,hp,rs⟩:=w.loc hn r;exact ⟨a,vs,ev,hp,rs⟩
  .cases e
 .cases e
def yAo (w:WOk K W) (hp:W.H p=none) (r:ycE K W xs vs) {Q:VK}(q:yph K W (.lst xs) W.h Q):Q (.ref p) (upd W.H p (.lst vs)) :=
 q p (ygv W p (.lst vs)) rfl (ycL w hp) (w.out hp) hp (fun z=>by cases z) ⟨w.ff hp,vs,yE,r⟩
def yiw:PV->Option Int->Option Int->AH->Option (Nd×AH):=fun x lo hi h=>match listOf x h with|some xs=>some (.lst (ykL xs lo hi),h)|none=>none
def yls:yqF K (yEF K.K) yiw:=by
 intro W x v lo hi Q d h' w rx e q;unfold yiw at e;split at e
 .rename_i xs hx;cases e;obtain ⟨a,vs,ev,hs,rs⟩:=ygx w hx rx;refine ⟨a,vs,ev,hs,fun p hp=>yAo w hp ?_ q⟩;have:=(rs.drop (HT.sIx xs.length 0 lo)).take (HT.sIx xs.length xs.length hi-HT.sIx xs.length 0 lo);unfold ykL yzT;rw [rs.len];exact this
 .cases e
def yqQ:P2O:=fun x y h=>match ybH x h,ybH y h with|some xs,some ys=>if xs.length+ys.length<=100000 then some (.lst (xs++ys),h) else none|_,_=>none
def ypl:ynY K yEH yqQ:=by
 intro W x y v u Q d h' w rx ry e q;unfold yqQ at e;split at e
 .rename_i xs ys hx hy;split at e
  .rename_i hl;cases e;obtain ⟨a,vs,ev,hs,rs⟩:=yX w hx rx;obtain ⟨b,us,eu,ht,ru⟩:=yX w hy ry;refine ⟨a,b,vs,us,ev,eu,hs,ht,by rw [rs.len,ru.len];exact yxq hl,fun p hp=>yAo w hp (rs.app ru) q⟩
  .cases e
 .cases e
def repL {Z:Type}(k:Nat) (xs:List Z):List Z:=(replicate k xs).flatten
theorem RepL.rep (r:RepL K F m xs vs):∀ k:Nat,RepL K F m (repL k xs) (repL k vs)
 | 0=>rfl
 | k+1=>by show RepL K F m ((replicate (k+1) xs).flatten) ((replicate (k+1) vs).flatten);rw [List.replicate_succ,List.replicate_succ,List.flatten_cons,List.flatten_cons];exact r.app (RepL.rep r k)
def yAp:P2O:=fun x y h=>match ybH x h,y with|some xs,.int k=>if -1000000<=k/\k<=100000/\xs.length*k.toNat<=100000 then some (.lst (repL k.toNat xs),h) else none|_,_=>none
def yAq:ynY K yEI yAp:=by
 intro W x y v u Q d h' w rx ry e q;unfold yAp at e;split at e
 .rename_i xs k hx;split at e
  .rename_i hl;cases e;obtain ⟨a,vs,ev,hs,rs⟩:=yX w hx rx;refine ⟨a,k,vs,ev,ry,hs,by omega,by omega,by rw [rs.len];exact yxq hl.2.2,fun p hp=>yAo w hp (rs.rep _) q⟩
  .cases e
 .cases e
noncomputable def yqR (x:PV) (h:AH):Option Nat:=match x with|.tup xs=>some xs.length|.lst xs=>some xs.length|.scr ns=>some ns.length|.loc n=>(match h[n]? with|some (.lst xs)=>some xs.length|_=>none)|_=>none
def ybU:List PV->AH->Option (PV×AH):=fun xs h=>match xs with|[x]=>(match yqR x h with|some n=>some (.int n,h)|none=>none)|_=>none
noncomputable def ynb:List PV->AH->Option (PV×AH):=fun xs h=>match xs with|[.str z]=>if z.length<=100000 then some (.int z.length,h) else none|_=>none
def ync (r:ycE K W [x] vs):∃ v,vs=[v]/\ycG K W x v:=by obtain ⟨v,r',e,h,l⟩:=r;exact ⟨v,by rw [e,show r'=[] from l],h⟩
def yFn (r:ycE K W [x,y] vs):∃ v u,vs=[v,u]/\ycG K W x v/\ycG K W y u:=by obtain ⟨v,r',e,h,l⟩:=r;obtain ⟨u,e2,h2⟩:=ync l;exact ⟨v,u,by rw [e,e2],h,h2⟩
def ycw:yhz K (yzW K.K) ybU:=by
 intro W xs vs Q z h' w r e q;unfold ybU at e;split at e
 .rename_i x;split at e
  .rename_i n hn;cases e;obtain ⟨v,rfl,rx⟩:=ync r;have fin:∀ (ys:List V),ys.length=n->Q (.int ys.length) W.H:=fun ys hl=>by rw [hl];exact q _ W rfl (.refl w) rfl
   unfold yqR at hn;split at hn
   .cases hn;obtain ⟨a,us,rfl,hs,rs⟩:=rx;exact ⟨a,us,rfl,.inr (ydq w hs),fin _ rs.len⟩
   .rename_i ys;cases hn;obtain ⟨a,us,rfl,hs,rs⟩:=rx;exact ⟨a,us,rfl,.inl (SqL.of (w.le _ _ hs)),fin _ rs.len⟩
   .rename_i ns;cases hn;obtain ⟨a,rfl,hs⟩:=rx;exact ⟨a,_,rfl,.inl (ydZ w hs),fin _ (by simp)⟩
   .split at hn
    .rename_i ys hy;cases hn;obtain ⟨a,rfl,hm,hf,us,hp,rs⟩:=w.loc hy rx;exact ⟨a,us,rfl,.inl (SqL.of hp),fin _ rs.len⟩
    .cases hn
   .cases hn
  .cases e
 .cases e
def yob:yhz K yCV ynb:=by
 intro W xs vs Q z h' w r e q;unfold ynb at e;split at e
 .rename_i s;split at e
  .rename_i hl;cases e;obtain ⟨v,rfl,rx⟩:=ync r;exact ⟨s,by rw [show v=_ from rx],yxq hl,q _ W rfl (.refl w) rfl⟩
  .cases e
 .cases e
noncomputable def yix:List PV->AH->Option (PV×AH):=fun xs h=>match xs with|[.int i]=>if i.natAbs.log2<1920 then some (.str (toString i:String),h) else none|_=>none
def yqS:yhz K yCW yix:=by
 intro W xs vs Q z h' w r e q;unfold yix at e;split at e
 .rename_i i;split at e
  .rename_i hl;cases e;obtain ⟨v,rfl,rx⟩:=ync r;exact ⟨i,by rw [show v=_ from rx],hl,q _ W rfl (.refl w) rfl⟩
  .cases e
 .cases e
noncomputable def yqT:List PV->AH->Option (PV×AH):=fun xs h=>match xs with|[.str z]=>if z.cps.toList≠[]/\(∀ c∈z.cps.toList,48<=c/\c<=57)/\z.length<=640 then some (.int (ywS z.cps.toList),h) else none|_=>none
def yAr:yhz K yzX yqT:=by
 intro W xs vs Q z h' w r e q;unfold yqT at e;split at e
 .rename_i i;split at e
  .rename_i hl;cases e;obtain ⟨v,rfl,rx⟩:=ync r;exact ⟨i,by rw [show v=_ from rx],hl.1,hl.2.1,hl.2.2,q _ W rfl (.refl w) rfl⟩
  .cases e
 .cases e
def yM:List PV->AH->Option (Nd×AH):=fun xs h=>match xs with|[.tup ys]=>some (.lst ys,h)|[x]=>(match listOf x h with|some ys=>some (.lst ys,h)|none=>none)|_=>none
def yba:yqB K (ywT K.K) yM:=by
 intro W xs vs Q d h' w r e q;unfold yM at e;split at e
 .rename_i ys;cases e;obtain ⟨v,rfl,a,us,rfl,hs,rs⟩:=ync r;exact ⟨a,us,rfl,.inr (ydq w hs),fun p hp=>yAo w hp rs q⟩
 .rename_i x _;split at e
  .rename_i ys hy;cases e;obtain ⟨v,rfl,rx⟩:=ync r;obtain ⟨a,us,rfl,hs,rs⟩:=ygx w hy rx;exact ⟨a,us,rfl,.inl hs,fun p hp=>yAo w hp rs q⟩
  .cases e
 .cases e
def strsOf:List PV->Option (List Str)
 | []=>some []
 | .str s::r=>(strsOf r).map (s::·)
 | _=>none
def intsOf:List PV->Option (List Int)
 | []=>some []
 | .int s::r=>(intsOf r).map (s::·)
 | _=>none
def yjG:List PV->Option (List Bool)
 | []=>some []
 | .bl s::r=>(yjG r).map (s::·)
 | _=>none
theorem yiT:∀ ss:List Str,strsOf (ss.map .str)=some ss
 | []=>rfl
 | s::ss=>by show (strsOf (ss.map .str)).map _=_;rw [yiT ss];rfl
theorem yiU:∀ ss:List Int,intsOf (ss.map .int)=some ss
 | []=>rfl
 | s::ss=>by show (intsOf (ss.map .int)).map _=_;rw [yiU ss];rfl
theorem ylt:∀ ss:List Bool,yjG (ss.map .bl)=some ss
 | []=>rfl
 | s::ss=>by show (yjG (ss.map .bl)).map _=_;rw [ylt ss];rfl
theorem yiV:∀ {xs:List PV}{ss:List Str}{vs:List V},strsOf xs=some ss->RepL K F m xs vs->vs=ss.map V.str
 | [],_,_,e,r=>by cases e;exact r
 | x::xs,ss,_,e,⟨v,r',ev,h,l⟩=>by
  cases x<;>try cases e
  rename_i s;obtain ⟨ts,e1,e2⟩:=Option.map_eq_some_iff.mp e;subst e2;rw [ev,show v=_ from h,yiV e1 l];rfl
theorem yiW:∀ {xs:List PV}{ss:List Int}{vs:List V},intsOf xs=some ss->RepL K F m xs vs->vs=ss.map V.int
 | [],_,_,e,r=>by cases e;exact r
 | x::xs,ss,_,e,⟨v,r',ev,h,l⟩=>by
  cases x<;>try cases e
  rename_i s;obtain ⟨ts,e1,e2⟩:=Option.map_eq_some_iff.mp e;subst e2;rw [ev,show v=_ from h,yiW e1 l];rfl
theorem yhB:∀ {xs:List PV}{ss:List Bool}{vs:List V},yjG xs=some ss->RepL K F m xs vs->vs=ss.map V.bl
 | [],_,_,e,r=>by cases e;exact r
 | x::xs,ss,_,e,⟨v,r',ev,h,l⟩=>by
  cases x<;>try cases e
  rename_i s;obtain ⟨ts,e1,e2⟩:=Option.map_eq_some_iff.mp e;subst e2;rw [ev,show v=_ from h,yhB e1 l];rfl
def yAs:List PV->AH->Option (PV×AH):=fun xs h=>match xs with|[x]=>(match ybH x h with|some ys=>(match intsOf ys with|some ns=>some (.int ns.sum,h)|none=>none)|none=>none)|_=>none
def yDb:yhz K yEM yAs:=by
 intro W xs vs Q z h' w r e q;unfold yAs at e;split at e
 .split at e
  .rename_i ys hy;split at e
   .rename_i ns hn;cases e;obtain ⟨v,rfl,rx⟩:=ync r;obtain ⟨a,us,rfl,hs,rs⟩:=yX w hy rx;have:=yiW hn rs;subst this;exact ⟨a,ns,rfl,hs,q _ W rfl (.refl w) rfl⟩
   .cases e
  .cases e
 .cases e
def yvN:List PV->AH->Option (PV×AH):=fun xs h=>match xs with|[x]=>(match ybH x h with|some ys=>(match yjG ys with|some ns=>some (.bl (ns.all id),h)|none=>none)|none=>none)|_=>none
def yAt:yhz K yEL yvN:=by
 intro W xs vs Q z h' w r e q;unfold yvN at e;split at e
 .split at e
  .rename_i ys hy;split at e
   .rename_i ns hn;cases e;obtain ⟨v,rfl,rx⟩:=ync r;obtain ⟨a,us,rfl,hs,rs⟩:=yX w hy rx;have:=yhB hn rs;subst this;exact ⟨a,ns,rfl,hs,q _ W rfl (.refl w) rfl⟩
   .cases e
  .cases e
 .cases e
def isStr:PV->AH->Bool:=fun x _=>match x with|.str _=>true|_=>false
def ynd:PM:=fun x xs h=>match x,xs with|.str sep,[y]=>(match ybH y h with|some ys=>(match strsOf ys with|some ts=>if sep.length<=16/\(ts.map (·.length)).sum+ts.length<=1048576 then some (.str (Str.join sep ts),h) else none|none=>none)|none=>none)|_,_=>none
def yAu:yhA K "str" isStr rJoin ynd:=by
 refine ⟨fun W x v w r c=>?_,fun W x v xs vs Q z h' w rx r e q=>?_⟩
 .unfold isStr at c;split at c
  .rw [show v=_ from r];rfl
  .cases c
 .unfold ynd at e;split at e
  .rename_i sep y;split at e
   .rename_i ys hy;split at e
    .rename_i ts ht;split at e
     .rename_i c;cases e;obtain ⟨u,rfl,ru⟩:=ync r;obtain ⟨a,us,rfl,hs,rs⟩:=yX w hy ru;have:=yiV ht rs;subst this;exact ⟨sep,a,ts,rx,rfl,hs,c.1,c.2,q _ W rfl (.refl w) rfl⟩
     .cases e
    .cases e
   .cases e
  .cases e
noncomputable def yne:PM:=fun x xs h=>match x,xs with|.str z,[.str s]=>(match s.cps.toList with|[c]=>if z.length<=1000/\c∈z.cps.toList then some (.int (z.cps.toList.idxOf c),h) else none|_=>none)|_,_=>none
def ytL:yhA K "str" isStr yqx yne:=by
 refine ⟨fun W x v w r c=>?_,fun W x v xs vs Q z h' w rx r e q=>?_⟩
 .unfold isStr at c;split at c
  .rw [show v=_ from r];rfl
  .cases c
 .unfold yne at e;split at e
  .rename_i z s;split at e
   .rename_i c hc;split at e
    .rename_i hl;cases e;obtain ⟨u,rfl,ru⟩:=ync r;exact ⟨z,c,rx,by rw [show u=_ from ru,one_sign hc],hl.1,hl.2,q _ W rfl (.refl w) rfl⟩
    .cases e
   .cases e
  .cases e
end PX
namespace PX
open PySem L2
variable {K:Ck}
noncomputable def putN (f:Str) (x:PV) (ns:List Str) (xs:List PV):List Str×List PV:=if f∈ns then (ns,xs.set (ns.idxOf f) x) else (ns++[f],xs++[x])
theorem yoc (f:Str) (y:V):∀ (ns:List Str) (vs:List V),vs.length=ns.length->yiO f y (ns.zip vs)=if f∈ns then ns.zip (vs.set (ns.idxOf f) y) else (ns++[f]).zip (vs++[y])
 | [],[],_=>by simp [yiO]
 | n::ns,v::vs,hl=>by
  have ih:=yoc f y ns vs (by simpa using hl);show (if n=f then (n,y)::ns.zip vs else (n,v)::yiO f y (ns.zip vs))=_
  by_cases h:n=f
  .subst h;simp [List.idxOf_cons_self]
  .have h':¬ f=n:=fun z=>h z.symm
   have hb:(n == f)=false:=by simpa using h
   rw [if_neg h,ih]
   by_cases hm:f∈ns
   .simp [hm,h',List.idxOf_cons,hb]
   .simp [hm,h']
theorem yiX:∀ {ns:List Str}{vs:List V},vs.length=ns.length->f∈ns->(ns.zip vs).lookup f=vs[ns.idxOf f]?
 | [],_,_,h=>by simp at h
 | n::ns,v::vs,hl,h=>by
  show List.lookup f ((n,v)::ns.zip vs)=_
  by_cases hn:f=n
  .subst hn;rw [yCY,List.idxOf_cons_self];rfl
  .rw [yzY hn,yiX (by simpa using hl) (by simpa [hn] using h)];have hb:(n == f)=false:=by simpa using fun z:n=f=>hn z.symm
   simp [List.idxOf_cons,hb]
theorem ydy:∀ {ns:List Str}{vs:List V},f∉ns->(ns.zip vs).lookup f=none
 | [],_,_=>by simp
 | n::ns,[],_=>by simp
 | n::ns,v::vs,h=>by show List.lookup f ((n,v)::ns.zip vs)=_;rw [yzY (fun z:f=n=>h (by rw [z];exact mem_cons_self)),ydy fun z=>h (mem_cons_of_mem _ z)]
noncomputable def ygX (x:PV) (h:AH):Option (Nat×List Str×List PV):=match x with|.ins k ns xs=>some (k,ns,xs)|.loc n=>(match h[n]? with|some (.ins k ns xs)=>some (k,ns,xs)|_=>none)|_=>none
def yfX (w:WOk K W) (e:ygX x W.h=some (k,ns,xs)) (r:ycG K W x v):∃ a dx vs,v=.ref a/\W.H a=some (.ins (K.A k) dx (ns.zip vs))/\vs.length=ns.length/\ycE K W xs vs:=by
 unfold ygX at e;split at e
 .cases e;obtain ⟨a,dx,vs,ev,hs,hl,rs⟩:=r;exact ⟨a,dx,vs,ev,w.le _ _ hs,hl,rs⟩
 .rename_i n;split at e
  .rename_i hn;cases e;obtain ⟨a,ev,hm,hf,dx,vs,hp,hl,rs⟩:=w.loc hn r;exact ⟨a,dx,vs,ev,hp,hl,rs⟩
  .cases e
 .cases e
def ybb (cs:List Nat) (f:Str) (e:XE):XE:=fun Y h=>ob (e Y h) fun x h1=>match ygX x h1 with|some (k,ns,xs)=>if k∈cs/\f∈ns then (match xs[ns.idxOf f]? with|some y=>some (y,h1)|none=>none) else none|none=>none
def yxz (hc:∀ k∈cs,Cls K.K (K.A k)/\NoAttr K.K (K.A k) f) (a:ybR K ta ea):ybR K (yEz K.K ta f) (ybb cs f ea):=by
 intro W0 W Y Z Q z h' g e q;obtain ⟨x,h1,e1,f1⟩:=yi e;refine a W0 W Y Z _ x h1 g e1 fun v W1 w1 l1 r1=>?_
 subst w1;split at f1
 .rename_i k ns xs hi;split at f1
  .rename_i c;split at f1
   .rename_i y hy;cases f1;obtain ⟨a,dx,vs,ev,hp,hl,rs⟩:=yfX l1.ok hi r1;obtain ⟨u,h2,h3⟩:=rs.get hy;exact ⟨a,_,dx,_,u,ev,hp,(hc k c.1).1,(hc k c.1).2,by rw [yiX hl c.2];exact h2,q _ W1 rfl l1 h3⟩
   .cases f1
  .cases f1
 .cases f1
def ycu (cs:List Nat) (i:Nat) (f:Str) (e:XE):XS:=fun Y h=>ob (e Y h) fun x h1=>match Y[i]? with
 | some (.own (.ins k ns xs))=>if k∈cs/\ns.length<1000 then some (.nx (Y.set i (.own (.ins k (putN f x ns xs).1 (putN f x ns xs).2))),h1) else none
 | _=>none
theorem RepL.putN {ns:List Str}(r:RepL K F m xs vs) (hl:vs.length=ns.length) (rx:Rep K F m x v) :
  ∃ us,yiO f v (ns.zip vs)=(PX.putN f x ns xs).1.zip us/\us.length=(PX.putN f x ns xs).1.length/\RepL K F m (PX.putN f x ns xs).2 us:=by
 rw [yoc f v ns vs hl];unfold PX.putN
 by_cases h:f∈ns
 .rw [if_pos h,if_pos h];exact ⟨_,rfl,by rw [length_set];exact hl,r.set _ rx⟩
 .rw [if_neg h,if_neg h];exact ⟨_,rfl,by rw [length_append,length_append,hl];rfl,r.snoc rx⟩
noncomputable def ysN (K:Ck) (t:TS) (s:XS):Prop:=∀ (W0 W:Wd) (Y Y':PSt) (Z:St) (D:Ends) (h':AH),Good K W0 W Y Z->s Y W.h=some (.nx Y',h')->(∀ W',W'.h=h'->Lf K W W'->Good K W0 W' Y' Z->D.nx Z W'.H)->t D Z W.H
def ytM (hc:∀ k∈cs,Cls K.K (K.A k)/\NoAttr K.K (K.A k) f) (a:ybR K ta ea):ysN K (yCH K.K (ypN i) ta f) (ycu cs i f ea):=by
 intro W0 W Y Y' Z D h' g e q;obtain ⟨x,h1,e1,f1⟩:=yi e;split at f1
 .rename_i k ns xs hi;split at f1
  .rename_i c;cases f1;refine a W0 W Y Z _ x _ g e1 fun v W1 w1 l1 r1=>?_
   have g1:=g.step l1;obtain ⟨p,b1,b2,b3,b4,b5,dx,vs,b6,b7,b8⟩:=g1.own i _ hi;obtain ⟨us,p1,p2,p3⟩:=b8.putN (f:=f) b7 r1;refine ⟨_,b1,p,_,dx,_,rfl,b6,(hc k c.1).1,(hc k c.1).2,by rw [length_zip,b7];simpa using c.2,?_⟩;rw [p1];exact q (ysL W1 p _) w1 (yqJ l1 b2) (g1.mut hi b1 b2 b3 b5 (fun z=>by cases z) ⟨b5,dx,us,yE,p2,p3⟩)
  .cases f1
 .cases f1
def ytN (a:ysN K t s) (b:ysN K u s'):ysN K (yCA t u) (yl s s'):=by
 intro W0 W Y Y' Z D h' g e q;obtain ⟨o1,h1,e1,f1⟩:=yi e;cases o1 with
 | nx Y1=>exact a W0 W Y Y1 Z _ h1 g e1 fun W1 w1 l1 g1=>b W0 W1 Y1 Y' Z D h' g1 (by rw [w1];exact f1) fun W2 w2 l2 g2=>q W2 w2 (l1.trans l2) g2
 | rt y=>cases f1
 | bk y=>cases f1
 | ct y=>cases f1
def ymp (N:Nat) (k:Nat) (s:XS):List PV->AH->Option (Nd×AH):=fun xs h=>ob (s (.own (.ins k [] [])::(xs.map .val++replicate (N-(xs.length+1)) .no)) h) fun o h1=>match o with|.nx Y=>(match Y[0]? with|some (PVar.own d)=>some (d,h1)|_=>none)|_=>none
def spI (K:Ck) (n k:Nat) (f:List PV->AH->Option (Nd×AH)):Sp:=fun vs H Q _=>∃ (W:Wd) (x dx:Addr) (args:List V) (xs:List PV) (d:Nd) (h':AH),vs=.ref x::args/\W.H x=none/\W.H dx=none/\dx≠x/\H=upd (upd W.H dx (.own x)) x (.ins (K.A k) dx []) /\
 WOk K W/\ycE K W xs args/\xs.length=n/\f xs W.h=some (d,h')/\∀ W',W'.h=h'->Le K W W'->x∉W'.m->d≠.dead->NdAt K W'.F W'.H W'.m d x->Q .non W'.H
def yxA {f} {Q:VK}(h:spI K n k f vs H Q E):vs.length=n+1:=by obtain ⟨W,x,dx,args,xs,d,h',rfl,_,_,_,_,w,r,hn,_⟩:=h;rw [length_cons,r.len,hn]
def ytO {N:List Str}{Q:VK}(hN:n+1<=N.length) (a:ysN K t s) (h:spI K n k (ymp N.length k s) vs H Q E):t ⟨fun _ H'=>Q .non H',Q,bk,ct⟩ (L2.start N vs) H:=by
 obtain ⟨W,x,dx,args,xs,d,h',rfl,hx,hd,hne,rfl,w,r,hn,e,q⟩:=h;obtain ⟨o,h1,e1,f1⟩:=yi e;have l1:Le K W (ygv W dx (.own x)):=ycL w hd;have hx1:(ygv W dx (.own x)).H x=none:=(yK hne.symm).trans hx;have l2:Le K (ygv W dx (.own x)) (ygv (ygv W dx (.own x)) x (.ins (K.A k) dx [])):=ycL l1.ok hx1;have l:=l1.trans l2;have gs:=ygw (K:=K) (N:=N.drop 1) w r;have g:Good K W (ygv (ygv W dx (.own x)) x (.ins (K.A k) dx [])) (.own (.ins k [] [])::(xs.map .val++replicate (N.length-(xs.length+1)) .no)) (L2.start N (.ref x::args)):=by
  have es:L2.start N (.ref x::args)=some (.ref x)::L2.start (N.drop 1) args:=by
   have e3:N.length-(args.length+1)=(N.drop 1).length-args.length:=by rw [length_drop];omega
   unfold L2.start;rw [map_cons,List.cons_append,length_cons,e3]
  have eN:N.length-(xs.length+1)=(N.drop 1).length-xs.length:=by rw [length_drop];omega
  rw [es,eN];have gs':=gs.step l;have noown:∀ (j:Nat) (d:Nd),(xs.map PVar.val++replicate ((N.drop 1).length-xs.length) .no)[j]?≠some (.own d):=fun j d z=>by
   by_cases hj:j<xs.length
   .rw [getElem?_append_left (by simpa using hj),getElem?_map,List.getElem?_eq_getElem hj] at z;cases z
   .rw [getElem?_append_right (by simp;omega),getElem?_replicate] at z;split at z<;>cases z
  refine ⟨l,by rw [length_cons,length_cons,gs.len],fun j y z=>?_,fun j d z=>?_,fun i j d d' hij z z'=>?_⟩
  .cases j with
   | zero=>cases z
   | succ j=>exact gs'.val j y z
  .cases j with
   | zero=>cases z;exact ⟨x,rfl,w.out hx,hx,(fun z=>by cases z),w.ff hx,dx,[],yE,rfl,rfl⟩
   | succ j=>exact absurd z (noown j d)
  .cases i with
   | zero =>
    cases j with
    | zero=>exact absurd rfl hij
    | succ j=>exact absurd z' (noown j d')
   | succ i=>exact absurd z (noown i d)
 cases o with
 | rt y=>cases f1
 | bk Y=>cases f1
 | ct Y=>cases f1
 | nx Y =>
  refine a W _ _ Y _ _ h1 g e1 fun W' ew lf g'=>?_
  dsimp only at f1;split at f1
  .rename_i d' hd';cases f1;obtain ⟨p,b1,b2,b3,b4,b5⟩:=g'.own 0 _ hd';have b1:some (some (V.ref x))=some (some (V.ref p)):=b1;cases b1;exact q W' ew g'.le b2 b4 b5
  .cases f1
def yfD (f:List PV->AH->Option (Nd×AH)) (a:XA):XO:=fun Y h=>ob (a Y h) f
def yod {f} (a:ylq K t e) (hn:∀ Y h xs h',e Y h=some (xs,h')->xs.length=n):ymn K (ytf (K.A k) (spI K n k f) [] ex t) (yfD f e):=by
 intro W0 W Y Z Q d h' g e' q;obtain ⟨xs,h1,e1,e2⟩:=yi e';refine a W0 W Y Z _ xs h1 g e1 fun vs W1 w1 l1 r1=>?_
 subst w1;intro x dx hx hd hne;rw [append_nil];exact ⟨W1,x,dx,vs,xs,d,h',rfl,hx,hd,hne,rfl,l1.ok,r1,hn _ _ _ _ e1,e2,fun W2 w2 l2 hm hdd at_=>⟨rfl,q x W2 w2 (l1.trans l2) hm (l1.fresh hx) hdd at_⟩⟩
def yqU (k:Nat):XO:=fun _ h=>some (.ins k [] [],h)
def yqV:ymn K (yvF (K.A k)) (yqU k):=by intro W0 W Y Z Q d h' g e q;cases e;intro x dx hx hd hne;have w:=g.ok;have l1:Le K W (ygv W dx (.own x)):=ycL w hd;have hx1:(ygv W dx (.own x)).H x=none:=(yK hne.symm).trans hx;have l2:Le K (ygv W dx (.own x)) (ygv (ygv W dx (.own x)) x (.ins (K.A k) dx [])):=ycL l1.ok hx1;exact q x (ygv (ygv W dx (.own x)) x (.ins (K.A k) dx [])) rfl (l1.trans l2) (w.out hx) hx (fun z=>by cases z) ⟨w.ff hx,dx,[],yE,rfl,rfl⟩
def ypm (m:Str) (f:Nat->Fn) (e:XE):XE:=fun Y h=>ob (e Y h) fun x h1=>match ygX x h1 with|some (k,ns,_)=>if m∈ns then none else f k [x] h1|none=>none
def ytP (a:ybR K ta ea):ybR K (yvG K.A m (fun k=>spE K 1 (f k)) ta) (ypm m f ea):=by
 intro W0 W Y Z Q z h' g e q;obtain ⟨x,h1,e1,f1⟩:=yi e;refine a W0 W Y Z _ x h1 g e1 fun v W1 w1 l1 r1=>?_
 subst w1;split at f1
 .rename_i k ns xs hi;split at f1
  .cases f1
  .rename_i hm;obtain ⟨b,dx,vs,ev,hp,hl,rs⟩:=yfX l1.ok hi r1;exact ⟨b,k,dx,_,ev,hp,ydy hm,W1,[x],z,h',rfl,l1.ok,⟨v,[],rfl,r1,rfl⟩,rfl,f1,fun u W2 w2 l2 r2=>q u W2 w2 (l1.trans l2) r2⟩
 .cases f1
def yAv (tb:List (Nat×Nat×Bool)) (x c:PV) (h:AH):Option Bool:=match c with
 | .ty n=>(match x with
  | .int _=>if n = "int" then some true else if n = "bool"\/n = "str"\/n = "list"\/n = "tuple"\/n = "dict" then some false else none
  | .bl _=>if n = "int"\/n = "bool" then some true else if n = "str"\/n = "list"\/n = "tuple"\/n = "dict" then some false else none
  | .str _=>if n = "str" then some true else if n = "int"\/n = "bool"\/n = "list"\/n = "tuple"\/n = "dict" then some false else none
  | .non=>if n = "int"\/n = "bool"\/n = "str"\/n = "list"\/n = "tuple"\/n = "dict" then some false else none
  | .tup _=>if n = "tuple" then some true else if n = "int"\/n = "bool"\/n = "str"\/n = "list"\/n = "dict" then some false else none
  | _=>(match ybH x h with|some _=>if n = "list" then some true else if n = "int"\/n = "bool"\/n = "str"\/n = "tuple"\/n = "dict" then some false else none|none=>none))
 | .cls c'=>(match ygX x h with|some (k,_)=>(tb.find? fun r=>r.1 == k && r.2.1 == c').map (·.2.2)|none=>none)
 | _=>none
def ymq (tb:List (Nat×Nat×Bool)):List PV->AH->Option (PV×AH):=fun xs h=>match xs with|[x,c]=>(match yAv tb x c h with|some b=>some (.bl b,h)|none=>none)|_=>none
def yfY {tb:List (Nat×Nat×Bool)}(ht:∀ r∈tb,∀ (H:Hp) (a dx:Addr) (fs:List (Str×V)),H a=some (.ins (K.A r.1) dx fs)->IsI K.K H (.ref a) (.ref (K.A r.2.1)) r.2.2):yhz K (yEJ K.K) (ymq tb):=by
 intro W xs vs Q z h' w r e q;unfold ymq at e;split at e
 .rename_i x c;split at e
  .rename_i b hb;cases e;obtain ⟨v,u,rfl,rx,ru⟩:=yFn r;refine ⟨v,u,b,rfl,?_,q _ W rfl (.refl w) rfl⟩;unfold yAv at hb;split at hb
   .rename_i n;obtain rfl:u=.ty n:=ru;split at hb
    .rw [show v=_ from rx]
     repeat' split at hb
     all_goals cases hb
     .rename_i hn;subst hn;exact ymF
     .rename_i hn;rcases hn with rfl|rfl|rfl|rfl|rfl
      .exact ykX
      .exact ymL
      .exact ylb
      .exact yjv
      .exact ylc
    .rw [show v=_ from rx]
     repeat' split at hb
     all_goals cases hb
     .rename_i hn;rcases hn with rfl|rfl
      .exact ypf
      .exact ymH
     .rename_i hn;rcases hn with rfl|rfl|rfl|rfl
      .exact ypg
      .exact ymM
      .exact yle
      .exact ymN
    .rw [show v=_ from rx]
     repeat' split at hb
     all_goals cases hb
     .rename_i hn;subst hn;exact ymI
     .rename_i hn;rcases hn with rfl|rfl|rfl|rfl|rfl
      .exact ymO
      .exact ylf
      .exact ylg
      .exact yjw
      .exact ylh
    .rw [show v=_ from rx]
     repeat' split at hb
     all_goals cases hb
     .rename_i hn;rcases hn with rfl|rfl|rfl|rfl|rfl|rfl
      .exact ymG
      .exact yli
      .exact ymP
      .exact ylj
      .exact yjx
      .exact ylk
    .obtain ⟨a,us,rfl,hs,_⟩:=rx;have hp:(∃ xs,W.H a=some (.tup xs))\/∃ o,K.K.lookup a=some o/\o.cls=.type "tuple":=hs.elim (fun h=>.inl ⟨_,w.le _ _ h⟩) fun ⟨o,its,n,e1,e2,_⟩=>.inr ⟨o,e1,e2⟩
     repeat' split at hb
     all_goals cases hb
     .rename_i hn;subst hn;exact yjz hp
     .rename_i hn;rcases hn with rfl|rfl|rfl|rfl|rfl
      .exact ymS hp
      .exact yln hp
      .exact ymT hp
      .exact ylo hp
      .exact ylp hp
    .split at hb
     .rename_i ys hy;obtain ⟨a,us,rfl,hp,_⟩:=yX w hy rx
      repeat' split at hb
      all_goals cases hb
      .rename_i hn;subst hn;exact ykY hp
      .rename_i hn;rcases hn with rfl|rfl|rfl|rfl|rfl
       .exact ymQ hp
       .exact yll hp
       .exact ymR hp
       .exact yjy hp
       .exact ylm hp
     .cases hb
   .rename_i c';obtain rfl:u=.ref (K.A c'):=ru;split at hb
    .rename_i k p hi;obtain ⟨r',h1,h2⟩:=Option.map_eq_some_iff.mp hb;have hm:=List.mem_of_find?_eq_some h1;have hp:=List.find?_some h1;simp only [and_eq_true,beq_iff_eq] at hp;obtain ⟨a,dx,us,rfl,hs,_⟩:=yfX w hi rx;obtain ⟨p1,p2⟩:=hp;have:=ht r' hm W.H a dx (p.1.zip us) (by rw [p1];exact hs);rw [p2,h2] at this;exact this
    .cases hb
   .cases hb
  .cases e
 .cases e
end PX
namespace PX
open PySem L2
section
variable {Y:PSt}{h h1:AH}{x y z:PV}{a b c:XE}{ca cb:XT}{aa:XA}{eo:XO}{s u:XS}{i:Nat}{p:P2}
def ybw {Z B:Type}{x:Z}{h:AH}{f:Z->AH->Option B}:ob (some (x,h)) f=f x h:=id rfl
def yDc {Z B:Type}{f:Z->AH->Option B}:ob (none:Option (Z×AH)) f=none:=id rfl
def yxB {Z B γ:Type}{o:Option (Z×AH)}{f:Z->AH->Option (B×AH)}{g:B->AH->Option γ}:ob (ob o f) g=ob o fun x h=>ob (f x h) g:=by cases o<;>rfl
def yDd {Z B:Type}{q:Prop} [Decidable q] {o o':Option (Z×AH)}{f:Z->AH->Option B}:ob (if q then o else o') f=if q then ob o f else ob o' f:=by split<;>rfl
def yAw:ye 0 (.val x::Y) h=some (x,h):=id rfl
def yAx:ye (n+1) (v::Y) h=ye n Y h:=by simp [ye]
def x_c:xC x Y h=some (x,h):=id rfl
def yDe:xOp p a b Y h=ob (a Y h) fun x h1=>ob (b Y h1) fun y h2=>p x y h2:=id rfl
def yDf {p:P2O}:ypP p a b Y h=ob (a Y h) fun x h1=>ob (b Y h1) fun y h2=>p x y h2:=id rfl
def yFo {p}:xUn p a Y h=ob (a Y h) fun x h1=>p x h1:=id rfl
def yEO:oB (.bl k) h=some (k,h):=id rfl
def yxC {p p':P2}:yfn p p' a b c Y h=ob (a Y h) fun x h1=>ob (b Y h1) fun y h2=>ob (p x y h2) fun z h3=>ob (oB z h3) fun k h3=>if k=true then ob (c Y h3) fun w h4=>p' y w h4 else some (.bl false,h3):=id rfl
def yvO:yz a Y h=ob (a Y h) oB:=id rfl
def yAy:yjA a b Y h=ob (a Y h) fun x h1=>ob (oB x h1) fun k h1=>if k=true then b Y h1 else some (.bl false,h1):=id rfl
def yDg:yvH ca cb Y h=ob (ca Y h) fun k h1=>if k=true then cb Y h1 else some (false,h1):=id rfl
def yFp:xOr ca cb Y h=ob (ca Y h) fun k h1=>if k=true then some (true,h1) else cb Y h1:=id rfl
def yDh:ymo ca Y h=ob (ca Y h) fun k h1=>some (!k,h1):=id rfl
def yFq:xIf ca a b Y h=ob (ca Y h) fun k h1=>if k=true then a Y h1 else b Y h1:=id rfl
def ytQ:yh Y h=some ([],h):=id rfl
def yAz:yc a aa Y h=ob (a Y h) fun x h1=>ob (aa Y h1) fun xs h2=>some (x::xs,h2):=id rfl
def yDi:yfC aa Y h=ob (aa Y h) fun xs h1=>if xs.length<=1000 then some (.tup xs,h1) else none:=id rfl
def yDj:yec aa Y h=ob (aa Y h) fun xs h1=>if xs.length<=1000 then some (.lst xs,h1) else none:=id rfl
def fzN:Nd->AH->Option (PV×AH)
 | .lst xs,h=>some (.lst xs,h)
 | .ins k ns xs,h=>some (.ins k ns xs,h)
 | _,_=>none
def yzi:xFz eo Y h=ob (eo Y h) fzN:=by unfold xFz;congr;funext d h1;cases d<;>rfl
def yDk:fzN (.lst xs) h=some (.lst xs,h):=id rfl
def yDl:yfo eo Y h=ob (eo Y h) fun d h1=>some (.loc h1.length,h1++[d]):=id rfl
def x_call:yW f aa Y h=ob (aa Y h) f:=id rfl
def yFr {f}:xCB f aa Y h=ob (aa Y h) f:=id rfl
def yDm {f}:yfc f aa Y h=ob (aa Y h) f:=id rfl
def yAA {q} {p:PM}:xBM q p a aa Y h=ob (a Y h) fun x h1=>if q x h1=true then ob (aa Y h1) fun xs h2=>p x xs h2 else none:=id rfl
def yxD {s:Str}:isStr (.str s) h=true:=id rfl
def yAB {f}:yfD f aa Y h=ob (aa Y h) f:=id rfl
def yvP:yS Y h=some (.nx Y,h):=id rfl
noncomputable def sqK (u:XS):Out->AH->Option (Out×AH)
 | .nx Y,h=>u Y h
 | .rt x,h=>some (.rt x,h)
 | .bk Y,h=>some (.bk Y,h)
 | .ct Y,h=>some (.ct Y,h)
def yjH:yl s u Y h=ob (s Y h) (sqK u):=by unfold yl;congr;funext o h1;cases o<;>rfl
def ypn:sqK u (.nx Y) h=u Y h:=id rfl
def yDn:sqK u (.rt x) h=some (.rt x,h):=id rfl
def yoe:yY a Y h=ob (a Y h) fun _ h1=>some (.nx Y,h1):=id rfl
def ynf:yO a Y h=ob (a Y h) fun x h1=>some (.rt x,h1):=id rfl
def yAC:ybN ca s u Y h=ob (ca Y h) fun k h1=>if k=true then s Y h1 else u Y h1:=id rfl
def ytR:ybq a g Y h=ob (a Y h) fun x h1=>(g x Y).bind fun Y'=>some (.nx Y',h1):=id rfl
def yAD:ygV eo i Y h=ob (eo Y h) fun d h1=>some (.nx (Y.set i (.own d)),h1):=id rfl
def yAE:yn i x Y=some (Y.set i (.val x)):=id rfl
def yDo:yqG i s Y h=s (ymY i Y) h:=id rfl
def yDp:ymY 0 (v::Y)=ytz v::Y:=id rfl
def yDq:ymY (n+1) (v::Y)=v::ymY n Y:=id rfl
def yDr:ytz (.own (.lst xs))=.val (.lst xs):=id rfl
def yqW:yhm it g s Y h=ob (it Y h) fun xs h1=>yeL g s xs Y h1:=id rfl
def frK (g:XG) (s:XS) (xs:List PV):Out->AH->Option (Out×AH)
 | .nx Y,h=>yeL g s xs Y h
 | .ct Y,h=>yeL g s xs Y h
 | .bk Y,h=>some (.nx Y,h)
 | .rt y,h=>some (.rt y,h)
def yvQ:yeL g s (x::xs) Y h=(g x Y).bind fun Y1=>ob (s Y1 h) (frK g s xs):=by unfold yeL;congr;funext Y1;congr;funext o h1;cases o<;>rfl
def fnK:Out->AH->Option (PV×AH)
 | .rt x,h=>some (x,h)
 | .nx _,h=>some (.non,h)
 | _,_=>none
def yo:ybl N s xs h=ob (s (xs.map .val++replicate (N-xs.length) .no) h) fnK:=by unfold ybl;congr;funext o h1;cases o<;>rfl
def yDs:fnK (.rt x) h=some (x,h):=id rfl
def yDt:fnK (.nx Y) h=some (.non,h):=id rfl
def yfT (cs:List Nat) (f:Str) (x:PV) (h:AH):Option (PV×AH):=match ygX x h with|some (k,ns,xs)=>if k∈cs/\f∈ns then (match xs[ns.idxOf f]? with|some y=>some (y,h)|none=>none) else none|none=>none
def yjI:ybb cs f a Y h=ob (a Y h) (yfT cs f):=id rfl
def x_i {i j:Int}:oI g (.int i) (.int j) h=some (g i j,h):=id rfl
def yCp {C:Int->Int->Prop} [∀ i j,Decidable (C i j)] {g:Int->Int->PV}{i j:Int}:oIc C g (.int i) (.int j) h=if C i j then some (g i j,h) else none:=id rfl
def ylu {i j:Int}(h1:-18446744073709551616<j) (h2:j<18446744073709551616):MulOk i j=True:=eq_true (.inr ⟨h1,h2⟩)
def yDu {i j:Int}(h1:0<=i) (h2:i<18446744073709551616) (h3:0<=j) (h4:j<=1000000):PowOk i j=True:=eq_true ⟨⟨h1,h2⟩,h3,h4⟩
def yDv {i j:Int}:oEq (.int i) (.int j) h=some (.bl (decide (i=j)),h):=by simp [oEq,sv,yvx]
def yDw {i j:Str}:oEq (.str i) (.str j) h=some (.bl (decide (i=j)),h):=by simp [oEq,sv,yvx]
def yDx {i j:Int}:oNe (.int i) (.int j) h=some (.bl (!decide (i=j)),h):=by simp [oNe,sv,yvx]
def yDy {i j:Str}:oNe (.str i) (.str j) h=some (.bl (!decide (i=j)),h):=by simp [oNe,sv,yvx]
def yDz:yxy x .non h=some (.bl (isN x),h):=id rfl
def yAF:ytJ x .non h=some (.bl (!isN x),h):=id rfl
def yqX {i j:Str}:ycV (.str i) (.str j) h=if i.length+j.length<=100000 then some (.str (i++j),h) else none:=id rfl
def yjJ {i:Int}:ybM (.lst xs) (.int i) h=(atI xs i).bind fun v=>some (v,h):=by simp only [ybM];cases atI xs i<;>rfl
def yDA {i:Int}:ybM (.scr xs) (.int i) h=(atI xs i).bind fun v=>some (.int v,h):=by simp only [ybM];cases atI xs i<;>rfl
def yxE {i:Int}:ybx (.tup xs) (.int i) h=(atI xs i).bind fun v=>some (v,h):=by simp only [ybx];cases atI xs i<;>rfl
def yDB {s:Str}{i:Int}:yAn (.str s) (.int i) h=(atI s.cps.toList i).bind fun c=>if s.length<=100000 then some (sgn c,h) else none:=by simp only [yAn];cases atI s.cps.toList i<;>rfl
def yDC:yiw (.lst xs) lo hi h=some (.lst (ykL xs lo hi),h):=id rfl
def yAG:yiw (.scr xs) lo hi h=some (.lst (ykL (xs.map .int) lo hi),h):=id rfl
def yxF:yqQ (.lst xs) (.lst ys) h=if xs.length+ys.length<=100000 then some (.lst (xs++ys),h) else none:=id rfl
def yDD:yAp (.lst xs) (.int k) h=if -1000000<=k/\k<=100000/\xs.length*k.toNat<=100000 then some (.lst (repL k.toNat xs),h) else none:=id rfl
def yDE {p} {lo hi}:yjB p a lo hi Y h=ob (a Y h) fun x h1=>ob (lo Y h1) fun l h2=>ob (hi Y h2) fun u h3=>p x l u h3:=id rfl
def yAH:yen a Y h=ob (a Y h) fun x h1=>match x with|.int i=>some (some i,h1)|_=>none:=id rfl
def ytS:yci Y h=some (none,h):=id rfl
def yqY:ybU [.lst xs] h=some (.int xs.length,h):=id rfl
def yAI:ybU [.scr xs] h=some (.int xs.length,h):=id rfl
def yAJ {z:Str}:ynb [.str z] h=if z.length<=100000 then some (.int z.length,h) else none:=id rfl
def yqZ:yix [.int k] h=if k.natAbs.log2<1920 then some (.str (toString k:String),h) else none:=id rfl
def yxG:yM [.lst xs] h=some (.lst xs,h):=id rfl
def yFs (e:a Y h=some (.lst xs,h1)):xIL a Y h=some (xs,h1):=by unfold xIL;rw [e];rfl
def yra:yfj it ix a Y h=ob (it Y h) fun xs h1=>if xs.length<=100000 then ob (yiS a (yfS ix Y) xs h1) fun ys h2=>some (.lst ys,h2) else none:=id rfl
end
end PX
namespace L2
open PySem PySem.Spec PyProof.Rows
section
variable (P:Program) (w:World)
end
section
variable {P:Program}{w:World}{H H':Hp}{h h':Heap}{a:Addr}{o:HO}
end
section
variable {P:Program}{w:World}{H:Hp}{h h':Heap}{x e:Addr}{o':HO}
end
section
variable {fs fs' ex ex':List Addr}{H H1 H2:Hp}{h h1 h2 h':Heap}{a x e:Addr}{o:HO}
end
section
variable {X:Cx}{pins:List (Addr×Obj)}{Z:List (Option V)}{H H':Hp}{s:Shared}{h':Heap}
end
section
variable {X:Cx}
variable {a b:Expr}{ta tb:TE}{pos:Pos}
variable {tA tB':TT}{rest:List Expr}
end
section
variable {X:Cx}{pins:List (Addr×Obj)}{Z:St}{H:Hp}{s:Shared}{a:Addr}{xs ys:List V}
end
section
variable {X:Cx}{pins:List (Addr×Obj)}{Z:St}{H:Hp}{s:Shared}{E:Value->Shared->Prop}
end
section
variable {X:Cx}{st:Stmt}{rest:List Stmt}{t u:TS}{e:Expr}{te:TE}{pos:Pos}
end
section
variable {X:Cx}{pos:Pos}
end
section
variable {X:Cx}{pos:Pos}
end
section
variable {X:Cx}{tg:Expr}
end
section
variable {X:Cx}{a b c:Expr}{ta tb tc:TE}{pos:Pos}
end
section
variable {X:Cx}{a b c:Expr}{ta tb tc:TE}{pos:Pos}
end
section
variable {prog:Program}{w:World}{A:Around}{E:Value->Shared->Prop}{s:Shared}{K:PySem.W.Frag}{x dx C f:Addr}{mA:Str->Option Value}{name:Str}{v:Value}
end
section
variable {P:Program}{w:World}{H H':Hp}{h h':Heap}{a C dx:Addr}{fs fs':List (Str×V)}
end
section
variable {X:Cx}{pins:List (Addr×Obj)}{Z:St}{H:Hp}{s:Shared}{a C dx:Addr}{fs:List (Str×V)}{f:Str}{v:V}{A:Around}{E:Value->Shared->Prop}
end
section
variable {X:Cx}{o e value:Expr}{f:Str}{pos pos' tpos:Pos}{ta tv:TE}
end
section
variable {X:Cx}{pins:List (Addr×Obj)}{Z:St}{H:Hp}{s:Shared}{A:Around}{E:Value->Shared->Prop}{Q:Value->Shared->Prop}{c:Value}{b:Bool}
end
section
variable {X:Cx}{e:Expr}{es:List Expr}{te:TE}{t:TA}{pos:Pos}
end
section
variable {X:Cx}{pins:List (Addr×Obj)}{Z:St}{H:Hp}{s s':Shared}
end
section
variable {X:Cx}{CX:CXT}{k:Nat}{f C:Addr}{fd:FuncData}{ps:List Str}{sp:Sp}{dvs:List V}{ds:List Value}{E:XK}{x m:Str}{p pos apos:Pos}{e o:Expr}{es:List Expr}{ta:TE}{t:TA}
end
section
variable {X:Cx}{CX:CXT}{k:Nat}{f C:Addr}{fd:FuncData}{ps ks:List Str}{sp:Sp}{E:XK}{x m:Str}{p pos apos kpos:Pos}{e o:Expr}{es:List Expr}{kws:List Keyword}{te ta:TE}{t tk:TA}{nm:Option Str}
variable {g:List Value->List Value->List Value}{gV:List V->List V->List V}
end
section
variable {X:Cx}{x:Str}{p pos:Pos}{e:Expr}{es:List Expr}{t:TA}{id T:String}{r:List V->Hp->VK->Prop}
end
section
variable {O:Type} [DecidableEq O]
def ylv (kvs:List (O×V)) (k:O):Option V:=(kvs.find? fun kv=>decide (kv.1=k)).map (·.2)
noncomputable def putK (kvs:List (O×V)) (k:O) (v:V):List (O×V) :=
 if (kvs.any fun kv=>decide (kv.1=k))=true then kvs.map (fun kv=>if kv.1=k then (kv.1,v) else kv) else kvs++[(k,v)]
def yjK {p:O×V}{r:List (O×V)}{k:O}(e:p.1=k):ylv (p::r) k=some p.2:=by simp [ylv,find?_cons,e]
def yjL {p:O×V}{r:List (O×V)}{k:O}(e:¬ p.1=k):ylv (p::r) k=ylv r k:=by simp [ylv,find?_cons,e]
theorem yof (k:O):∀ kvs:List (O×V),(kvs.any fun kv=>decide (kv.1=k))=(ylv kvs k).isSome
 | []=>rfl
 | p::r=>by
  rw [any_cons]
  by_cases e:p.1=k
  .simp only [yjK e,decide_eq_true e,Bool.true_or,Option.isSome_some]
  .rw [yjL e,decide_eq_false e,Bool.false_or];exact yof k r
def yfE (kvs:List (O×V)) (k:O) (v:V):(putK kvs k v).length<=kvs.length+1:=by
 unfold putK;split
 .rw [length_map];omega
 .rw [length_append,length_cons,length_nil];omega
def RelO.isSome_eq (r:RelO o u):o.isSome=u.isSome:=by
 cases o with
 | none=>cases u with
  | none=>rfl
  | some _=>exact (show False from r).elim
 | some _=>cases u with
  | none=>exact (show False from r).elim
  | some _=>rfl
def KV.val (r:KV kvs vs) (k:O):RelO (ylv kvs k) (valueAt vs k):=by
 unfold KV at r
 induction r with
 | nil=>exact True.intro
 | @cons p q ps qs h t ih =>
  obtain ⟨h1,h2⟩:=h
  by_cases e:p.1=k
  .have e':q.1=k:=h1.symm.trans e;have b:valueAt (q::qs) k=some q.2:=by simp [valueAt,find?_cons,e']
   rw [yjK e,b];exact h2
  .have e':¬ q.1=k:=fun z=>e (h1.trans z)
   have b:valueAt (q::qs) k=valueAt qs k:=by simp [valueAt,find?_cons,e']
   rw [yjL e,b];exact ih
theorem KV.any (r:KV kvs vs) (k:O):(kvs.any fun kv=>decide (kv.1=k))=vs.any fun kv=>decide (kv.1=k):=by
 unfold KV at r
 induction r with
 | nil=>rfl
 | cons h t ih=>rw [any_cons,any_cons,ih,h.1]
def KV.repl {kvs:List (O×V)}{vs:List (O×Value)}(r:KV kvs vs) (k:O) {y:V}{u:Value}(ry:RelV y u) :
  KV (kvs.map fun kv=>if kv.1=k then (kv.1,y) else kv) (vs.map fun kv=>if kv.1=k then (kv.1,u) else kv):=by
 unfold KV at r ⊢
 induction r with
 | nil=>exact .nil
 | @cons p q ps qs h t ih =>
  rw [map_cons,map_cons];refine .cons ?_ ih;obtain ⟨h1,h2⟩:=h
  by_cases e:p.1=k
  .rw [if_pos e,if_pos (h1.symm.trans e)];exact ⟨h1,ry⟩
  .rw [if_neg e,if_neg (fun z=>e (h1.trans z))];exact ⟨h1,h2⟩
def KV.put {kvs:List (O×V)}{vs:List (O×Value)}(r:KV kvs vs) (k:O) {y:V}{u:Value}(ry:RelV y u):KV (putK kvs k y) (stored vs k u):=by
 unfold putK stored;rw [r.any k]
 by_cases e:(vs.any fun kv=>decide (kv.1=k))=true
 .rw [if_pos e,if_pos e];exact r.repl k ry
 .rw [if_neg e,if_neg e];exact Paired.snoc r ⟨rfl,ry⟩
theorem KV.length {kvs:List (O×V)}{vs:List (O×Value)}(r:KV kvs vs):kvs.length=vs.length:=Paired.length r
end
def ytT (r:RelV (kV k) u):(ycD P w).is k u=true:=by
 cases k with
 | inl i=>obtain ⟨t,e⟩:=(show ∃ t,u=Value.int i t from r);subst e;exact ymu P w i t
 | inr x=>obtain ⟨t,e⟩:=(show ∃ t,u=Value.str x t from r);subst e;exact ymv P w x t
theorem ylw:∀ {ks:List Key}{us:List Value},Vals (ks.map kV) us->ItemsAre (ycD P w) ks us
 | [],_,r=>by rw [map_nil] at r;cases r;exact .nil
 | k::ks,_,r=>by
  rw [map_cons] at r;cases r with
  | cons h t=>exact .cons (ytT h) (ylw t)
abbrev KT (H:Hp):List (List Key×V)->List (List Key×Addr×Value)->Prop:=Paired fun p q=>p.1=q.1/\H q.2.1=some (.tup (p.1.map kV))/\RelV p.2 q.2.2
def KT.val (r:KT H kvs xs) (k:List Key):RelO (ylv kvs k) ((atKey xs k).map (·.2)):=by
 induction r with
 | nil=>exact True.intro
 | @cons p q ps qs h t ih =>
  obtain ⟨h1,_,h2⟩:=h
  by_cases e:p.1=k
  .have e':q.1=k:=h1.symm.trans e;have b:atKey (q::qs) k=some q.2:=by simp [atKey,find?_cons,e']
   rw [yjK e,b];exact h2
  .have e':¬ q.1=k:=fun z=>e (h1.trans z)
   have b:atKey (q::qs) k=atKey qs k:=by simp [atKey,find?_cons,e']
   rw [yjL e,b];exact ih
def KT.repl (r:KT H kvs xs) (k:List Key) (ry:RelV y u) :
  KT H (kvs.map fun kv=>if kv.1=k then (kv.1,y) else kv) (xs.map (putAt k u)):=by
 induction r with
 | nil=>exact .nil
 | @cons p q ps qs h t ih =>
  rw [map_cons,map_cons];refine .cons ?_ ih;obtain ⟨h1,h2,h3⟩:=h;unfold putAt
  by_cases e:p.1=k
  .rw [if_pos e,if_pos (h1.symm.trans e)];exact ⟨h1,h2,ry⟩
  .rw [if_neg e,if_neg (fun z=>e (h1.trans z))];exact ⟨h1,h2,h3⟩
def KT.put (r:KT H kvs xs) (k:List Key) (hb:H b=some (.tup (k.map kV))) (ry:RelV y u) :
  KT H (putK kvs k y) (storedH xs k b u):=by
 have e:(kvs.any fun kv=>decide (kv.1=k))=(atKey xs k).isSome:=by rw [yof,(r.val k).isSome_eq,isSome_map]
 unfold putK storedH;rw [e]
 by_cases q:(atKey xs k).isSome=true
 .rw [if_pos q,if_pos q];exact r.repl k ry
 .rw [if_neg q,if_neg q];exact Paired.snoc r ⟨rfl,hb,ry⟩
def KT.keeps (r:KT H kvs xs) (ht:∀ b ys,H b=some (.tup ys)->H' b=some (.tup ys)):KT H' kvs xs :=
 Paired.mapP r fun _ _ z=>⟨z.1,ht _ _ z.2.1,z.2.2⟩
section
variable {P:Program}{w:World}{H:Hp}{h:Heap}{a:Addr}
def yAK (ok:HOk P w H h) (e:Rd H a u):ObjOk P w H h a u:=e.ok ok
def ytU (ok:HOk P w H h) (e:Rd H a (.dK kvs)):kvs.length<=sizeLine/\(a == sysModules)=false/\∃ vs,KV kvs vs/\h.DictOf (ycD P w) a vs :=
 show ObjOk P w H h a (.dK kvs) from yAK ok e
def yxH (ok:HOk P w H h) (e:H a=some (.dK kvs)):kvs.length<=sizeLine/\(a == sysModules)=false/\∃ vs,KV kvs vs/\h.DictOf (ycD P w) a vs:=ytU ok (.inl e)
def yog {ks:List Key}(ok:HOk P w H h) (e:H a=some (.tup (ks.map kV))):(tupleKind (ycD P w)).is h ks a:=by
 obtain ⟨_,its,r,o,h1,h2,n,h3⟩:=(show ObjOk P w H h a (.tup (ks.map kV)) from ok a _ e)
 exact ⟨o,its.toArray,n,h1,h2,h3,by simpa using ylw r⟩
def ytV (ok:HOk P w H h) (e:Rd H a (.dT kvs)):kvs.length<=sizeLine/\(a == sysModules)=false /\
  ∃ xs,KT H kvs xs/\h.DictOfH (tupleKind (ycD P w)) a xs:=by
 obtain ⟨z,y,xs,r,o,es,ep,h1,h2,h3,h4,h5⟩:=(show ObjOk P w H h a (.dT kvs) from yAK ok e)
 refine ⟨z,y,xs,r,o,es,ep,h1,h2,h3,h4,fun x hx=>?_,h5⟩;have all:∀ {l:List (List Key×V)}{m:List (List Key×Addr×Value)},KT H l m->∀ x∈m,(tupleKind (ycD P w)).is h x.1 x.2.1:=by
  intro l m q
  induction q with
  | nil=>intro x hx;exact nomatch hx
  | @cons p q ps qs hq t ih =>
   intro x hx;rcases mem_cons.mp hx with e|hx
   .subst e;exact yog ok (by rw [<- hq.1];exact hq.2.1)
   .exact ih x hx
 exact all r x hx
def yDF (ok:HOk P w H h) (e:H a=some (.dT kvs)):kvs.length<=sizeLine/\(a == sysModules)=false /\
  ∃ xs,KT H kvs xs/\h.DictOfH (tupleKind (ycD P w)) a xs:=ytV ok (.inl e)
end
noncomputable def DGet (H:Hp) (a:Addr) (y:V) (r:Option V):Prop :=
 (∃ kvs k,Rd H a (.dK kvs)/\y=kV k/\r=ylv kvs k)\/∃ kvs k b,Rd H a (.dT kvs)/\y=.ref b/\H b=some (.tup (k.map kV))/\r=ylv kvs k
def DPut (H:Hp) (a:Addr) (y v:V) (H':Hp):Prop :=
 (∃ kvs k,H a=some (.dK kvs)/\y=kV k/\kvs.length<sizeLine/\H'=upd H a (.dK (putK kvs k v))) \/
 ∃ kvs k b,H a=some (.dT kvs)/\y=.ref b/\H b=some (.tup (k.map kV))/\kvs.length<sizeLine/\H'=upd H a (.dT (putK kvs k v))
def DPut.k {H:Hp}{a:Addr}{kvs:List (Key×V)}{k:Key}{v:V}(e:H a=some (.dK kvs)) (hl:kvs.length<sizeLine):DPut H a (kV k) v (upd H a (.dK (putK kvs k v))):=.inl ⟨kvs,k,e,rfl,hl,rfl⟩
section
variable {X:Cx}{pins:List (Addr×Obj)}{Z:St}{H:Hp}{s:Shared}{a:Addr}{y v:V}{u r:Value}{o:Option V}{A:Around}{E:Value->Shared->Prop}
def Inv.big (I:Inv X pins Z H s):sysModules<s.heap.objs.size:=by have h:mainGlobals<s.heap.objs.size:=(I.mod.glob.keeps I.bk).lt;exact Nat.lt_trans (by decide) h
def yrb {Q:Value->Shared->Prop}(hu:A.units+1<cLine) (I:Inv X pins Z H s) (g:DGet H a y (some v)) (ry:RelV y u) (h:∀ w' s',Inv X pins Z H s'->RelV v w'->Q w' s') :
  wpAny (model X.prog X.w) A (getItem (.ref a) u) Q E s:=by
 rcases g with ⟨kvs,k,e,ey,l⟩|⟨kvs,k,b,e,ey,eb,l⟩
 .subst ey;obtain ⟨z,hd,vs,rel,dd⟩:=ytU I.hok e;obtain ⟨w',hw,rw'⟩:=RelO.some_of (v:=v) (o:=valueAt vs k) (by rw [l];exact rel.val k);exact wpAny_getItem_of (ytT ry) dd.mapOf hw (h w' _ (I.tok _) rw')
 .subst ey;cases (show u=Value.ref b from ry);obtain ⟨z,hd,xs,rel,dd⟩:=ytV I.hok e;obtain ⟨w',hw,rw'⟩:=RelO.some_of (v:=v) (o:=(atKey xs k).map (·.2)) (by rw [l];exact rel.val k);obtain ⟨p,hp,hp2⟩:=Option.map_eq_some_iff.mp hw;refine wpAny_getItem_heap (tupleKind_room_in1 hu) (yog I.hok eb) dd hp ?_;rw [hp2];exact h w' _ (I.tok _) rw'
def yFt {Q:Value->Shared->Prop}(hu:A.units+1<cLine) (I:Inv X pins Z H s) (g:DGet H a y o) (ry:RelV y u) (h:∀ s',Inv X pins Z H s'->Q (.bool o.isSome) s') :
  wpAny (model X.prog X.w) A (compareOp .In u (.ref a)) Q E s:=by
 rcases g with ⟨kvs,k,e,ey,l⟩|⟨kvs,k,b,e,ey,eb,l⟩
 .subst ey;obtain ⟨z,hd,vs,rel,dd⟩:=ytU I.hok e;refine wpAny_in_of (ytT ry) hd dd.mapOf ?_;rw [<- (rel.val k).isSome_eq,<- l];exact h _ (I.tok _)
 .subst ey;cases (show u=Value.ref b from ry);obtain ⟨z,hd,xs,rel,dd⟩:=ytV I.hok e;refine wpAny_in_heap (tupleKind_room_in1 hu) (yog I.hok eb) hd dd ?_;have q:=(rel.val k).isSome_eq;rw [isSome_map] at q;rw [<- q,<- l];exact h _ (I.tok _)
def yng {ob:HO}(I:Inv X pins Z H s) (mu:Mut (H a)) (hs:Heap.SameBut a s.heap h') (he:∃ q,h'.get? a=some q) (new:ObjOk X.prog X.w (upd H a ob) h' a ob) :
  Inv X pins Z (upd H a ob) { s with heap:=h',toks:=t' } :=
 I.write (x:=a) (e:=a) mu (.inl rfl) (fun b q hb z=>(hs.2 b hb).trans z) he new
def yvR {h':Heap}{kvs:List (Key×V)}(z:kvs.length<=sizeLine) (hd:(a == sysModules)=false) (rel:KV kvs vs) (dd:h'.DictOf (ycD P w) a vs) :
  ObjOk P w H' h' a (.dK kvs):=⟨z,hd,vs,rel,dd⟩
def yrc {Q:Unit->Shared->Prop}(hu:A.units+1<cLine) (I:Inv X pins Z H s) (g:DPut H a y v H') (ry:RelV y u) (rv:RelV v r) (h:∀ s',Inv X pins Z H' s'->Q () s') :
  wpAny (model X.prog X.w) A (setItem (.ref a) u r) Q E s:=by
 rcases g with ⟨kvs,k,e,ey,l,eH⟩|⟨kvs,k,b,e,ey,eb,l,eH⟩
 .subst ey eH;obtain ⟨z,hd,vs,rel,dd⟩:=yxH I.hok e;have hz:vs.length<=sizeLine:=by rw [<- rel.length];exact z
  have hl:(putK kvs k v).length<=sizeLine:=by have:=yfE kvs k v;omega
  refine wpAny_setItem_pairs (hsz:=hz) (ytT ry) dd fun h' dd' hs=>h _ ?_
  have he:∃ q,h'.get? a=some q:=let ⟨q,_,_,hq,_⟩:=dd';⟨q,hq⟩
  exact yng I (by rw [e];exact True.intro) hs he (yvR hl hd (rel.put k rv) dd')
 .subst ey eH;cases (show u=Value.ref b from ry);obtain ⟨z,hd,xs,rel,dd⟩:=yDF I.hok e;have hz:xs.length<=sizeLine:=by rw [<- Paired.length rel];exact z
  have hl:(putK kvs k v).length<=sizeLine:=by have:=yfE kvs k v;omega
  refine wpAny_setItem_heap (hsz:=hz) (tupleKind_room_in1 hu) (yog I.hok eb) dd fun h' dd' hs=>h _ ?_
  obtain ⟨q,es,ep,hq,h2,h3,h4,_,h5⟩:=dd';refine yng I (by rw [e];exact True.intro) hs ⟨q,hq⟩ ⟨hl,hd,_,(rel.put k eb rv).keeps fun c ys ec=>?_,q,es,ep,hq,h2,h3,h4,h5⟩;rw [yK (yCw ec e (fun z=>nomatch z))];exact ec
end
section
variable {X:Cx}{pins:List (Addr×Obj)}{Z:St}{H:Hp}{s:Shared}{a:Addr}{kvs:List (Key×V)}{k:Key}{u:Value}{A:Around}{E:Value->Shared->Prop}
end
def yDG (i:Expr):Prop:=∀ ov iv,subscripted i false ov iv=operate [ov,iv] (getItem ov iv)
def yxI {prog:Program}{w:World}{A:Around}{E:Value->Shared->Prop}{s:Shared}{env:Env}{value slice:Expr}{pos:Pos}{T id:String}{Q:Value->Shared->Prop}
  (hl:typeLookup (.type T) "__getitem__" = pure (some (.builtin id))) (hs:yDG slice)
  (h:wpAny (model prog w) A (eval value env) (fun o s₁=>wpAny (model prog w) A (eval slice env) (fun i s₂=>s₂.TypeIs o T/\wpAny (model prog w) A (getItem o i) Q E s₂) E s₁) E s) :
  wpAny (model prog w) A (eval (.Subscript value slice pos) env) Q E s:=by
 refine Subscript_ (wpAny_mono h (fun o s₁ h₁=>wpAny_mono h₁ (fun i s₂ h₂=>?_) fun _ _ x=>x) fun _ _ x=>x);obtain ⟨hT,h₂⟩:=h₂;unfold subscriptTail;refine wpAny_bind ?_;rw [getitemInPython_of_ne hT.not_modules];refine wpAny_bind (wpAny_specialOf hT hl ?_);have fin:wpAny (model prog w) A (subscripted slice false o i) (fun r s₃=>wpAny (model prog w) A (letTemporaryGo value o r >>= fun _=>pure r) Q E s₃) E s₂:=by rw [hs o i];exact wpAny_operating (wpAny_mono h₂ (fun r s₃ h₃=>wpAny_bind (wpAny_letTemporaryGo (wpAny_pure h₃))) fun _ _ x=>x)
 first
  | exact wpAny_pure (wpAny_bind fin)
  | exact wpAny_bind (wpAny_pure (wpAny_bind fin))
  | exact wpAny_bind fin
def ynh {X:Cx}{pins:List (Addr×Obj)}{Z:St}{H:Hp}{s:Shared}{a:Addr}{y:V}{o:Option V}(I:Inv X pins Z H s) (g:DGet H a y o):s.TypeIs (.ref a) "dict":=by
 rcases g with ⟨kvs,k,e,_,_⟩|⟨kvs,k,b,e,_,_,_⟩
 .obtain ⟨_,_,vs,_,dd⟩:=ytU I.hok e;exact dd.typeIs
 .obtain ⟨_,_,xs,_,dd⟩:=ytV I.hok e;exact dd.typeIs
def yAL (td ty:TE):TE:=fun Z H Q=>td Z H fun x H1=>ty Z H1 fun y H2=>∃ a v,x=.ref a/\DGet H2 a y (some v)/\Q v H2
def yEP (ty td:TE):TE:=fun Z H Q=>ty Z H fun y H1=>td Z H1 fun x H2=>∃ a o,x=.ref a/\DGet H2 a y o/\Q (.bl o.isSome) H2
def yAM (td ty tv:TE):TS:=fun D Z H=>tv Z H fun v H1=>td Z H1 fun x H2=>ty Z H2 fun y H3=>∃ a H4,x=.ref a/\DPut H3 a y v H4/\D.nx Z H4
section
variable {X:Cx}{o i e value:Expr}{pos pos' tpos:Pos}{td ty tv:TE}
def yxJ (hu:X.A.units+1<cLine) (ho:PE X o td) (hi:PE X i ty) (hs:yDG i):PE X (.Subscript o i pos) (yAL td ty):=by intro pins s Z H Q I h;refine yxI PySem.F.slot_dict_getitem.lookup hs (thn (ho pins s Z H _ I h) fun u s1 ⟨x,H1,I1,rx,q1⟩=>thn (hi pins s1 Z H1 _ I1 q1) fun iv s2 ⟨y,H2,I2,ry,a,v,ex,g,q2⟩=>?_);subst ex;obtain rfl:u=Value.ref a:=rx;exact ⟨ynh I2 g,yrb hu I2 g ry fun w' s3 I3 rw'=>⟨v,H2,I3,rw',q2⟩⟩
def yAN (hu:X.A.units+1<cLine) (hi:PE X i ty) (ho:PE X o td):PC X .In i o (yEP ty td):=by
 intro pins s Z H Q I h;refine thn (hi pins s Z H _ I h) fun iv s1 ⟨y,H1,I1,ry,q1⟩=>thn (ho pins s1 Z H1 _ I1 q1) fun u s2 ⟨x,H2,I2,rx,a,ov,ex,g,q2⟩=>?_
 subst ex;obtain rfl:u=Value.ref a:=rx;exact yFt hu I2 g ry fun s3 I3=>⟨.bl ov.isSome,H2,I3,rfl,q2⟩
def yxK (hu:X.A.units+1<cLine) (ho:PE X o td) (hi:PE X i ty) (hv:PE X value tv) (hs:swapsWith value (some (.Subscript o i pos')) pos.line X.env=pure false) :
  PS X (.Assign [.Subscript o i pos'] value pos) (yAM td ty tv):=by
 intro pins s Z H D I h;refine wpAny_Assign_Subscript (thn (hv pins s Z H _ I h) fun r s1 ⟨v,H1,I1,rv,q1⟩=>thn (ho pins s1 Z H1 _ I1 q1) fun u s2 ⟨x,H2,I2,rx,q2⟩=>thn (hi pins s2 Z H2 _ I2 q2) fun iv s3 ⟨y,H3,I3,ry,a,H4,ex,g,q3⟩=>?_) hs;subst ex;obtain rfl:u=Value.ref a:=rx;exact yrc hu I3 g ry rv fun s4 I4=>⟨Z,H4,I4,q3⟩
end
def ytW (h:Heap) (hb:sysModules<h.objs.size):ObjOk P w H (h.push { cls:=.type "dict",data:=.dict #[] }) h.objs.size (.dK []) :=
 ⟨zero_le _,beq_eq_false_iff_ne.mpr (Ne.symm (ne_of_lt hb)),[],.nil,Heap.DictOf.new h⟩
def yvS:TE:=fun _ H Q=>∀ p,H p=none->Q (.ref p) (upd H p (.dK []))
section
variable {X:Cx}{pos:Pos}
def ytX:PE X (.Dict [] [] pos) yvS:=fun pins s Z H Q I h =>
 wpAny_Dict_empty ⟨.ref s.heap.objs.size,_,I.laid (a:=s.heap.objs.size) (o:=.dK []) (t':=s.toks) (fun _ _ q=>Heap.get?_push_of_some _ q) (Nat.le_refl _) (ytW s.heap I.big),rfl,h _ (I.hok.fresh (Nat.le_refl _))⟩
end
def yrd (kvs more:List (Key×V)):List (Key×V):=more.foldl (fun acc kv=>putK acc kv.1 kv.2) kvs
def KV.merge:∀ {more:List (Key×V)}{rs:List (Key×Value)}{kvs:List (Key×V)}{vs:List (Key×Value)},KV more rs->KV kvs vs->KV (yrd kvs more) (merged vs rs):=by
 intro more rs kvs vs r;unfold KV at r
 induction r generalizing kvs vs with
 | nil=>intro q;exact q
 | @cons p q ps qs h t ih =>
  intro r0;have e:KV (putK kvs p.1 p.2) (stored vs q.1 q.2):=by have:=r0.put p.1 h.2;rw [<- h.1];exact this
  exact ih e
theorem yfZ:∀ (more kvs:List (Key×V)),(yrd kvs more).length<=kvs.length+more.length
 | [],kvs=>by show kvs.length<=kvs.length+0;omega
 | p::r,kvs=>by have h1:=yfZ r (putK kvs p.1 p.2);have h2:=yfE kvs p.1 p.2;show (yrd (putK kvs p.1 p.2) r).length<=_;rw [length_cons];omega
structure M2 (X:Cx) (o:Expr) (m:Str) (apos:Pos) (e f:Expr) (cpos:Pos):Prop where
 base:attributeBase o m X.env (eval o X.env)=eval o X.env
 few:((backTo cpos (starEach [e,f] X.env)).all (fun x=>!x.1) && (backToKw cpos (keywordEach [] X.env)).all (fun x=>x.1.isSome)
  && decide (([e,f]:List Expr).length+([]:List Keyword).length+(if ([]:List Keyword).isEmpty then 0 else 1)<30))=true
 line:(apos.endLine == cpos.line)=true
 trees:backTo cpos (starEach [e,f] X.env)=[(false,eval e X.env),(false,eval f X.env)]
section
variable {X:Cx}{pins:List (Addr×Obj)}{Z:St}{H:Hp}{s:Shared}{a:Addr}{y d:V}{u r:Value}{o:Option V}{A:Around}{E:Value->Shared->Prop}
end
section
variable {X:Cx}{o e f:Expr}{apos cpos:Pos}{td ty tx:TE}
end
section
variable {X:Cx}{pins:List (Addr×Obj)}{Z:St}{H:Hp}{s:Shared}{a:Addr}{kvs:List (Key×V)}{A:Around}{E:Value->Shared->Prop}
end
section
variable {X:Cx}{pins:List (Addr×Obj)}{Z:St}{H:Hp}{s:Shared}{a:Addr}{y:V}{u:Value}{A:Around}{E:Value->Shared->Prop}
end
end L2
namespace Att
open PySem PySem.W PySem.Calls PyProof.Rows
section
variable {prog:Program}{w:World}{A:Around}{E:Value->Shared->Prop}{s:Shared}{K:Frag}
end
end Att
namespace L2
open PySem PySem.Spec PyProof.Rows
section
variable {P:Program}{w:World}{K:PySem.W.Frag}{mg:Str->Option Value}{base:Heap}
end
section
variable {X:Cx}
end
section
variable {O:Type} [DecidableEq O]
end
end L2
namespace PX
open PySem L2
variable {K:Ck}
def yiY {Z:Type}{l:List Z}(h:l.Nodup) (hi:i<l.length) (hj:j<l.length) (e:l[i]=l[j]):i=j:=by
 have p:=List.pairwise_iff_getElem.mp h;rcases Nat.lt_trichotomy i j with z|z|z
 .exact absurd e (p i j hi hj z)
 .exact z
 .exact absurd e.symm (p j i hj hi z)
def ymr (W:Wd) (n:Nat) (a:Addr) (o:HO) (d:Nd):Wd:=⟨W.F,upd W.H a o,W.m,W.h.set n d⟩
def yeM (w:WOk K W) (e:W.h[n]?=some d) (hm:W.m[n]?=some a) (hF:W.F a=none) (at':NdAt K W.F (upd W.H a o) W.m d' a) (nf:∀ ks xs,d≠.fz ks xs:=by intro _ _ z;cases z):Le K W (ymr W n a o d'):=by
 have hn:n<W.h.length:=(List.getElem?_eq_some_iff.mp e).1;have ham:a∈W.m:=mem_of_getElem? hm;refine ⟨⟨fun b u q=>?_,by show W.m.length=(W.h.set n d').length;rw [length_set];exact w.len,w.nd,fun j dj b e1 e2=>?_⟩,Same.refl _,prefix_refl _,fun b u q hb=>?_,fun b u _ _ f=>f,fun b z z'=>absurd z z',fun j ks xs e1=>?_⟩
 .have:b≠a:=ybu q hF;exact (yK this).trans (w.le _ _ q)
 .have e1:(W.h.set n d')[j]?=some dj:=e1
  by_cases hj:n=j
  .subst hj;rw [getElem?_set_self hn] at e1;cases e1;have e2:W.m[n]?=some b:=e2;rw [hm] at e2;cases e2;exact at'
  .rw [getElem?_set_ne hj] at e1;have e2:W.m[j]?=some b:=e2;have hb:b≠a:=fun z=>by
    subst z;have h1:=(List.getElem?_eq_some_iff.mp hm)
    have h2:=(List.getElem?_eq_some_iff.mp e2)
    obtain ⟨l1,q1⟩:=h1;obtain ⟨l2,q2⟩:=h2;exact hj (yiY w.nd l1 l2 (q1.trans q2.symm))
   exact (w.at_ j dj b e1 e2).mono (Same.refl _) (prefix_refl _) (fun u q=>(yK hb).trans q) id
 .have:b≠a:=fun z=>hb (z ▸ ham)
  exact (yK this).trans q
 .have hj:n≠j:=fun z=>by subst z;rw [e] at e1;cases e1;exact nf _ _ rfl
  refine ⟨(getElem?_set_ne hj).trans e1,fun b e2=>yK fun z=>?_⟩;subst z;obtain ⟨l1,q1⟩:=List.getElem?_eq_some_iff.mp hm;obtain ⟨l2,q2⟩:=List.getElem?_eq_some_iff.mp e2;exact hj (yiY w.nd l1 l2 (q1.trans q2.symm))
def yea:PV->AH->Bool:=fun x h=>match ybH x h with|some _=>true|none=>false
def yjM (w:WOk K W) (r:ycG K W x v) (c:yea x W.h=true):tyV K.K "list" v W.H:=by
 unfold yea at c;split at c
 .rename_i xs hx;obtain ⟨a,vs,rfl,hs,_⟩:=yX w hx r;exact .inl ⟨rfl,vs,SqL.of hs⟩
 .cases c
noncomputable def yeN:PM:=fun x ys h=>match x,ys with|.loc n,[y]=>(match h[n]? with|some (.lst xs)=>if xs.length<100000 then some (.non,h.set n (.lst (xs++[y]))) else none|_=>none)|_,_=>none
def yhC:yhA K "list" yea ymD yeN:=by
 refine ⟨fun W x v w r c=>yjM w r c,fun W x v xs vs Q z h' w rx r e q=>?_⟩;unfold yeN at e;split at e
 .rename_i n y;split at e
  .rename_i ys hn;split at e
   .rename_i hl;cases e;obtain ⟨u,rfl,ru⟩:=ync r;obtain ⟨a,ev,hm,hf,us,hp,rs⟩:=w.loc hn rx;refine ⟨a,us,u,ev,rfl,hp,by rw [rs.len];exact big hl,?_⟩;exact q .non (ymr W n a (.lst (us++[u])) (.lst (ys++[y]))) rfl (yeM w hn hm hf ⟨hf,_,yE,rs.snoc ru⟩) rfl
   .cases e
  .cases e
 .cases e
noncomputable def yhD:PM:=fun x ys h=>match x,ys with|.loc n,[]=>(match h[n]? with|some (.lst _)=>some (.non,h.set n (.lst []))|_=>none)|_,_=>none
def ytY:yhA K "list" yea yvD yhD:=by
 refine ⟨fun W x v w r c=>yjM w r c,fun W x v xs vs Q z h' w rx r e q=>?_⟩;unfold yhD at e;split at e
 .rename_i n;split at e
  .rename_i ys hn;cases e;obtain rfl:vs=[]:=r;obtain ⟨a,ev,hm,hf,us,hp,rs⟩:=w.loc hn rx;refine ⟨a,us,ev,rfl,hp,?_⟩;exact q .non (ymr W n a (.lst []) (.lst [])) rfl (yeM w hn hm hf ⟨hf,_,yE,rfl⟩) rfl
  .cases e
 .cases e
noncomputable def ygY:PM:=fun x ys h=>match x,ys with|.loc n,[]=>(match h[n]? with|some (.lst xs)=>(match xs[xs.length-1]? with|some y=>some (y,h.set n (.lst xs.dropLast))|none=>none)|_=>none)|_,_=>none
theorem RepL.dropLast (r:RepL K F m xs vs):RepL K F m xs.dropLast vs.dropLast:=by rw [List.dropLast_eq_take,List.dropLast_eq_take,r.len];exact r.take _
def yoh:yhA K "list" yea yEG ygY:=by
 refine ⟨fun W x v w r c=>yjM w r c,fun W x v xs vs Q z h' w rx r e q=>?_⟩;unfold ygY at e;split at e
 .rename_i n;split at e
  .rename_i ys hn;split at e
   .rename_i y hy;cases e;obtain rfl:vs=[]:=r;obtain ⟨a,ev,hm,hf,us,hp,rs⟩:=w.loc hn rx;obtain ⟨u,hu,ru⟩:=rs.get hy;refine ⟨a,us,u,ev,rfl,hp,by rw [rs.len];exact hu,?_⟩;exact q u (ymr W n a (.lst us.dropLast) (.lst ys.dropLast)) rfl (yeM w hn hm hf ⟨hf,_,yE,rs.dropLast⟩) ru
   .cases e
  .cases e
 .cases e
def ygZ (eo ei ev:XE):XS:=fun Y h=>ob (ev Y h) fun v h1=>ob (eo Y h1) fun o h2=>ob (ei Y h2) fun i h3=>match o,i with
 | .loc n,.int k=>(match h3[n]? with|some (.lst xs)=>(match ixN xs.length k with|some j=>some (.nx Y,h3.set n (.lst (xs.set j v)))|none=>none)|_=>none)
 | _,_=>none
def ytZ (a:ybR K to eo) (b:ybR K ti ei) (c:ybR K tv ev):yfb K (yvu tv (yEw to ti yzV)) (ygZ eo ei ev):=by
 intro W0 W Y Z D o h' g e q;obtain ⟨v,h1,e1,f1⟩:=yi e;obtain ⟨x,h2,e2,f2⟩:=yi f1;obtain ⟨i,h3,e3,f3⟩:=yi f2;refine c W0 W Y Z _ v h1 g e1 fun vv W1 w1 l1 r1=>?_
 subst w1;refine a W0 W1 Y Z _ x h2 (g.step l1) e2 fun vx W2 w2 l2 r2=>?_
 subst w2;refine b W0 W2 Y Z _ i h3 (g.step (l1.trans l2)) e3 fun vi W3 w3 l3 r3=>?_
 subst w3;have w:=l3.ok;split at f3
 .rename_i n k;split at f3
  .rename_i xs hn;split at f3
   .rename_i j hj;cases f3;obtain ⟨p,ep,hm,hf,us,hp,rs⟩:=w.loc hn (l3.rep r2);refine ⟨p,us,k,j,ep,r3,hp,by rw [rs.len];exact hj,?_⟩;have l4:Le K W3 (ymr W3 n p (.lst (us.set j vv)) (.lst (xs.set j v))):=yeM w hn hm hf ⟨hf,_,yE,rs.set j ((l2.trans l3).rep r1)⟩;have l:=l1.trans (l2.trans (l3.trans l4));exact q _ Z rfl l.lf (g.step l)
   .cases f3
  .cases f3
 .cases f3
def keyOf:PV->Option Key
 | .int i=>some (.inl i)
 | .str s=>some (.inr s)
 | _=>none
def yhE (e:keyOf x=some k) (r:ycG K W x v):v=kV k:=by cases x<;>cases e<;>exact r
noncomputable def ylx (x:PV) (h:AH):Option (List Key×List PV):=match x with|.loc n=>(match h[n]? with|some (.dct ks xs)=>some (ks,xs)|_=>none)|_=>none
def yjN:List Key->List PV->Key->Option PV
 | k::ks,x::xs,j=>if k=j then some x else yjN ks xs j
 | _,_,_=>none
def yre:List Key->Key->Bool
 | [],_=>false
 | k::ks,j=>if k=j then true else yre ks j
noncomputable def setK {Z:Type}:List Key->List Z->Key->Z->List Z
 | k::ks,x::xs,j,y=>if k=j then y::setK ks xs j y else x::setK ks xs j y
 | _,xs,_,_=>xs
def ycM (ks:List Key) (xs:List PV) (k:Key) (x:PV):List Key×List PV:=if yre ks k=true then (ks,setK ks xs k x) else (ks++[k],xs++[x])
theorem yjO {Z:Type}:∀ (ks:List Key) (xs:List Z) (j:Key) (y:Z),(setK ks xs j y).length=xs.length
 | [],_,_,_=>by simp [setK]
 | _::_,[],_,_=>by simp [setK]
 | k::ks,x::xs,j,y=>by show (if k=j then y::setK ks xs j y else x::setK ks xs j y).length=_;split<;>simp [yjO ks xs j y]
theorem RepL.setK:∀ {xs:List PV}{vs:List V}(ks:List Key) (j:Key) {y:PV}{u:V},RepL K F m xs vs->Rep K F m y u->RepL K F m (PX.setK ks xs j y) (PX.setK ks vs j u)
 | [],_,ks,j,y,u,h,_=>by rw [show _=[] from h];cases ks<;>exact rfl
 | x::xs,_,[],j,y,u,h,_=>by obtain ⟨v,r,e,h1,l⟩:=h;subst e;exact ⟨v,r,rfl,h1,l⟩
 | x::xs,_,k::ks,j,y,u,⟨v,r,e,h1,l⟩,ru=>by
  subst e;show RepL K F m (if k=j then y::PX.setK ks xs j y else x::PX.setK ks xs j y) (if k=j then u::PX.setK ks r j u else v::PX.setK ks r j u);have ih:=RepL.setK ks j l ru;split
  .exact ⟨u,_,rfl,ru,ih⟩
  .exact ⟨v,_,rfl,h1,ih⟩
theorem yjP:∀ {ks:List Key}{xs:List PV}{vs:List V}(j:Key),RepL K F m xs vs->vs.length=ks.length->(∀ x,yjN ks xs j=some x->∃ v,ylv (ks.zip vs) j=some v/\Rep K F m x v)/\(yjN ks xs j=none->ylv (ks.zip vs) j=none)
 | [],xs,vs,j,r,hl=>by refine ⟨fun x e=>?_,fun _=>rfl⟩;cases xs<;>cases e
 | k::ks,[],vs,j,r,hl=>by rw [show vs=[] from r] at hl;cases hl
 | k::ks,x::xs,_,j,⟨v,r',e,h,l⟩,hl=>by
  subst e;have ih:=yjP j l (by simpa using hl);have hz:ylv ((k::ks).zip (v::r')) j=if k=j then some v else ylv (ks.zip r') j:=by
   unfold ylv;rw [zip_cons_cons,find?_cons]
   by_cases hk:k=j
   .simp [hk]
   .simp [hk]
  rw [hz];show (∀ y,(if k=j then some x else yjN ks xs j)=some y->_)/\((if k=j then some x else yjN ks xs j)=none->_)
  by_cases hk:k=j
  .rw [if_pos hk,if_pos hk];exact ⟨fun y e=>by cases e;exact ⟨v,rfl,h⟩,fun e=>by cases e⟩
  .rw [if_neg hk,if_neg hk];exact ih
theorem yrf (j:Key):∀ (ks:List Key) (vs:List V),vs.length=ks.length->((ks.zip vs).any fun kv=>decide (kv.1=j))=yre ks j
 | [],_,_=>by simp [yre]
 | k::ks,[],h=>by cases h
 | k::ks,v::vs,h=>by
  rw [zip_cons_cons,any_cons,yrf j ks vs (by simpa using h)];show (decide (k=j) || yre ks j)=if k=j then true else yre ks j
  by_cases hk:k=j<;>simp [hk]
theorem yrg (j:Key) (y:V):∀ (ks:List Key) (vs:List V),vs.length=ks.length->(ks.zip vs).map (fun kv=>if kv.1=j then (kv.1,y) else kv)=ks.zip (setK ks vs j y)
 | [],_,_=>by simp
 | k::ks,[],h=>by cases h
 | k::ks,v::vs,h=>by
  rw [zip_cons_cons,map_cons,yrg j y ks vs (by simpa using h)];show (if k=j then (k,y) else (k,v))::_=(k::ks).zip (if k=j then y::setK ks vs j y else v::setK ks vs j y)
  by_cases hk:k=j
  .rw [if_pos hk,if_pos hk];rfl
  .rw [if_neg hk,if_neg hk];rfl
def yoi (j:Key) (y:V) (ks:List Key) (vs:List V) (hl:vs.length=ks.length):putK (ks.zip vs) j y=if yre ks j=true then ks.zip (setK ks vs j y) else (ks++[j]).zip (vs++[y]):=by unfold putK;rw [yrf j ks vs hl,yrg j y ks vs hl,List.zip_append hl.symm];rfl
def yly (w:WOk K W) (e:ylx x W.h=some (ks,xs)) (r:ycG K W x v):∃ a vs,v=.ref a/\W.H a=some (.dK (ks.zip vs))/\vs.length=ks.length/\ycE K W xs vs:=by
 unfold ylx at e;split at e
 .split at e
  .rename_i hn;cases e;obtain ⟨a,ev,hm,hf,vs,hp,hl,rs⟩:=w.loc hn r;exact ⟨a,vs,ev,hp,hl,rs⟩
  .cases e
 .cases e
noncomputable def yxL (x:PV) (h:AH):Option (List Key×List PV):=match x with|.loc n=>(match h[n]? with|some (.dct ks xs)=>some (ks,xs)|some (.fz ks xs)=>some (ks,xs)|_=>none)|_=>none
def yoj (w:WOk K W) (e:yxL x W.h=some (ks,xs)) (r:ycG K W x v):∃ a vs,v=.ref a/\Rd W.H a (.dK (ks.zip vs))/\vs.length=ks.length/\ycE K W xs vs:=by
 unfold yxL at e;split at e
 .split at e
  .rename_i hn;cases e;obtain ⟨a,ev,hm,hf,vs,hp,hl,rs⟩:=w.loc hn r;exact ⟨a,vs,ev,.inl hp,hl,rs⟩
  .rename_i hn;cases e;obtain ⟨a,ev,hm,hf,o,vs,hp,hl,rs⟩:=w.loc hn r;exact ⟨a,vs,ev,.inr ⟨o,hp⟩,hl,rs⟩
  .cases e
 .cases e
def DGet.r (e:Rd H a (.dK kvs)):DGet H a (kV k) (ylv kvs k):=.inl ⟨kvs,k,e,rfl,rfl⟩
def yhF (ed ek:XE):XE:=fun Y h=>ob (ed Y h) fun d h1=>ob (ek Y h1) fun k h2=>match yxL d h2,keyOf k with|some (ks,xs),some j=>(match yjN ks xs j with|some x=>some (x,h2)|none=>none)|_,_=>none
def yua (a:ybR K td ed) (b:ybR K ty ek):ybR K (yAL td ty) (yhF ed ek):=by
 intro W0 W Y Z Q z h' g e q;obtain ⟨d,h1,e1,f1⟩:=yi e;obtain ⟨k,h2,e2,f2⟩:=yi f1;refine a W0 W Y Z _ d h1 g e1 fun vd W1 w1 l1 r1=>?_
 subst w1;refine b W0 W1 Y Z _ k h2 (g.step l1) e2 fun vk W2 w2 l2 r2=>?_
 subst w2;split at f2
 .rename_i ks xs j hd hk;split at f2
  .rename_i x hx;cases f2;obtain ⟨p,vs,ev,hp,hl,rs⟩:=yoj l2.ok hd (l2.rep r1);obtain ⟨v,h3,h4⟩:=(yjP j rs hl).1 _ hx;have:=yhE hk r2;subst this;exact ⟨p,v,ev,by rw [<- h3];exact DGet.r hp,q _ W2 rfl (l1.trans l2) h4⟩
  .cases f2
 .cases f2
def yzj (neg:Bool) (ek ed:XE):XE:=fun Y h=>ob (ek Y h) fun k h1=>ob (ed Y h1) fun d h2=>match yxL d h2,keyOf k with|some (ks,xs),some j=>some (.bl (if neg then !(yjN ks xs j).isSome else (yjN ks xs j).isSome),h2)|_,_=>none
def ypo {ks:List Key}(j:Key) (r:RepL K F m xs vs) (hl:vs.length=ks.length):(ylv (ks.zip vs) j).isSome=(yjN ks xs j).isSome:=by
 have h:=yjP j r hl;cases e:yjN ks xs j with
 | none=>rw [h.2 e];rfl
 | some x=>obtain ⟨v,h1,_⟩:=h.1 x e;rw [h1];rfl
def yxM (b:ybR K ty ek) (a:ybR K td ed):ybR K (yEP ty td) (yzj false ek ed):=by
 intro W0 W Y Z Q z h' g e q;obtain ⟨k,h1,e1,f1⟩:=yi e;obtain ⟨d,h2,e2,f2⟩:=yi f1;refine b W0 W Y Z _ k h1 g e1 fun vk W1 w1 l1 r1=>?_
 subst w1;refine a W0 W1 Y Z _ d h2 (g.step l1) e2 fun vd W2 w2 l2 r2=>?_
 subst w2;split at f2
 .rename_i ks xs j hd hk;cases f2;obtain ⟨p,vs,ev,hp,hl,rs⟩:=yoj l2.ok hd r2;have:=yhE hk (l2.rep r1);subst this;exact ⟨p,_,ev,DGet.r hp,q _ W2 rfl (l1.trans l2) (by rw [ypo j rs hl];rfl)⟩
 .cases f2
def yjQ (ed ek ev:XE):XS:=fun Y h=>ob (ev Y h) fun v h1=>ob (ed Y h1) fun d h2=>ob (ek Y h2) fun k h3=>match d,keyOf k with
 | .loc n,some j=>(match h3[n]? with|some (.dct ks xs)=>if ks.length<1000 then some (.nx Y,h3.set n (.dct (ycM ks xs j v).1 (ycM ks xs j v).2)) else none|_=>none)
 | _,_=>none
def yub (a:ybR K td ed) (b:ybR K ty ek) (c:ybR K tv ev):yfb K (yAM td ty tv) (yjQ ed ek ev):=by
 intro W0 W Y Z D o h' g e q;obtain ⟨v,h1,e1,f1⟩:=yi e;obtain ⟨x,h2,e2,f2⟩:=yi f1;obtain ⟨i,h3,e3,f3⟩:=yi f2;refine c W0 W Y Z _ v h1 g e1 fun vv W1 w1 l1 r1=>?_
 subst w1;refine a W0 W1 Y Z _ x h2 (g.step l1) e2 fun vx W2 w2 l2 r2=>?_
 subst w2;refine b W0 W2 Y Z _ i h3 (g.step (l1.trans l2)) e3 fun vi W3 w3 l3 r3=>?_
 subst w3;have w:=l3.ok;split at f3
 .rename_i n j hk;split at f3
  .rename_i ks xs hn;split at f3
   .rename_i hc;cases f3;obtain ⟨p,ep,hm,hf,us,hp,hl,rs⟩:=w.loc hn (l3.rep r2);have:=yhE hk r3;subst this;have hput:=yoi j vv ks us hl;have rv:=(l2.trans l3).rep r1;have key:∃ us',putK (ks.zip us) j vv=(ycM ks xs j v).1.zip us'/\us'.length=(ycM ks xs j v).1.length/\ycE K W3 (ycM ks xs j v).2 us':=by
     unfold ycM
     by_cases hj:yre ks j=true
     .rw [if_pos hj] at hput ⊢;exact ⟨_,hput,by rw [yjO];exact hl,rs.setK ks j rv⟩
     .rw [if_neg hj] at hput ⊢;exact ⟨_,hput,by rw [length_append,length_append,hl];rfl,rs.snoc rv⟩
    obtain ⟨us',p1,p2,p3⟩:=key;refine ⟨p,_,ep,DPut.k hp (by rw [length_zip,hl];exact yhy (by omega)),?_⟩;rw [p1];have l4:Le K W3 (ymr W3 n p (.dK ((ycM ks xs j v).1.zip us')) (.dct (ycM ks xs j v).1 (ycM ks xs j v).2)):=yeM w hn hm hf ⟨hf,us',yE,p2,p3⟩;have l:=l1.trans (l2.trans (l3.trans l4));exact q _ Z rfl l.lf (g.step l)
   .cases f3
  .cases f3
 .cases f3
def ypp:XO:=fun _ h=>some (.dct [] [],h)
def yuc:ymn K yvS ypp:=by intro W0 W Y Z Q d h' g e q;cases e;intro p hp;exact q p (ygv W p (.dK [])) rfl (ycL g.ok hp) (g.ok.out hp) hp (fun z=>by cases z) ⟨g.ok.ff hp,[],yE,rfl,rfl⟩
end PX
namespace PX
open PySem L2
variable {K:Ck}
def itemsOf (x:PV) (h:AH):Option (List PV):=match x with|.tup xs=>some xs|_=>listOf x h
def yni (w:WOk K W) (e:itemsOf x W.h=some xs) (r:ycG K W x v):∃ a vs,v=.ref a/\(SqL K.K W.H a vs\/SqT K.K W.H a vs)/\ycE K W xs vs:=by
 unfold itemsOf at e;split at e
 .cases e;obtain ⟨a,vs,ev,hs,rs⟩:=r;exact ⟨a,vs,ev,.inr (ydq w hs),rs⟩
 .obtain ⟨a,vs,ev,hs,rs⟩:=ygx w e r;exact ⟨a,vs,ev,.inl hs,rs⟩
def svs:List PV->Option (List V)
 | []=>some []
 | x::xs=>match sv x,svs xs with|some v,some vs=>some (v::vs)|_,_=>none
theorem yrh:∀ {xs:List PV}{us vs:List V},svs xs=some us->RepL K F m xs vs->vs=us/\us.all yfV=true
 | [],_,_,e,r=>by cases e;exact ⟨r,rfl⟩
 | x::xs,us,_,e,⟨v,r,ev,h,l⟩=>by
  unfold svs at e;split at e
  .rename_i u us' e1 e2;cases e;obtain ⟨h1,h2⟩:=yrh e2 l;have hv:v=u:=by cases x<;>cases e1<;>exact h
   have hf:yfV u=true:=by cases x<;>cases e1<;>rfl
   exact ⟨by rw [ev,hv,h1],by rw [List.all_cons,hf,h2];rfl⟩
  .cases e
def yjR (e:sv x=some u):yfV u=true:=by cases x<;>cases e<;>rfl
def yDH (neg:Bool):P2:=fun x y h=>match sv x,itemsOf y h with|some v,some ys=>(match svs ys with|some us=>some (.bl (if neg then !inV v us else inV v us),h)|none=>none)|_,_=>none
def yDI:ycj K (rIn K.K neg) (yDH neg):=by
 intro W x y v u Q z h' w rx ry e q;unfold yDH at e;split at e
 .rename_i v' ys ev ey;split at e
  .rename_i us hu;cases e;obtain rfl:=yfq ev rx;obtain ⟨a,vs,rfl,hs,rs⟩:=yni w ey ry;obtain ⟨rfl,hf⟩:=yrh hu rs;exact ⟨a,vs,rfl,hs,yjR ev,hf,q _ W rfl (.refl w) rfl⟩
  .cases e
 .cases e
end PX
namespace PX
open PySem L2
def yDJ [i:Decidable True]:decide True=true:=by simp
def yDK [i:Decidable False]:decide False=false:=by simp
def yDL:(false=true)=False:=by simp
def yDM:(true=false)=False:=by simp
def yud (I:Nat->PSt->AH->Prop) (R:PV->AH->Prop) (h0:I 0 Y h)
  (step:∀ (i:Nat) (x:PV) (Y:PSt) (h:AH),xs[i]?=some x->I i Y h->∃ Y1 o h',g x Y=some Y1/\s Y1 h=some (o,h')/\(match o with|.nx Y'=>I (i+1) Y' h'|.ct Y'=>I (i+1) Y' h'|.bk _=>False|.rt y=>R y h')) :
  (∃ Y' h',yeL g s xs Y h=some (.nx Y',h')/\I xs.length Y' h')\/∃ y h',yeL g s xs Y h=some (.rt y,h')/\R y h':=by
 have key:∀ (n i:Nat) (Y:PSt) (h:AH),i+n=xs.length->I i Y h->(∃ Y' h',yeL g s (xs.drop i) Y h=some (.nx Y',h')/\I xs.length Y' h')\/∃ y h',yeL g s (xs.drop i) Y h=some (.rt y,h')/\R y h':=by
  intro n
  induction n with
  | zero =>
   intro i Y h hi hI;have:i=xs.length:=by omega
   subst this;rw [List.drop_length];exact .inl ⟨Y,h,rfl,hI⟩
  | succ n ih =>
   intro i Y h hi hI;have hlt:i<xs.length:=by omega
   obtain ⟨Y1,o,h',e1,e2,e3⟩:=step i xs[i] Y h (List.getElem?_eq_getElem hlt) hI;rw [List.drop_eq_getElem_cons hlt,yvQ,e1,bind_some,e2,ybw];cases o with
   | nx Y'=>exact ih (i+1) Y' h' (by omega) e3
   | ct Y'=>exact ih (i+1) Y' h' (by omega) e3
   | bk Y'=>exact e3.elim
   | rt y=>exact .inr ⟨y,h',rfl,e3⟩
 simpa using key xs.length 0 Y h (by omega) h0
def yxN (I:Nat->PSt->AH->Prop) (h0:I 0 Y h)
  (step:∀ (i:Nat) (x:PV) (Y:PSt) (h:AH),xs[i]?=some x->I i Y h->∃ Y1 Y' h',g x Y=some Y1/\(s Y1 h=some (.nx Y',h')\/s Y1 h=some (.ct Y',h'))/\I (i+1) Y' h') :
  ∃ Y' h',yeL g s xs Y h=some (.nx Y',h')/\I xs.length Y' h':=by
 rcases yud I (fun _ _=>False) h0 (fun i x Y h hx hI=>by
  obtain ⟨Y1,Y',h',e1,e2,e3⟩:=step i x Y h hx hI;rcases e2 with e2|e2
  .exact ⟨Y1,.nx Y',h',e1,e2,e3⟩
  .exact ⟨Y1,.ct Y',h',e1,e2,e3⟩) with q|⟨_,_,_,q⟩
 .exact q
 .exact q.elim
def ylz {B:Type}{g:XG}{s:XS}{xs:List PV}(I:Nat->PSt->AH->Prop) {Y:PSt}{h:AH}{f:Out->AH->Option B}{r:Option B}(h0:I 0 Y h)
  (step:∀ (i:Nat) (x:PV) (Y:PSt) (h:AH),xs[i]?=some x->I i Y h->∃ Y1 Y' h',g x Y=some Y1/\(s Y1 h=some (.nx Y',h')\/s Y1 h=some (.ct Y',h'))/\I (i+1) Y' h')
  (fin:∀ Y' h',I xs.length Y' h'->f (.nx Y') h'=r):ob (yeL g s xs Y h) f=r:=by
 obtain ⟨Y',h',e,hI⟩:=yxN I h0 step;rw [e];exact fin Y' h' hI
def yok:whl c s (n+1) Y h=ob (c Y h) fun k h1=>if k=true then ob (s Y h1) fun o h2=>(match o with|.nx Y'=>whl c s n Y' h2|.ct Y'=>whl c s n Y' h2|.bk Y'=>some (.nx Y',h2)|.rt y=>some (.rt y,h2)) else some (.nx Y,h1):=rfl
def yol (e:a Y h=some ([.int j],h1)) (h0:-1000000000<=j) (h2:j<=1000000000):yis a Y h=some (ygW 0 j.toNat,h1):=by unfold yis;rw [e,ybw];show (if _ then _ else _)=_;rw [if_pos ⟨h0,h2⟩]
theorem yfF {Z:Type}(f g:Z->PV):∀ {ts:List Z}{h:AH},(∀ t∈ts,e (inn (f t)) h=some (g t,h))->yiS e inn (ts.map f) h=some (ts.map g,h)
 | [],_,_=>rfl
 | t::ts,h,k=>by show ob (e (inn (f t)) h) (fun y h1=>ob (yiS e inn (ts.map f) h1) fun ys h2=>some (y::ys,h2))=_;rw [k t mem_cons_self,ybw,yfF f g fun y hy=>k y (mem_cons_of_mem _ hy),ybw];rfl
def yom (hx:Y[i]?=some (.own (.lst xs))):yfi i e Y h=ob (e Y h) fun x h1=>if xs.length<100000 then some (.nx (Y.set i (.own (.lst (xs++[x])))),h1) else none:=by unfold yfi;rw [hx]
def yEQ {Z:Type}{a0:Z}{xs:List Z}:atI (a0::xs) 0=some a0:=ydp (j:=0) rfl
def yFu {Z:Type}{a0 a1:Z}{xs:List Z}:atI (a0::a1::xs) 1=some a1:=ydp (j:=1) rfl
def yeo (e:h[n]?=some (.lst xs)):yM [.loc n] h=some (.lst xs,h):=by unfold yM listOf;simp only [e]
def ycW (e:h[n]?=some (.lst xs)):ybU [.loc n] h=some (.int xs.length,h):=by unfold ybU yqR;simp only [e]
def yri (e:h[n]?=some (.lst xs)):yhD (.loc n) [] h=some (.non,h.set n (.lst [])):=by unfold yhD;simp only [e]
def ynj (e:h[n]?=some (.lst xs)) (hl:xs.length<100000):yeN (.loc n) [y] h=some (.non,h.set n (.lst (xs++[y]))):=by unfold yeN;simp only [e];rw [if_pos hl]
def ycN (e:h[n]?=some (.lst xs)):yea (.loc n) h=true:=by unfold yea ybH;simp only [e]
variable {K:Ck}
section
variable {ta:TE}{ea:XE}
def ynk (i:Nat) (e:XE):XS:=fun Y h=>match Y[i]? with
 | some (.own (.lst xs))=>ob (e Y h) fun x h1=>(match x with|.lst ys=>if xs.length+ys.length<=100000 then some (.nx (Y.set i (.own (.lst (xs++ys)))),h1) else none|_=>none)
 | _=>none
def yue (i:Nat) (a:ybR K ta ea):yfb K (ypX (tBM K.K "list" yqt (ypN i) (ymz ta ytd))) (ynk i ea):=by
 intro W0 W Y Z D o h' g e q;unfold ynk at e;split at e
 .rename_i xs0 hx;obtain ⟨x,h1,e1,f1⟩:=yi e;split at f1
  .rename_i ys;split at f1
   .rename_i hlen;cases f1;obtain ⟨p,a1,a2,a3,a4,hf,vs,hp,r⟩:=g.own i _ hx;refine ⟨.ref p,a1,.inl ⟨rfl,_,SqL.of hp⟩,?_⟩;refine a W0 W Y Z _ _ _ g e1 fun v W1 w1 l1 r1=>?_
    obtain ⟨b,us,rfl,hb,rb⟩:=r1;refine ⟨p,b,vs,us,rfl,rfl,l1.keep _ _ hp a2,l1.ok.le _ _ hb,by rw [r.len,rb.len];exact yxq hlen,?_⟩;have g1:=g.step l1;obtain ⟨p',b1,b2,b3,b4,b5,vs',b6,b7⟩:=g1.own i _ hx;rw [a1] at b1;cases b1;rw [l1.keep _ _ hp a2] at b6;cases b6;exact q (ysL W1 p (.lst (vs++us))) Z w1 (yqJ l1 b2) (g1.mut hx a1 b2 b3 b5 (fun z=>by cases z) ⟨b5,_,yE,b7.app rb⟩)
   .cases f1
  .cases f1
 .cases e
def ypq (i:Nat):XE:=fun Y h=>match Y[i]? with|some (.own (.lst xs))=>some (.int xs.length,h)|_=>none
def yuf (i:Nat):ybR K (tCB (yzW K.K) (ymz (ypN i) ytd)) (ypq i):=by
 intro W0 W Y Z Q x h' g e q;unfold ypq at e;split at e
 .rename_i xs hx;cases e;obtain ⟨p,a1,a2,a3,a4,hf,vs,hp,r⟩:=g.own i _ hx;refine ⟨.ref p,a1,p,vs,rfl,.inl (SqL.of hp),?_⟩;rw [r.len];exact q _ W rfl (.refl g.ok) rfl
 .cases e
end
end PX
namespace PX
open PySem L2
variable {K:Ck}
end PX
namespace PX
open PySem L2
variable {K:Ck}
def Odd (K:PySem.W.Frag) (H:Hp):Prop:=∃ a o ob,H a=some o/\K.lookup a=some ob
inductive EqR (K:PySem.W.Frag) (H:Hp):Nat->V->V->Bool->Prop where
 | flat {n:Nat}{x y:V}(fx:yfV x=true) (fy:yfV y=true):EqR K H n x y (eqV x y)
 | same {n:Nat}{a:Addr}:EqR K H n (.ref a) (.ref a) true
 | odd {n:Nat}{x y:V}{b:Bool}(h:Odd K H):EqR K H n x y b
 | nt {n:Nat}{b:Addr}{ys:List V}(hb:SqT K H b ys):EqR K H (n+1) .non (.ref b) false
 | tn {n:Nat}{b:Addr}{ys:List V}(hb:SqT K H b ys):EqR K H (n+1) (.ref b) .non false
 | lst {n:Nat}{a b:Addr}{xs ys:List V}{e:Nat->Bool}(ha:H a=some (.lst xs)) (hb:H b=some (.lst ys)) (hl:xs.length=ys.length) (hne:a≠b) (he:∀ j x y,xs[j]?=some x->ys[j]?=some y->EqR K H n x y (e j)):EqR K H (n+1) (.ref a) (.ref b) ((List.range xs.length).all e)
 | lstN {n:Nat}{a b:Addr}{xs ys:List V}(ha:H a=some (.lst xs)) (hb:H b=some (.lst ys)) (hl:xs.length≠ys.length):EqR K H (n+1) (.ref a) (.ref b) false
 | tup {n:Nat}{a b:Addr}{xs ys:List V}{e:Nat->Bool}(ha:SqT K H a xs) (hb:SqT K H b ys) (hne:a≠b) (he:∀ j x y,xs[j]?=some x->ys[j]?=some y->EqR K H n x y (e j)):EqR K H (n+1) (.ref a) (.ref b) ((List.range (min xs.length ys.length)).all e && xs.length == ys.length)
inductive RcR (K:PySem.W.Frag) (H:Hp):V->V->Bool->Prop where
 | nt {b:Addr}{ys:List V}(hb:SqT K H b ys):RcR K H .non (.ref b) false
 | tn {b:Addr}{ys:List V}(hb:SqT K H b ys):RcR K H (.ref b) .non false
 | lst {a b:Addr}{xs ys:List V}{e:Nat->Bool}(ha:H a=some (.lst xs)) (hb:H b=some (.lst ys)) (hl:xs.length=ys.length) (he:∀ j x y,xs[j]?=some x->ys[j]?=some y->EqR K H 40 x y (e j)):RcR K H (.ref a) (.ref b) ((List.range xs.length).all e)
 | lstN {a b:Addr}{xs ys:List V}(ha:H a=some (.lst xs)) (hb:H b=some (.lst ys)) (hl:xs.length≠ys.length):RcR K H (.ref a) (.ref b) false
 | tup {a b:Addr}{xs ys:List V}{e:Nat->Bool}(ha:SqT K H a xs) (hb:SqT K H b ys) (he:∀ j x y,xs[j]?=some x->ys[j]?=some y->EqR K H 40 x y (e j)):RcR K H (.ref a) (.ref b) ((List.range (min xs.length ys.length)).all e && xs.length == ys.length)
def yER (K:PySem.W.Frag):R2:=fun x y H Q=>∃ b,RcR K H x y b/\Q (.bl b) H
def yES (K:PySem.W.Frag):R2:=fun x y H Q=>∃ b,RcR K H x y b/\Q (.bl (!b)) H
noncomputable def ygs (f:PV->PV->Option Bool):List PV->List PV->Option Bool
 | x::xs,y::ys=>(match f x y,ygs f xs ys with|some b,some c=>some (b && c)|_,_=>none)
 | _,_=>some true
def pairE (f:PV->PV->Option Bool) (h:AH) (x y:PV):Option Bool:=match x,y with
 | .tup xs,.tup ys=>(match ygs f xs ys with|some b=>some (b && xs.length == ys.length)|none=>none)
 | .non,.tup _=>some false
 | .tup _,.non=>some false
 | x,y=>(match ybH x h,ybH y h with|some xs,some ys=>if xs.length=ys.length then ygs f xs ys else some false|_,_=>none)
def eqP:Nat->AH->PV->PV->Option Bool
 | 0,_,_,_=>none
 | n+1,h,x,y=>match sv x,sv y with
  | some u,some v=>some (eqV u v)
  | _,_=>pairE (eqP n h) h x y
def yjS:∀ {v:V},yfV v=true->eqV v v=true
 | .non,_=>rfl
 | .bl b,_=>by cases b<;>rfl
 | .int i,_=>by simp [eqV]
 | .str s,_=>by simp [eqV]
noncomputable def unV:Value->Option V
 | .none=>some .non
 | .bool b=>some (.bl b)
 | .int i _=>some (.int i)
 | .str x _=>some (.str x)
 | .bytes b _=>some (.byt b)
 | .float b _=>some (.flt b)
 | .ref a=>some (.ref a)
 | .type n=>some (.ty n)
 | _=>none
def yvT:∀ {v:V}{u:Value},RelV v u->unV u=some v
 | .non,_,h=>by rw [show _=Value.none from h];rfl
 | .bl _,_,h=>by rw [show _=Value.bool _ from h];rfl
 | .int _,_,⟨_,h⟩=>by rw [h];rfl
 | .str _,_,⟨_,h⟩=>by rw [h];rfl
 | .byt _,_,⟨_,h⟩=>by rw [h];rfl
 | .flt _,_,⟨_,h⟩=>by rw [h];rfl
 | .ref _,_,h=>by rw [show _=Value.ref _ from h];rfl
 | .ty _,_,h=>by rw [show _=Value.type _ from h];rfl
def yxO (h1:RelV v u) (h2:RelV w u):v=w:=Option.some.inj ((yvT h1).symm.trans (yvT h2))
def yug (h1:Vals vs us):Vals ws us->vs=ws:=by
 induction h1 generalizing ws with
 | nil=>intro h2;cases h2;rfl
 | cons r _ ih=>intro h2;cases h2 with|cons r2 t2=>rw [yxO r r2,ih t2]
def yAO (s:Same F H) (h1:TpAt K.K F a vs) (h2:TpAt K.K F a ws):vs=ws\/Odd K.K H:=by
 rcases h1 with h1|⟨o,its,n,e1,e2,e3,e4,e5⟩
 .rcases h2 with h2|⟨o,its,n,e1,e2,e3,e4,e5⟩
  .rw [h1] at h2;cases h2;exact .inl rfl
  .exact .inr ⟨a,_,o,s _ _ h1,e1⟩
 .rcases h2 with h2|⟨o',its',n',e1',e2',e3',e4',e5'⟩
  .exact .inr ⟨a,_,o,s _ _ h2,e1⟩
  .rw [e1] at e1';cases e1';rw [e3] at e3';cases e3';exact .inl (yug e5 e5')
theorem yhG (hf:∀ x y v b,f x y=some b->ycG K W x v->ycG K W y v->b=true\/Odd K.K W.H):∀ {xs ys:List PV}{vs:List V}{c:Bool},ycE K W xs vs->ycE K W ys vs->ygs f xs ys=some c->c=true\/Odd K.K W.H
 | [],_,_,_,_,_,e=>by simp [ygs] at e;exact .inl e
 | _::_,[],_,_,_,_,e=>by simp [ygs] at e;exact .inl e
 | x::xs,y::ys,_,c,⟨v,r,e1,h1,l1⟩,⟨u,q,e2,h2,l2⟩,e=>by
  rw [e1] at e2;cases e2;unfold ygs at e;cases eb:f x y with
  | none=>rw [eb] at e;cases e
  | some b =>
   cases ec:ygs f xs ys with
   | none=>rw [eb,ec] at e;cases e
   | some c' =>
    rw [eb,ec] at e;cases e;rcases hf x y _ b eb h1 h2 with z|z
    .rcases yhG hf l1 l2 ec with z'|z'
     .exact .inl (by rw [z,z'];rfl)
     .exact .inr z'
    .exact .inr z
def ypr (w:WOk K W) (hf:∀ x y v b,f x y=some b->ycG K W x v->ycG K W y v->b=true\/Odd K.K W.H) (e:pairE f W.h x y=some b) (rx:ycG K W x v) (ry:ycG K W y v):b=true\/Odd K.K W.H:=by
 unfold pairE at e;split at e
 .rename_i xs ys;obtain ⟨a,vs,ev,ha,ra⟩:=rx;obtain ⟨a',vs',ev',ha',ra'⟩:=ry;rw [ev] at ev';cases ev';rcases yAO w.le ha ha' with z|z
  .subst z;cases ec:ygs f xs ys with
   | none=>rw [ec] at e;cases e
   | some c =>
    rw [ec] at e;cases e;rcases yhG hf ra ra' ec with z|z
    .left;rw [z,<- ra.len,<- ra'.len];simp
    .exact .inr z
  .exact .inr z
 .obtain ⟨a',vs',ev',ha',ra'⟩:=ry;have rx:v=.non:=rx;rw [rx] at ev';cases ev'
 .obtain ⟨a',vs',ev',ha',ra'⟩:=rx;have ry:v=.non:=ry;rw [ry] at ev';cases ev'
 .split at e
  .rename_i xs ys hx hy;obtain ⟨a,vs,ev,ha,ra⟩:=yX w hx rx;obtain ⟨a',vs',ev',ha',ra'⟩:=yX w hy ry;rw [ev] at ev';cases ev';rw [ha] at ha';cases ha';rw [if_pos (by rw [<- ra.len,<- ra'.len])] at e;exact yhG hf ra ra' e
  .cases e
theorem yjT (w:WOk K W):∀ (n:Nat) (x y:PV) (v:V) (b:Bool),eqP n W.h x y=some b->ycG K W x v->ycG K W y v->b=true\/Odd K.K W.H
 | 0,_,_,_,_,e,_,_=>by cases e
 | n+1,x,y,v,b,e,rx,ry=>by
  unfold eqP at e;split at e
  .rename_i u u' hu hu';cases e;rw [<- yfq hu rx,<- yfq hu' ry];exact .inl (yjS (by rw [yfq hu rx];exact yjR hu))
  .exact ypr w (yjT w n) e rx ry
theorem yhH (hf:∀ x y v u b,f x y=some b->ycG K W x v->ycG K W y u->EqR K.K W.H n v u b):∀ {xs ys:List PV}{vs us:List V}{c:Bool},ycE K W xs vs->ycE K W ys us->ygs f xs ys=some c ->
  ∃ e:Nat->Bool,(∀ j v u,vs[j]?=some v->us[j]?=some u->EqR K.K W.H n v u (e j))/\c=(List.range (min vs.length us.length)).all e
 | [],_,_,_,c,h1,_,e=>by rw [show _=[] from h1];simp [ygs] at e;exact ⟨fun _=>true,fun j v u hv=>by simp at hv,by simp [e]⟩
 | _::_,[],_,_,c,_,h2,e=>by rw [show _=[] from h2];simp [ygs] at e;exact ⟨fun _=>true,fun j v u _ hu=>by simp at hu,by simp [e]⟩
 | x::xs,y::ys,_,_,c,⟨v,r,e1,h1,l1⟩,⟨u,q,e2,h2,l2⟩,e=>by
  subst e1 e2;unfold ygs at e;cases eb:f x y with
  | none=>rw [eb] at e;cases e
  | some b =>
   cases ec:ygs f xs ys with
   | none=>rw [eb,ec] at e;cases e
   | some c' =>
    rw [eb,ec] at e;cases e;obtain ⟨e',k1,k2⟩:=yhH hf l1 l2 ec;refine ⟨fun j=>match j with|0=>b|j+1=>e' j,fun j v' u' hv hu=>?_,?_⟩
    .cases j with
     | zero =>
      simp at hv hu;subst hv hu;exact hf x y _ _ b eb h1 h2
     | succ j=>exact k1 j v' u' (by simpa using hv) (by simpa using hu)
    .rw [k2,length_cons,length_cons,show min (r.length+1) (q.length+1)=min r.length q.length+1 by omega,List.range_succ_eq_map,List.all_cons,List.all_map];rfl
theorem yon (w:WOk K W):∀ (n:Nat) (x y:PV) (v u:V) (b:Bool),eqP n W.h x y=some b->ycG K W x v->ycG K W y u->EqR K.K W.H n v u b
 | 0,_,_,_,_,_,e,_,_=>by cases e
 | n+1,x,y,v,u,b,e,rx,ry=>by
  have e0:=e;unfold eqP at e;split at e
  .rename_i v' u' hv hu;cases e;rw [yfq hv rx,yfq hu ry];exact .flat (yjR hv) (yjR hu)
  .unfold pairE at e;split at e
   .rename_i xs ys _;obtain ⟨a,vs,ev,ha,ra⟩:=rx;obtain ⟨a',us,eu,ha',ra'⟩:=ry
    by_cases hab:a=a'
    .subst hab;rcases yjT w (n+1) _ _ v b e0 ⟨a,vs,ev,ha,ra⟩ (by rw [ev,<- eu];exact ⟨a,us,eu,ha',ra'⟩) with this|z
     .rw [this,ev,eu];exact .same
     .exact .odd z
    .cases ec:ygs (eqP n W.h) xs ys with
     | none=>rw [ec] at e;cases e
     | some c =>
      rw [ec] at e;cases e;obtain ⟨e',k1,k2⟩:=yhH (yon w n) ra ra' ec;rw [ev,eu,k2,<- ra.len,<- ra'.len];exact .tup (ydq w ha) (ydq w ha') hab k1
   .obtain ⟨a',us,eu,ha',ra'⟩:=ry;cases e;rw [show v=.non from rx,eu];exact .nt (ydq w ha')
   .obtain ⟨a',us,eu,ha',ra'⟩:=rx;cases e;rw [show u=.non from ry,eu];exact .tn (ydq w ha')
   .split at e
    .rename_i xs ys hx hy;obtain ⟨a,vs,ev,ha,ra⟩:=yX w hx rx;obtain ⟨a',us,eu,ha',ra'⟩:=yX w hy ry
     by_cases hab:a=a'
     .subst hab;rcases yjT w (n+1) _ _ v b e0 rx (by rw [ev,<- eu];exact ry) with this|z
      .rw [this,ev,eu];exact .same
      .exact .odd z
     .split at e
      .rename_i hl;obtain ⟨e',k1,k2⟩:=yhH (yon w n) ra ra' e;have hl':vs.length=us.length:=by rw [ra.len,ra'.len,hl]
       rw [ev,eu,k2,<- hl',Nat.min_self];exact .lst ha ha' hl' hab k1
      .rename_i hl;cases e;rw [ev,eu];exact .lstN ha ha' (by rw [ra.len,ra'.len];exact hl)
    .cases e
def yxP:P2:=fun x y h=>match pairE (eqP 40 h) h x y with|some b=>some (.bl b,h)|none=>none
def yiy:P2:=fun x y h=>match pairE (eqP 40 h) h x y with|some b=>some (.bl (!b),h)|none=>none
def yoo (w:WOk K W) (e:pairE (eqP 40 W.h) W.h x y=some b) (rx:ycG K W x v) (ry:ycG K W y u):RcR K.K W.H v u b:=by
 unfold pairE at e;split at e
 .rename_i xs ys;obtain ⟨a,vs,ev,ha,ra⟩:=rx;obtain ⟨a',us,eu,ha',ra'⟩:=ry;cases ec:ygs (eqP 40 W.h) xs ys with
  | none=>rw [ec] at e;cases e
  | some c =>
   rw [ec] at e;cases e;obtain ⟨e',k1,k2⟩:=yhH (yon w 40) ra ra' ec;rw [ev,eu,k2,<- ra.len,<- ra'.len];exact .tup (ydq w ha) (ydq w ha') k1
 .obtain ⟨a',us,eu,ha',ra'⟩:=ry;cases e;rw [show v=.non from rx,eu];exact .nt (ydq w ha')
 .obtain ⟨a',us,eu,ha',ra'⟩:=rx;cases e;rw [show u=.non from ry,eu];exact .tn (ydq w ha')
 .split at e
  .rename_i xs ys hx hy;obtain ⟨a,vs,ev,ha,ra⟩:=yX w hx rx;obtain ⟨a',us,eu,ha',ra'⟩:=yX w hy ry;split at e
   .rename_i hl;obtain ⟨e',k1,k2⟩:=yhH (yon w 40) ra ra' e;have hl':vs.length=us.length:=by rw [ra.len,ra'.len,hl]
    rw [ev,eu,k2,<- hl',Nat.min_self];exact .lst ha ha' hl' k1
   .rename_i hl;cases e;rw [ev,eu];exact .lstN ha ha' (by rw [ra.len,ra'.len];exact hl)
  .cases e
def yAP:ycj K (yER K.K) yxP:=by
 intro W x y v u Q z h' w rx ry e q;unfold yxP at e;split at e
 .rename_i b hb;cases e;exact ⟨b,yoo w hb rx ry,q _ W rfl (.refl w) rfl⟩
 .cases e
def ynl:ycj K (yES K.K) yiy:=by
 intro W x y v u Q z h' w rx ry e q;unfold yiy at e;split at e
 .rename_i b hb;cases e;exact ⟨b,yoo w hb rx ry,q _ W rfl (.refl w) rfl⟩
 .cases e
end PX
namespace PX
open PySem L2
variable {K:Ck}
def yfk:XS:=fun _ _=>none
def yuh:yfb K yvt yfk:=fun _ _ _ _ _ _ _ _ e _=>by cases e
def yg (k:Nat) (m:Str) (f:Fn) (e:XE) (as:XA):XE:=fun Y h=>ob (e Y h) fun x h1=>match ygX x h1 with
 | some (k',ns,_)=>if k'=k/\m∉ns then ob (as Y h1) fun ys h2=>f (x::ys) h2 else none
 | none=>none
def ylA (a:ybR K ta ea) (b:ylq K t as) (hn:∀ Y h xs h',as Y h=some (xs,h')->xs.length=n) :
  ybR K (ywL (K.A k) m (spE K (n+1) f) [] ex ta t) (yg k m f ea as):=by
 intro W0 W Y Z Q z h' g e q;obtain ⟨x,h1,e1,f1⟩:=yi e;refine a W0 W Y Z _ x h1 g e1 fun v W1 w1 l1 r1=>?_
 subst w1;split at f1
 .rename_i k' ns xs hi;split at f1
  .rename_i hc;obtain ⟨ys,h2,e2,f2⟩:=yi f1;obtain ⟨p,dx,vs,ev,hp,hl,rs⟩:=yfX l1.ok hi r1;rw [hc.1] at hp;refine ⟨p,dx,_,ev,hp,ydy hc.2,?_⟩;refine b W0 W1 Y Z _ ys h2 (g.step l1) e2 fun us W2 w2 l2 r2=>?_
   subst w2;rw [append_nil];exact ⟨W2,x::ys,z,h',rfl,l2.ok,⟨v,us,rfl,l2.rep r1,r2⟩,by rw [length_cons,hn _ _ _ _ e2],f2,fun u W3 w3 l3 r3=>q u W3 w3 ((l1.trans l2).trans l3) r3⟩
  .cases f1
 .cases f1
def ycX (cs:List Nat) (f:Str) (eo ev:XE):XS:=fun Y h=>ob (ev Y h) fun y h1=>ob (eo Y h1) fun x h2=>match x with
 | .loc n=>(match h2[n]? with|some (.ins k ns xs)=>if k∈cs/\ns.length<1000 then some (.nx Y,h2.set n (.ins k (putN f y ns xs).1 (putN f y ns xs).2)) else none|_=>none)
 | _=>none
def yui (hc:∀ k∈cs,Cls K.K (K.A k)/\NoAttr K.K (K.A k) f) (a:ybR K ta ea) (c:ybR K tv ev):yfb K (yCH K.K ta tv f) (ycX cs f ea ev):=by
 intro W0 W Y Z D o h' g e q;obtain ⟨y,h1,e1,f1⟩:=yi e;obtain ⟨x,h2,e2,f2⟩:=yi f1;refine c W0 W Y Z _ y h1 g e1 fun vy W1 w1 l1 r1=>?_
 subst w1;refine a W0 W1 Y Z _ x h2 (g.step l1) e2 fun vx W2 w2 l2 r2=>?_
 subst w2;have w:=l2.ok;split at f2
 .rename_i n;split at f2
  .rename_i k ns xs hn;split at f2
   .rename_i hk;cases f2;obtain ⟨p,ep,hm,hf,dx,us,hp,hl,rs⟩:=w.loc hn r2;obtain ⟨us',p1,p2,p3⟩:=rs.putN (f:=f) hl (l2.rep r1);refine ⟨p,_,dx,_,ep,hp,(hc k hk.1).1,(hc k hk.1).2,by rw [length_zip,hl];simpa using hk.2,?_⟩;rw [p1];have l4:Le K W2 (ymr W2 n p (.ins (K.A k) dx ((putN f y ns xs).1.zip us')) (.ins k (putN f y ns xs).1 (putN f y ns xs).2)):=yeM w hn hm hf ⟨hf,dx,us',yE,p2,p3⟩;have l:=l1.trans (l2.trans l4);exact q _ Z rfl l.lf (g.step l)
   .cases f2
  .cases f2
 .cases f2
end PX
namespace PX
open PySem L2
variable {K:Ck}
def ynm (r d:Addr):HO:=.ext fun h=>h.get? r=some { cls:=.type "dict_items",data:=.fields #[.ref d] }
noncomputable def yvU:V->List V->Hp->VK->Prop:=fun x vs H Q=>∃ d kvs,x=.ref d/\vs=[]/\H d=some (.dK kvs)/\∀ r,H r=none->Q (.ref r) (upd H r (ynm r d))
noncomputable def yop (H:Hp) (as:List Addr) (ts:List (List V)):Hp:=fun b=>match (as.zip ts).lookup b with|some t=>some (.tup t)|none=>H b
def yCq (H:Hp) (p:Addr) (as:List Addr) (ts:List (List V)):Hp:=upd (yop H as ts) p (.lst (as.map V.ref))
def rSI:List V->Hp->VK->Prop:=fun xs H Q=>∃ (r d:Addr) (kvs:List (Key×V)) (ns:List Int),xs=[.ref r]/\H r=some (ynm r d)/\H d=some (.dK kvs)/\kvs.map (·.1)=ns.map .inl/\kvs.length<4 /\
 ∀ (p:Addr) (as:List Addr) (q:List Nat),q.Perm (List.range ns.length)->q.Pairwise (fun i j=>ns.getD i 0<=ns.getD j 0)->ns.Nodup->as.length=q.length->(∀ a∈p::as,H a=none)->(p::as).Nodup ->
  Q (.ref p) (yCq H p as (q.map fun i=>[V.int (ns.getD i 0),(kvs.map (·.2)).getD i .non]))
def yvV (p:Int×PV):List (Int×PV)->List (Int×PV)
 | []=>[p]
 | q::r=>if p.1<=q.1 then p::q::r else q::yvV p r
def ynn:List (Int×PV)->List (Int×PV)
 | []=>[]
 | p::r=>yvV p (ynn r)
def yrj:List Key->Option (List Int)
 | []=>some []
 | .inl i::r=>(yrj r).map (i::·)
 | .inr _::_=>none
theorem yoq:∀ {ks:List Key}{ns:List Int},yrj ks=some ns->ks=ns.map .inl
 | [],ns,h=>by cases h;rfl
 | .inl i::r,ns,h=>by obtain ⟨m,e,rfl⟩:=Option.map_eq_some_iff.mp h;rw [map_cons,<- yoq e]
 | .inr _::_,_,h=>by cases h
theorem yhI (p:Int×PV):∀ l,(yvV p l).Perm (p::l)
 | []=>.refl _
 | q::r=>by
  unfold yvV;split
  .exact .refl _
  .exact ((yhI p r).cons q).trans (.swap _ _ _)
theorem ygy:∀ l,(ynn l).Perm l
 | []=>.refl _
 | p::r=>(yhI p _).trans ((ygy r).cons p)
theorem yrk:∀ {l:List (Int×PV)},l.Pairwise (fun a b=>a.1<=b.1)->(yvV p l).Pairwise (fun a b=>a.1<=b.1)
 | [],_=>List.pairwise_singleton _ _
 | q::r,h=>by
  obtain ⟨h1,h2⟩:=List.pairwise_cons.mp h;unfold yvV;split
  .rename_i hc;exact List.pairwise_cons.mpr ⟨fun b hb=>by
    rcases mem_cons.mp hb with rfl|hb
    .exact hc
    .exact Int.le_trans hc (h1 b hb),h⟩
  .rename_i hc;refine List.pairwise_cons.mpr ⟨fun b hb=>?_,yrk h2⟩;rcases mem_cons.mp ((yhI p r).mem_iff.mp hb) with rfl|hb
   .omega
   .exact h1 b hb
theorem yor:∀ l,(ynn l).Pairwise (fun a b=>a.1<=b.1)
 | []=>.nil
 | _::r=>yrk (yor r)
def yuj {ns:List Int}{xs:List PV}{q:List Nat}(hl:xs.length=ns.length) (hp:q.Perm (List.range ns.length)) (hs:q.Pairwise fun i j=>ns.getD i 0<=ns.getD j 0) (nd:ns.Nodup) :
  (q.map fun i=>(ns.getD i 0,xs.getD i .non))=ynn (ns.zip xs):=by
 have hz:((List.range ns.length).map fun i=>(ns.getD i 0,xs.getD i .non))=ns.zip xs:=by
  apply List.ext_getElem
  .simp [hl]
  .intro i h1 h2;have h3:i<ns.length:=by simpa using h1
   simp [getD,List.getElem?_eq_getElem h3,List.getElem?_eq_getElem (show i<xs.length by omega)]
 have hm:(q.map fun i=>(ns.getD i 0,xs.getD i .non)).Perm (ns.zip xs):=by rw [<- hz];exact hp.map _
 have hk:(ns.zip xs).map (·.1)=ns:=List.map_fst_zip (by omega);refine List.Perm.eq_of_pairwise (le:=fun a b=>a.1<=b.1) (fun a b ha hb h1 h2=>?_) (List.pairwise_map.mpr hs) (yor _) (hm.trans (ygy _).symm);have ha:=hm.mem_iff.mp ha;have hb:=(ygy _).mem_iff.mp hb;obtain ⟨i,hi,rfl⟩:=getElem_of_mem ha;obtain ⟨j,hj,rfl⟩:=getElem_of_mem hb;have hi':i<ns.length:=by rw [length_zip] at hi;omega
 have hj':j<ns.length:=by rw [length_zip] at hj;omega
 have e:ns[i]=ns[j]:=by have:((ns.zip xs)[i]).1=((ns.zip xs)[j]).1:=Int.le_antisymm h1 h2;simpa using this
 have:=yiY nd hi' hj' e;subst this;rfl
def yET (W:Wd) (as:List Addr) (ts:List (List V)):Wd:=⟨yop W.F as ts,yop W.H as ts,W.m,W.h⟩
theorem lookup_mem {Z:Type}:∀ {as:List Addr}{ts:List Z}{b:Addr}{t:Z},(as.zip ts).lookup b=some t->b∈as
 | [],_,_,_,h=>by simp at h
 | _::_,[],_,_,h=>by simp at h
 | a::as,u::ts,b,t,h=>by
  rw [zip_cons_cons,lookup_cons] at h;split at h
  .rename_i hb;rw [eq_of_beq hb];exact mem_cons_self
  .exact mem_cons_of_mem _ (lookup_mem h)
def ygz (h:b∉as):yop H as ts b=H b:=by
 unfold yop;split
 .rename_i e;exact absurd (lookup_mem e) h
 .rfl
def yxQ (w:WOk K W) (h:∀ a∈as,W.H a=none):Le K W (yET W as ts):=by
 have nm:∀ a∈as,a∉W.m:=fun a ha=>w.out (h a ha)
 have sF:Same W.F (yop W.F as ts):=fun b o e=>by rw [ygz fun z=>by rw [w.ff (h b z)] at e;cases e];exact e
 have sH:Same W.H (yop W.H as ts):=fun b o e=>by rw [ygz fun z=>by rw [h b z] at e;cases e];exact e
 refine ⟨⟨?_,w.len,w.nd,fun n d a e1 e2=>?_⟩,sF,prefix_refl _,fun b u e _=>sH b u e,fun b u e _ f=>?_,fun b z n=>absurd z n,fun n ks xs e1=>⟨e1,fun a e2=>ygz fun z=>nm a z (mem_of_getElem? e2)⟩⟩
 .intro b u e;have e:yop W.F as ts b=some u:=e;show yop W.H as ts b=some u;unfold yop at e ⊢;split at e
  .exact e
  .exact w.le _ _ e
 .have ha:a∉as:=fun z=>nm a z (mem_of_getElem? e2)
  exact (w.at_ n d a e1 e2).mono sF (prefix_refl _) (fun u e=>sH _ _ e) fun f=>(ygz ha).trans f
 .exact (ygz fun z=>by rw [h b z] at e;cases e).trans f
theorem ylB {F:Hp}{m:List Addr}{Y:Nat->PV}{T:Nat->List V}{Z:Nat->List PV}(hY:∀ i,Y i=.tup (Z i)):∀ (as:List Addr) (q:List Nat),as.length=q.length->as.Nodup->(∀ a∈as,∀ i,i∈q->(as.zip (q.map T)).lookup a=some (T i)->F a=some (.tup (T i))) ->
  (∀ i∈q,RepL K F m (Z i) (T i))->RepL K F m (q.map Y) (as.map V.ref)
 | [],[],_,_,_,_=>rfl
 | [],_::_,h,_,_,_=>by cases h
 | _::_,[],h,_,_,_=>by cases h
 | a::as,i::q,hl,hn,hF,hR=>by
  obtain ⟨n1,n2⟩:=List.nodup_cons.mp hn;refine ⟨.ref a,_,rfl,?_,ylB hY as q (by simpa using hl) n2 (fun b hb j hj e=>?_) fun j hj=>hR j (mem_cons_of_mem _ hj)⟩
  .rw [hY];exact ⟨a,T i,rfl,.inl (hF a mem_cons_self i mem_cons_self (by simp)),hR i mem_cons_self⟩
  .refine hF b (mem_cons_of_mem _ hb) j (mem_cons_of_mem _ hj) ?_;rw [map_cons,zip_cons_cons,lookup_cons];have:(b == a)=false:=beq_eq_false_iff_ne.mpr fun z=>n1 (z ▸ hb)
   rw [this];exact e
noncomputable def sortI (ks:List Key) (xs:List PV):Option (List PV):=match yrj ks with|some ns=>if ns.length<4 then some ((ynn (ns.zip xs)).map fun p=>.tup [.int p.1,p.2]) else none|none=>none
def yiZ (e:XE):XO:=fun Y h=>ob (e Y h) fun x h1=>match ylx x h1 with|some (ks,xs)=>(match sortI ks xs with|some l=>some (.lst l,h1)|none=>none)|none=>none
def yvW (w:WOk K W) (e:ylx x W.h=some (ks,xs)) (r:ycG K W x v):tyV K.K "dict" v W.H:=by obtain ⟨a,vs,rfl,hp,_⟩:=yly w e r;exact .inr (.inr (.inl ⟨rfl,.inl ⟨_,hp⟩⟩))
def yrl (a:ybR K ta ea):ymn K (tCB rSI (ymz (yCK K.K "dict" yvU ta) ytd)) (yiZ ea):=by
 intro W0 W Y O Q z h' g e q;obtain ⟨x,h1,e1,f1⟩:=yi e;refine a W0 W Y O _ x h1 g e1 fun v W1 w1 l1 r1=>?_
 subst w1;split at f1
 .rename_i ks xs hd;split at f1
  .rename_i l hl;cases f1;refine ⟨yvW l1.ok hd r1,?_⟩;obtain ⟨d,vs,ev,hp,hvl,rs⟩:=yly l1.ok hd r1;subst ev;refine ⟨d,_,rfl,rfl,hp,fun r hr=>?_⟩;unfold sortI at hl;split at hl
   .rename_i ns hk;split at hl
    .rename_i h64;cases hl;have hk:=yoq hk;have l2:=ycL (o:=ynm r d) l1.ok hr;have hnl:ks.length=ns.length:=by rw [hk,length_map]
     have hxl:xs.length=ns.length:=by rw [<- rs.len];omega
     show rSI [.ref r] (upd W1.H r (ynm r d)) Q;refine ⟨r,d,ks.zip vs,ns,rfl,yE,(yK (ybu hp hr)).trans hp,by rw [List.map_fst_zip (by omega),hk],by rw [length_zip];omega,fun p as o hperm hs nd hal hfree hnd=>?_⟩;rw [List.map_snd_zip (by omega)];generalize hW2:ygv W1 r (ynm r d)=W2 at l2;have hH2:W2.H=upd W1.H r (ynm r d):=by rw [<- hW2];rfl
     rw [<- hH2] at hfree ⊢;have l3:=yxQ (ts:=o.map fun i=>[V.int (ns.getD i 0),vs.getD i .non]) l2.ok fun a ha=>hfree a (mem_cons_of_mem _ ha)
     obtain ⟨n1,n2⟩:=List.nodup_cons.mp hnd;have hp3:(yET W2 as (o.map fun i=>[V.int (ns.getD i 0),vs.getD i .non])).H p=none:=(ygz n1).trans (hfree p mem_cons_self);have l4:=ycL (o:=.lst (as.map V.ref)) l3.ok hp3;have l:=l2.trans (l3.trans l4);have inq:∀ i∈o,i<ns.length:=fun i hi=>by have:=hperm.mem_iff.mp hi;simpa using this
     refine q p _ (by rw [<- hW2];rfl) (l1.trans l) (l3.ok.out hp3) ((l1.trans l2).fresh (hfree p mem_cons_self)) (fun z=>by cases z) ⟨l3.ok.ff hp3,_,yE,?_⟩;rw [<- yuj hxl hperm hs nd,map_map];refine ylB (T:=fun i=>[V.int (ns.getD i 0),vs.getD i .non]) (Z:=fun i=>[.int (ns.getD i 0),xs.getD i .non]) (fun i=>rfl) as o hal n2 (fun a ha i hi e=>?_) fun i hi=>⟨_,_,rfl,rfl,_,_,rfl,?_,rfl⟩
     .show yop W2.F as _ a=_;unfold yop;rw [e]
     .have hi':=inq i hi;obtain ⟨u,h3,h4⟩:=(l2.trans (l3.trans l4)).repL rs |>.get (List.getElem?_eq_getElem (show i<xs.length by omega));have e5:xs.getD i .non=xs[i]'(by omega):=by simp [getD,List.getElem?_eq_getElem (show i<xs.length by omega)]
      have e6:vs.getD i .non=u:=by simp [getD,h3]
      rw [e5,e6];exact h4
    .cases hl
   .cases hl
  .cases f1
 .cases f1
end PX
namespace PX
open PySem L2
variable {K:Ck}
def ItR (K:PySem.W.Frag) (a:Addr) (m:Nat):It :=
 ⟨fun i H=>i<m/\∃ xs x,SqL K H a xs/\xs[m-1-i]?=some x,fun i H x H'=>H'=H/\∀ xs,SqL K H a xs->xs[m-1-i]?=some x,fun i _=>i=m⟩
def yEU (K:PySem.W.Frag) (tl:TE):TI:=fun Z H R=>tl Z H fun x H1=>∃ a xs,x=.ref a/\SqL K H1 a xs/\R (ItR K a xs.length) H1
def yms (n:Nat) (rev:Bool) (g:XG) (s:XS):Nat->Nat->PSt->AH->Option (Out×AH)
 | 0,i,Y,h=>match h[n]? with|some (.lst xs)=>if xs.length=i then some (.nx Y,h) else none|_=>none
 | k+1,i,Y,h=>match h[n]? with
  | some (.lst xs)=>(match xs[if rev then k else i]? with
   | some x=>(g x Y).bind fun Y1=>ob (s Y1 h) fun o h1=>match o with|.nx Y'=>yms n rev g s k (i+1) Y' h1|.ct Y'=>yms n rev g s k (i+1) Y' h1|.bk Y'=>some (.nx Y',h1)|.rt y=>some (.rt y,h1)
   | none=>none)
  | _=>none
def yjU (rev:Bool) (e:XE) (g:XG) (s:XS):XS:=fun Y h=>ob (e Y h) fun x h1=>match x with
 | .loc n=>(match h1[n]? with|some (.lst xs)=>yms n rev g s xs.length 0 Y h1|_=>none)
 | _=>none
structure ItX (K:Ck) (n:Nat) (rev:Bool) (m:Nat) (a:Addr) (J:It):Prop where
 go:∀ (i:Nat) (H:Hp) (vs:List V) (v:V),H a=some (.lst vs)->i<m->vs[if rev then m-1-i else i]?=some v->J.go i H
 yld:∀ (i:Nat) (H:Hp) (vs:List V) (v:V) (H2:Hp),H a=some (.lst vs)->i<m->J.yld i H v H2->H2=H/\vs[if rev then m-1-i else i]?=some v
 stop:∀ (H:Hp) (vs:List V),H a=some (.lst vs)->vs.length=m->J.stop m H
section
variable {ta:TE}{ea:XE}{t:TS}{s:XS}
def ylC {xs:List PV}(b:yqH K g y) (c:yfb K t s) (gd:Good K W0 W Y O) (l1:Le K W W1) (q:Ends.Ok K W0 W D h' o)
  (f1:yms n rev y s xs.length 0 Y W1.h=some (o,h')) (hn:W1.h[n]?=some (.lst xs)) (hm:W1.m[n]?=some p) (rs:ycE K W1 xs us) (J1:ItX K n rev us.length p J) :
  ∃ Z:Nat->Nat->St->Hp->Prop,(∃ m,Z 0 m O W1.H)/\∀ i m O H,Z i m O H ->
   (J.stop i H/\D.nx O H)\/(J.go i H/\∃ N:St->Hp->Prop,(∀ O' H',N O' H'->∃ m',m'<m/\Z (i+1) m' O' H')/\∀ x H',J.yld i H x H'->g x O H' fun O2 H2=>t { D with nx:=N,ct:=N,bk:=D.nx } O2 H2):=by
   have q1:=q.from_ l1.lf;have hul:us.length=xs.length:=rs.len;rw [hul] at J1;refine ⟨fun i m O H=>m=xs.length-i/\i<=xs.length/\∃ W' Y',W'.H=H/\Lf K W1 W'/\Good K W0 W' Y' O/\yms n rev y s (xs.length-i) i Y' W'.h=some (o,h'),⟨_,rfl,zero_le _,W1,Y,rfl,.refl,gd.step l1,f1⟩,?_⟩;rintro i m O _ ⟨rfl,hi,W',Y',rfl,l,g',f⟩;have hm':W'.m[n]?=some p:=yem l.pre hm
   by_cases hlt:i<xs.length
   .obtain ⟨k,hk⟩:∃ k,xs.length-i=k+1:=⟨xs.length-i-1,by omega⟩
    rw [hk] at f;unfold yms at f;split at f
    .rename_i ys hy;split at f
     .rename_i z hz;obtain ⟨p',ev',hm2,hf',vs,hp',rs'⟩:=g'.ok.loc hy (v:=.ref p) ⟨p,rfl,hm'⟩;cases ev';have hix:(if rev=true then xs.length-1-i else i)=(if rev=true then k else i):=by rw [show xs.length-1-i=k by omega]
      obtain ⟨vz,hv1,hv2⟩:=rs'.get hz;obtain ⟨Y1,k1,f⟩:=Option.bind_eq_some_iff.mp f;obtain ⟨o1,h2,k2,f3⟩:=yi f;refine .inr ⟨J1.go i W'.H vs vz hp' hlt (by rw [hix];exact hv1),fun O2 H2=>i+1<=xs.length/\∃ W2 Y2,W2.H=H2/\Lf K W1 W2/\Good K W0 W2 Y2 O2/\yms n rev y s (xs.length-(i+1)) (i+1) Y2 W2.h=some (o,h'),fun O2 H2 ⟨n1,n2⟩=>⟨xs.length-(i+1),by omega,rfl,n1,n2⟩,fun v H2 hy=>?_⟩;obtain ⟨rfl,hx⟩:=J1.yld i W'.H vs v H2 hp' hlt hy;rw [hix,hv1] at hx;cases hx;have ek:xs.length-(i+1)=k:=by omega
      refine b W0 W' Y' Y1 O _ vz _ g' hv2 k1 fun O2 g2=>?_
      refine c W0 W' Y1 O2 _ o1 h2 g2 k2 ?_;cases o1 with
      | nx Y2=>exact fun W2 O3 w2 l2 g3=>⟨hlt,W2,Y2,rfl,l.trans l2,g3,by rw [w2,ek];exact f3⟩
      | ct Y2=>exact fun W2 O3 w2 l2 g3=>⟨hlt,W2,Y2,rfl,l.trans l2,g3,by rw [w2,ek];exact f3⟩
      | bk Y2=>cases f3;exact fun W2 O3 w2 l2 g3=>q1 W2 O3 w2 (l.trans l2) g3
      | rt x=>cases f3;exact q1
     .cases f
    .cases f
   .have ei:i=xs.length:=by omega
    subst ei;rw [sub_self] at f;unfold yms at f;split at f
    .rename_i ys hy;obtain ⟨p',ev',hm2,hf',vs,hp',rs'⟩:=g'.ok.loc hy (v:=.ref p) ⟨p,rfl,hm'⟩;cases ev';split at f
     .rename_i hyl;cases f;exact .inl ⟨J1.stop W'.H vs hp' (by rw [rs'.len,hyl]),q1 W' O rfl l g'⟩
     .cases f
    .cases f
def yDN:ItX K n false m a (Itl K.K a) where
 go:=fun i H vs v h _ e=>⟨vs,v,SqL.of h,e⟩
 yld:=fun i H vs v H2 h _ e=>⟨e.1,e.2 vs (SqL.of h)⟩
 stop:=fun H vs h e=>⟨vs,SqL.of h,le_of_eq e⟩
def yDO:ItX K n true m a (ItR K.K a m) where
 go:=fun i H vs v h hi e=>⟨hi,vs,v,SqL.of h,e⟩
 yld:=fun i H vs v H2 h _ e=>⟨e.1,e.2 vs (SqL.of h)⟩
 stop:=fun H vs h e=>rfl
def yuk (a:ybR K ta ea) (b:yqH K g y) (c:yfb K t s):yfb K (yzN (ysW K.K ta) g t) (yjU false ea y s):=by
 intro W0 W Y Z D o h' gd e q;obtain ⟨x,h1,e1,f1⟩:=yi e;refine a W0 W Y Z _ x h1 gd e1 fun v W1 w1 l1 r1=>?_
 subst w1;split at f1
 .rename_i n;split at f1
  .rename_i xs hn;obtain ⟨p,ev,hm,hf,us,hp,rs⟩:=l1.ok.loc hn r1;exact ⟨p,ev,⟨us,SqL.of hp⟩,ylC b c gd l1 q f1 hn hm rs yDN⟩
  .cases f1
 .cases f1
def yul (a:ybR K ta ea) (b:yqH K g y) (c:yfb K t s):yfb K (yzN (yEU K.K ta) g t) (yjU true ea y s):=by
 intro W0 W Y Z D o h' gd e q;obtain ⟨x,h1,e1,f1⟩:=yi e;refine a W0 W Y Z _ x h1 gd e1 fun v W1 w1 l1 r1=>?_
 subst w1;split at f1
 .rename_i n;split at f1
  .rename_i xs hn;obtain ⟨p,ev,hm,hf,us,hp,rs⟩:=l1.ok.loc hn r1;exact ⟨p,us,ev,SqL.of hp,ylC b c gd l1 q f1 hn hm rs yDO⟩
  .cases f1
 .cases f1
end
end PX
namespace PX
open PySem L2
variable {K:Ck}
def yDP (kvs more:List (Key×V)):List (Key×V):=more.foldl (fun acc kv=>putK acc kv.1 kv.2) kvs
def yEV:V->List V->Hp->VK->Prop:=fun x vs H Q=>∃ d o kvs more,x=.ref d/\vs=[.ref o]/\d≠o/\H d=some (.dK kvs)/\H o=some (.dK more)/\kvs.length+more.length<=sizeLine/\Q .non (upd H d (.dK (yDP kvs more)))
def yit:List Key->List PV->List Key->List PV->List Key×List PV
 | j::js,y::ys,ks,xs=>yit js ys (ycM ks xs j y).1 (ycM ks xs j y).2
 | _,_,ks,xs=>(ks,xs)
def yps:PV->AH->Bool:=fun x h=>(ylx x h).isSome
def yum (w:WOk K W) (r:ycG K W x v) (c:yps x W.h=true):tyV K.K "dict" v W.H:=by obtain ⟨⟨ks,xs⟩,hd⟩:=Option.isSome_iff_exists.mp c;exact yvW w hd r
theorem yrm:∀ {js:List Key}{ys:List PV}{us:List V}{ks:List Key}{xs:List PV}{vs:List V},RepL K F m ys us->us.length=js.length->RepL K F m xs vs->vs.length=ks.length ->
  ∃ ws,yDP (ks.zip vs) (js.zip us)=(yit js ys ks xs).1.zip ws/\ws.length=(yit js ys ks xs).1.length/\RepL K F m (yit js ys ks xs).2 ws
 | [],ys,us,ks,xs,vs,r,hl,r2,hl2=>by
  obtain rfl:us=[]:=List.length_eq_zero_iff.mp (by simpa using hl);cases ys with
  | cons y ys=>obtain ⟨v,r',e,_⟩:=r;cases e
  | nil=>exact ⟨vs,rfl,hl2,r2⟩
 | j::js,[],us,ks,xs,vs,r,hl,r2,hl2=>by obtain rfl:us=[]:=r;cases hl
 | j::js,y::ys,_,ks,xs,vs,⟨u,us,e,ru,rr⟩,hl,r2,hl2=>by
  subst e;have key:∃ ws,putK (ks.zip vs) j u=(ycM ks xs j y).1.zip ws/\ws.length=(ycM ks xs j y).1.length/\RepL K F m (ycM ks xs j y).2 ws:=by
   have hput:=yoi j u ks vs hl2;unfold ycM
   by_cases hj:yre ks j=true
   .rw [if_pos hj] at hput ⊢;exact ⟨_,hput,by rw [yjO];exact hl2,r2.setK ks j ru⟩
   .rw [if_neg hj] at hput ⊢;exact ⟨_,hput,by rw [length_append,length_append,hl2];rfl,r2.snoc ru⟩
  obtain ⟨ws,p1,p2,p3⟩:=key;have ih:=yrm (js:=js) rr (by simpa using hl) p3 p2;show ∃ ws,yDP (putK (ks.zip vs) j u) (js.zip us)=_/\_;rw [p1];exact ih
def yzk:PM:=fun x ys h=>match x,ys with|.loc n,[.loc k]=>(match h[n]?,h[k]? with|some (.dct ks xs),some (.dct js zs)=>if n≠k/\ks.length+js.length<1000 then some (.non,h.set n (.dct (yit js zs ks xs).1 (yit js zs ks xs).2)) else none|_,_=>none)|_,_=>none
def yDQ:yhA K "dict" yps yEV yzk:=by
 refine ⟨fun W x v w r c=>yum w r c,fun W x v xs vs Q z h' w rx r e q=>?_⟩;unfold yzk at e;split at e
 .rename_i n k;split at e
  .rename_i ks xs js zs hn hk;split at e
   .rename_i hc;cases e;obtain ⟨u,rfl,ru⟩:=ync r;obtain ⟨a,ev,hm,hf,us,hp,hl,rs⟩:=w.loc hn rx;obtain ⟨b,ev2,hm2,hf2,us2,hp2,hl2,rs2⟩:=w.loc hk ru;have hne:a≠b:=fun z=>by subst z;obtain ⟨l1,q1⟩:=List.getElem?_eq_some_iff.mp hm;obtain ⟨l2,q2⟩:=List.getElem?_eq_some_iff.mp hm2;exact hc.1 (yiY w.nd l1 l2 (q1.trans q2.symm))
    obtain ⟨ws,p1,p2,p3⟩:=yrm rs2 hl2 rs hl;refine ⟨a,b,_,_,ev,by rw [ev2],hne,hp,hp2,by rw [length_zip,length_zip];exact small (by omega),?_⟩;rw [p1];exact q .non (ymr W n a (.dK ((yit js zs ks xs).1.zip ws)) (.dct (yit js zs ks xs).1 (yit js zs ks xs).2)) rfl (yeM w hn hm hf ⟨hf,_,yE,p2,p3⟩) rfl
   .cases e
  .cases e
 .cases e
end PX
namespace PX
open PySem L2
variable {K:Ck}
noncomputable def yAQ (J:It) (tc:TT) (te:TE) (inn:V->St) (D:Addr) (Q:VK) (H:Hp):Prop:=∃ W:Nat->Nat->Hp->Prop,(∃ m,W 0 m H)/\∀ i m H,W i m H ->
 (J.stop i H/\Q (.ref D) H)\/(J.go i H/\∀ x H',J.yld i H x H'->tc (inn x) H' fun b H1=>if b=true then te (inn x) H1 fun y H2=>∃ acc,H2 D=some (.lst acc)/\acc.length<sizeLine/\∃ m',m'<m/\W (i+1) m' (upd H2 D (.lst (acc++[y]))) else ∃ m',m'<m/\W (i+1) m' H1)
def yja (wi:TI) (ix:List Nat) (tc:TT) (te:TE):TE:=fun Z H Q=>wi Z H fun J H1=>∀ D,H1 D=none->yAQ J tc te (inner ix Z) D Q (upd H1 D (.lst []))
end PX
namespace PX
open PySem L2
variable {K:Ck}
end PX
namespace PX
open PySem L2
variable {K:Ck}
def yjV:Key->PV|.inl i=>.int i|.inr s=>.str s
def yrn (k:Key):ycG K W (yjV k) (kV k):=by cases k<;>exact rfl
def ItD (a:Addr) (ob:Obj) (kvs:List (Key×V)):It :=
 ⟨fun i H=>i<kvs.length/\H a=some (.frz ob (.dK kvs)),fun i H x H'=>H'=H/\∃ kv,kvs[i]?=some kv/\x=kV kv.1,fun i H=>i=kvs.length/\H a=some (.frz ob (.dK kvs))⟩
def yAR (NF:Addr->Prop) (te:TE):TI:=fun Z H R=>te Z H fun x H1=>∃ a kvs,x=.ref a/\H1 a=some (.dK kvs)/\∀ ob,NF a->R (ItD a ob kvs) (upd H1 a (.frz ob (.dK kvs)))
def yxR (w:WOk K W) (e:W.h[n]?=some d) (hm:W.m[n]?=some a) (hF:W.F a=none) (at':NdAt K W.F (upd W.H a o) W.m d' a):WOk K (ymr W n a o d'):=by
 have hn:n<W.h.length:=(List.getElem?_eq_some_iff.mp e).1;refine ⟨fun b u q=>?_,by show W.m.length=(W.h.set n d').length;rw [length_set];exact w.len,w.nd,fun j dj b e1 e2=>?_⟩
 .have:b≠a:=ybu q hF;exact (yK this).trans (w.le _ _ q)
 .have e1:(W.h.set n d')[j]?=some dj:=e1
  by_cases hj:n=j
  .subst hj;rw [getElem?_set_self hn] at e1;cases e1;have e2:W.m[n]?=some b:=e2;rw [hm] at e2;cases e2;exact at'
  .rw [getElem?_set_ne hj] at e1;have e2:W.m[j]?=some b:=e2;have hb:b≠a:=fun z=>by subst z;obtain ⟨l1,q1⟩:=List.getElem?_eq_some_iff.mp hm;obtain ⟨l2,q2⟩:=List.getElem?_eq_some_iff.mp e2;exact hj (yiY w.nd l1 l2 (q1.trans q2.symm))
   exact (w.at_ j dj b e1 e2).mono (Same.refl _) (prefix_refl _) (fun u q=>(yK hb).trans q) id
def yxS {W0 W':Wd}(w:WOk K W') (pre:W0.m <+: W'.m) (fz:∀ (n:Nat) (ks:List Key) (xs:List PV),W0.h[n]?=some (.fz ks xs)->W'.h[n]?=some (.fz ks xs)/\∀ a,W0.m[n]?=some a->W'.H a=W0.H a)
  (hm:W'.m[n]?=some a) (n0:∀ ks xs,W0.h[n]?≠some (.fz ks xs)) (j:Nat) (ks:List Key) (xs:List PV) (e1:W0.h[j]?=some (.fz ks xs)) :
  (ymr W' n a o d).h[j]?=some (.fz ks xs)/\∀ b,W0.m[j]?=some b->(ymr W' n a o d).H b=W0.H b:=by
 obtain ⟨h1,h2⟩:=fz j ks xs e1;have hj:n≠j:=fun z=>by subst z;exact n0 _ _ e1
 refine ⟨(getElem?_set_ne hj).trans h1,fun b e2=>(yK fun z=>?_).trans (h2 b e2)⟩;subst z;obtain ⟨l1,q1⟩:=List.getElem?_eq_some_iff.mp hm;obtain ⟨l2,q2⟩:=List.getElem?_eq_some_iff.mp (yem pre e2);exact hj (yiY w.nd l1 l2 (q1.trans q2.symm))
def yxT (l:Le K W0 W') (e:W'.h[n]?=some d) (hm:W'.m[n]?=some a) (hF:W'.F a=none) (at':NdAt K W'.F (upd W'.H a o) W'.m d' a) (n0:∀ ks xs,W0.h[n]?≠some (.fz ks xs)):Le K W0 (ymr W' n a o d') where
 ok:=yxR l.ok e hm hF at'
 fs:=l.fs
 pre:=l.pre
 keep:=fun b u q hb=>by
  have:b≠a:=fun z=>by subst z;rw [l.mn b (mem_of_getElem? hm) hb] at q;cases q
  exact (yK this).trans (l.keep b u q hb)
 new:=l.new
 mn:=l.mn
 fz:=yxS l.ok l.pre l.fz hm n0
def yAS {W W1:Wd}(l:Le K W W1) {n:Nat}{d:Nd}(e:W1.h[n]?=some d) (nf:∀ ks xs,d≠.fz ks xs) (ks:List Key) (xs:List PV):W.h[n]?≠some (.fz ks xs):=fun z=>by have:=(l.fz n ks xs z).1;rw [e] at this;cases this;exact nf _ _ rfl
section
variable {ta:TE}{ea:XE}{t:TS}{s:XS}
end
end PX
namespace PX
open PySem L2
variable {K:Ck}
def spJ (K:Ck) (n k:Nat) (f:List PV->AH->Option (Nd×AH)):Sp:=fun vs H Q _=>∃ (W0 W:Wd) (x:Addr) (args:List V) (xs:List PV) (d:Nd) (h':AH),vs=.ref x::args/\W.H=H/\Le K W0 W/\W0.H x=none/\x∉W.m/\NdAt K W.F W.H W.m (.ins k [] []) x /\
 ycE K W xs args/\xs.length=n/\f xs W.h=some (d,h')/\∀ W',W'.h=h'->Lf K W W'->Le K W0 W'->x∉W'.m->d≠.dead->NdAt K W'.F W'.H W'.m d x->Q .non W'.H
def yxU {f} {Q:VK}(h:spJ K n k f vs H Q E):vs.length=n+1:=by obtain ⟨W0,W,x,args,xs,d,h',rfl,_,_,_,_,_,r,hn,_⟩:=h;rw [length_cons,r.len,hn]
def yro {N:List Str}{Q:VK}(hN:n+1<=N.length) (a:ysN K t s) (h:spJ K n k (ymp N.length k s) vs H Q E):t ⟨fun _ H'=>Q .non H',Q,bk,ct⟩ (L2.start N vs) H:=by
 obtain ⟨W0,W,x,args,xs,d,h',rfl,rfl,le,hx,hm,at_,r,hn,e,q⟩:=h;obtain ⟨o,h1,e1,f1⟩:=yi e;have gs:=ygw (K:=K) (N:=N.drop 1) le.ok r;have g:Good K W0 W (.own (.ins k [] [])::(xs.map .val++replicate (N.length-(xs.length+1)) .no)) (L2.start N (.ref x::args)):=by
  have es:L2.start N (.ref x::args)=some (.ref x)::L2.start (N.drop 1) args:=by
   have e3:N.length-(args.length+1)=(N.drop 1).length-args.length:=by rw [length_drop];omega
   unfold L2.start;rw [map_cons,List.cons_append,length_cons,e3]
  have eN:N.length-(xs.length+1)=(N.drop 1).length-xs.length:=by rw [length_drop];omega
  rw [es,eN];have noown:∀ (j:Nat) (d:Nd),(xs.map PVar.val++replicate ((N.drop 1).length-xs.length) .no)[j]?≠some (.own d):=fun j d z=>by
   by_cases hj:j<xs.length
   .rw [getElem?_append_left (by simpa using hj),getElem?_map,List.getElem?_eq_getElem hj] at z;cases z
   .rw [getElem?_append_right (by simp;omega),getElem?_replicate] at z;split at z<;>cases z
  refine ⟨le,by rw [length_cons,length_cons,gs.len],fun j y z=>?_,fun j d z=>?_,fun i j d d' hij z z'=>?_⟩
  .cases j with
   | zero=>cases z
   | succ j=>exact gs.val j y z
  .cases j with
   | zero=>cases z;exact ⟨x,rfl,hm,hx,(fun z=>by cases z),at_⟩
   | succ j=>exact absurd z (noown j d)
  .cases i with
   | zero =>
    cases j with
    | zero=>exact absurd rfl hij
    | succ j=>exact absurd z' (noown j d')
   | succ i=>exact absurd z (noown i d)
 cases o with
 | rt y=>cases f1
 | bk Y=>cases f1
 | ct Y=>cases f1
 | nx Y =>
  refine a W0 W _ Y _ _ h1 g e1 fun W' ew lf g'=>?_
  dsimp only at f1;split at f1
  .rename_i d' hd';cases f1;obtain ⟨p,b1,b2,b3,b4,b5⟩:=g'.own 0 _ hd';have b1:some (some (V.ref x))=some (some (V.ref p)):=b1;cases b1;exact q W' ew lf g'.le b2 b4 b5
  .cases f1
def yAT:PVar->Bool|.own _=>false|_=>true
def xBI (k:Nat) (f:List PV->AH->Option (Nd×AH)) (a:XA):XS:=fun Y h=>match Y with
 | .own (.ins k' [] [])::r=>if k'=k/\r.all yAT=true then ob (a Y h) fun xs h1=>ob (f xs h1) fun d h2=>(match d with|.dead=>none|d=>some (.nx (.own d::r),h2)) else none
 | _=>none
def yxV {f} (a:ylq K t aa) (hn:∀ Y h xs h',aa Y h=some (xs,h')->xs.length=n):ysN K (ypX (yte (spJ K n k f) [] E (ymz (ypN 0) t))) (xBI k f aa):=by
 intro W0 W Y Y' Z D h' g e q;unfold xBI at e;split at e
 .rename_i k' r;split at e
  .rename_i c;obtain ⟨rfl,hr⟩:=c;obtain ⟨xs,h1,e1,f1⟩:=yi e;obtain ⟨d,h2,e2,f2⟩:=yi f1;have nodead:d≠.dead:=fun z=>by subst z;cases f2
   have f2:some (Out.nx (.own d::r),h2)=some (.nx Y',h'):=by cases d<;>first|exact f2|cases f2
   cases f2;obtain ⟨p,b1,b2,b3,b4,b5⟩:=g.own 0 _ rfl;refine ⟨.ref p,b1,?_⟩;refine a W0 W _ Z _ xs h1 g e1 fun vs W1 w1 l1 r1=>?_
   subst w1;have g1:=g.step l1;obtain ⟨p',c1,c2,c3,c4,c5⟩:=g1.own 0 _ rfl;rw [b1] at c1;cases c1;rw [append_nil];refine ⟨W0,W1,p,vs,xs,d,h',rfl,rfl,g1.le,c3,c2,c5,r1,hn _ _ _ _ e1,e2,fun W2 w2 lf le hm hd at_=>?_⟩;refine q W2 w2 (l1.lf.trans lf) ⟨le,g1.len,fun j y z=>?_,fun j d' z=>?_,fun i j d1 d2 hij z1 z2=>?_⟩
   .cases j with
    | zero=>cases z
    | succ j =>
     obtain ⟨v,z1,z2⟩:=g1.val (j+1) y z;exact ⟨v,z1,lf.rep z2⟩
   .cases j with
    | zero=>cases z;exact ⟨p,b1,hm,c3,hd,at_⟩
    | succ j =>
     have z:r[j]?=some (.own d'):=z;have:=List.all_eq_true.mp hr _ (mem_of_getElem? z);cases this
   .cases i with
    | zero =>
     cases j with
     | zero=>exact absurd rfl hij
     | succ j =>
      have z:r[j]?=some (.own d2):=z2;have:=List.all_eq_true.mp hr _ (mem_of_getElem? z);cases this
    | succ i =>
     have z:r[i]?=some (.own d1):=z1;have:=List.all_eq_true.mp hr _ (mem_of_getElem? z);cases this
  .cases e
 .cases e
def yun {ss:List Str}(h:KTp K.K a (ss.map V.str)):ybR K (tC (.ref a)) (xC (.tup (ss.map PV.str))):=by
 intro W0 W Y Z Q x h' g e q;cases e;refine q _ W rfl (.refl g.ok) ⟨a,_,rfl,.inr h,?_⟩;clear h q
 induction ss with
 | nil=>exact rfl
 | cons s ss ih=>exact ⟨_,_,rfl,rfl,ih⟩
end PX
namespace PX
open PySem L2
variable {K:Ck}
end PX
namespace PX
open PySem L2
variable {K:Ck}
end PX
namespace PX
open PySem L2
variable {K:Ck}
noncomputable def yrp (c:Nat):List Nat->List (List Nat)
 | []=>[[]]
 | k::r=>if k=c then []::yrp c r else match yrp c r with|[]=>[[k]]|w::ws=>(k::w)::ws
theorem ylD:∀ {w:List Nat},c∉w->yrp c w=[w]
 | [],_=>rfl
 | k::r,h=>by
  have h1:k≠c:=fun z=>h (z ▸ mem_cons_self ..)
  unfold yrp;rw [if_neg h1,ylD fun z=>h (mem_cons_of_mem _ z)]
theorem yos:∀ {w r:List Nat},c∉w->yrp c (w++c::r)=w::yrp c r
 | [],r,_=>by rw [List.nil_append];show (if c=c then []::yrp c r else _)=_;rw [if_pos rfl]
 | k::w,r,h=>by
  have h1:k≠c:=fun z=>h (z ▸ mem_cons_self ..)
  rw [List.cons_append];show (if k=c then []::yrp c (w++c::r) else match yrp c (w++c::r) with|[]=>[[k]]|w::ws=>(k::w)::ws)=_;rw [if_neg h1,yos fun z=>h (mem_cons_of_mem _ z)]
def yrq (z:Str):List Str:=(yrp 32 z.cps.toList).map fun w=>⟨w.toArray⟩
theorem yhJ:∀ (ws:List Str),ws≠[]->(∀ w∈ws,32∉w.cps.toList)->yrq (Str.join " " ws)=ws
 | [],h,_=>absurd rfl h
 | [w],_,h=>by have h1:=ylD (h w (List.mem_singleton.mpr rfl));show (yrp 32 w.cps.toList).map _=_;rw [h1];rfl
 | w::v::r,_,h=>by
  have ih:=yhJ (v::r) (fun z=>by cases z) fun u hu=>h u (mem_cons_of_mem _ hu)
  show yrq (w++" "++Str.join " " (v::r))=_;have e:(w++(" ":Str)++Str.join " " (v::r)).cps.toList=w.cps.toList++32::(Str.join " " (v::r)).cps.toList:=by show (w.cps++(" ":Str).cps++(Str.join " " (v::r)).cps).toList=_;rw [show (" ":Str).cps = #[32] by rfl'];simp
  unfold yrq at ih ⊢;rw [e,yos (h w (mem_cons_self ..)),map_cons,ih]
def yvX:V->List V->Hp->VK->Prop:=fun x vs H Q=>∃ z:Str,x=.str z/\vs=[.str " "]/\z.length<=100000/\∀ p,H p=none->Q (.ref p) (upd H p (.lst ((yrq z).map V.str)))
def ylE:PM:=fun x xs h=>match x,xs with|.str z,[.str y]=>if y = " "/\z.length<=100000 then some (.lst ((yrq z).map .str),h) else none|_,_=>none
theorem RepL.of_strs:∀ (ts:List Str),RepL K F m (ts.map PV.str) (ts.map V.str)
 | []=>rfl
 | _::ts=>⟨_,_,rfl,rfl,RepL.of_strs ts⟩
def m_split:yhA K "str" isStr yvX ylE:=by
 refine ⟨fun W x v w r c=>?_,fun W x v xs vs Q z h' w rx r e q=>?_⟩
 .unfold isStr at c;split at c
  .rw [show v=_ from r];rfl
  .cases c
 .unfold ylE at e;split at e
  .rename_i z y;split at e
   .rename_i c;cases e;obtain ⟨u,rfl,ru⟩:=ync r;have ru:u=.str y:=ru;refine ⟨z,rx,by rw [ru,c.1],c.2,fun p hp=>?_⟩;have l2:=ymU (o:=.lst ((yrq z).map V.str)) w hp;exact q (.ref p) (yvI W p (.lst ((yrq z).map V.str))) rfl l2 ⟨p,_,rfl,yE,RepL.of_strs _⟩
   .cases e
  .cases e
def yxW {z:Str}(e:z.length<=100000):ylE (.str z) [.str " "] h=some (.lst ((yrq z).map .str),h):=by unfold ylE;exact if_pos ⟨rfl,e⟩
def yuo:List PV->List PV->List PV
 | x::xs,y::ys=>.tup [x,y]::yuo xs ys
 | _,_=>[]
def xIZ (a:XA):XA:=fun Y h=>ob (a Y h) fun vs h1=>match vs with|[.lst xs,.lst ys]=>if xs.length=ys.length then some (yuo xs ys,h1) else none|_=>none
def Itz (K:PySem.W.Frag) (a b:Addr):It :=
  ⟨fun i H=>∃ xs ys x y,SqL K H a xs/\SqL K H b ys/\xs[i]?=some x/\ys[i]?=some y,
   fun i H v H'=>∃ p x y,H p=none/\v=.ref p/\H'=upd H p (.tup [x,y])/\(∀ xs,SqL K H a xs->xs[i]?=some x)/\∀ ys,SqL K H b ys->ys[i]?=some y,
   fun i H=>∃ xs ys,SqL K H a xs/\SqL K H b ys/\xs.length<=i⟩
def yEW (K:PySem.W.Frag) (t:TA):TI:=fun Z H R=>t Z H fun vs H1=>∃ a b,vs=[.ref a,.ref b]/\(∃ xs,SqL K H1 a xs)/\(∃ ys,SqL K H1 b ys)/\R (Itz K a b) H1
theorem yot:∀ {xs ys:List PV}{i:Nat}{x y:PV},xs[i]?=some x->ys[i]?=some y->(yuo xs ys)[i]?=some (.tup [x,y])
 | x::xs,y::ys,0,_,_,e,f=>by simp at e f;subst e;subst f;rfl
 | x::xs,y::ys,i+1,_,_,e,f=>by show (yuo xs ys)[i]?=_;exact yot (by simpa using e) (by simpa using f)
theorem yjW:∀ {xs ys:List PV},xs.length=ys.length->(yuo xs ys).length=xs.length
 | [],[],_=>rfl
 | x::xs,y::ys,e=>by show (yuo xs ys).length+1=_;rw [yjW (by simpa using e)];rfl
structure yDR (K:Ck) (W:Wd) (J:It) (xs:List PV):Prop where
 go:∀ (i:Nat) (W':Wd),Lf K W W'->WOk K W'->i<xs.length->J.go i W'.H
 yld:∀ (i:Nat) (W':Wd) (v:V) (H2:Hp),Lf K W W'->WOk K W'->i<xs.length->J.yld i W'.H v H2->∃ W2,W2.H=H2/\W2.h=W'.h/\Le K W' W2/\∃ x,xs[i]?=some x/\ycG K W2 x v
 stop:∀ (W':Wd),Lf K W W'->WOk K W'->J.stop xs.length W'.H
noncomputable def yAU (K:Ck) (wi:TI) (e:XA):Prop:=∀ (W0 W:Wd) (Y:PSt) (Z:St) (R:It->Hp->Prop) (xs:List PV) (h':AH),Good K W0 W Y Z->e Y W.h=some (xs,h')->(∀ J W',W'.h=h'->Le K W W'->yDR K W' J xs->R J W'.H)->wi Z W.H R
def yup (a:ylq K t e):yAU K (yEW K.K t) (xIZ e):=by
 intro W0 W Y Z R xs h' g e q;obtain ⟨ys,h1,e1,f1⟩:=yi e;split at f1
 .rename_i us ws;split at f1
  .rename_i hl;cases f1;refine a W0 W Y Z _ _ _ g e1 fun vs W1 w1 l1 r1=>?_
   obtain ⟨v,r,rfl,⟨p,ps,rfl,hp,rp⟩,v2,r2,rfl,⟨p',ps',rfl,hp',rp'⟩,rr⟩:=r1;obtain rfl:r2=[]:=rr;have up:∀ {W':Wd}{b:Addr}{zs:List V},Lf K W1 W'->WOk K W'->W1.F b=some (.lst zs)->SqL K.K W'.H b zs:=fun l w hb=>ydZ w (Same.seq l.fs (SqL.of hb))
   refine ⟨p,p',rfl,⟨ps,ydZ l1.ok (SqL.of hp)⟩,⟨ps',ydZ l1.ok (SqL.of hp')⟩,q _ W1 w1 l1 ⟨fun i W' l w hi=>?_,fun i W' v' H2 l w hi hy=>?_,fun W' l w=>?_⟩⟩
   .rw [yjW hl] at hi;obtain ⟨x,hx,_⟩:=rp.get (List.getElem?_eq_getElem hi);obtain ⟨y,hy,_⟩:=rp'.get (List.getElem?_eq_getElem (hl ▸ hi));exact ⟨ps,ps',x,y,up l w hp,up l w hp',hx,hy⟩
   .obtain ⟨b,x,y,hb,rfl,rfl,k1,k2⟩:=hy;obtain ⟨x',hx,rx⟩:=rp.get' (k1 ps (up l w hp));obtain ⟨y',hy,ry⟩:=rp'.get' (k2 ps' (up l w hp'));have l2:=ymU (o:=.tup [x,y]) w hb;exact ⟨yvI W' b (.tup [x,y]),rfl,rfl,l2,.tup [x',y'],yot hx hy,b,[x,y],rfl,.inl yE,x,[y],rfl,l2.rep (l.rep rx),y,[],rfl,l2.rep (l.rep ry),rfl⟩
   .exact ⟨ps,ps',up l w hp,up l w hp',by rw [rp.len,yjW hl];exact Nat.le_refl _⟩
  .cases f1
 .cases f1
variable {t:TS}{s:XS}
def yuq (a:yAU K wi it) (b:yqH K g y) (c:yfb K t s):yfb K (yzN wi g t) (yhm it y s):=by
 intro W0 W Y Z D o h' gd e q;obtain ⟨xs,h1,e1,f1⟩:=yi e;refine a W0 W Y Z _ xs h1 gd e1 fun J W1 w1 l1 J1=>?_
 subst w1;have q1:=q.from_ l1.lf;refine ⟨fun i m Z H=>m=xs.length-i/\i<=xs.length/\∃ W' Y',W'.H=H/\Lf K W1 W'/\Good K W0 W' Y' Z/\yeL y s (xs.drop i) Y' W'.h=some (o,h'),⟨_,rfl,zero_le _,W1,Y,rfl,.refl,gd.step l1,by simpa using f1⟩,?_⟩;rintro i m Z _ ⟨rfl,hi,W',Y',rfl,l,g',f⟩
 by_cases hlt:i<xs.length
 .rw [List.drop_eq_getElem_cons hlt] at f;obtain ⟨Y1,k1,f⟩:=Option.bind_eq_some_iff.mp f;obtain ⟨o1,h2,k2,f3⟩:=yi f;refine .inr ⟨J1.go i W' l g'.ok hlt,fun Z2 H2=>i+1<=xs.length/\∃ W2 Y2,W2.H=H2/\Lf K W1 W2/\Good K W0 W2 Y2 Z2/\yeL y s (xs.drop (i+1)) Y2 W2.h=some (o,h'),fun Z2 H2 ⟨n1,n2⟩=>⟨xs.length-(i+1),by omega,rfl,n1,n2⟩,fun v H2 hy=>?_⟩;obtain ⟨Wz,rfl,eh,lz,x,hx,rx⟩:=J1.yld i W' v H2 l g'.ok hlt hy;rw [List.getElem?_eq_getElem hlt] at hx;cases hx;rw [<- eh] at k2;refine b W0 Wz Y' Y1 Z _ v _ (g'.step lz) rx k1 fun Z2 g2=>?_
  refine c W0 Wz Y1 Z2 _ o1 h2 g2 k2 ?_;have l:=l.trans lz.lf;cases o1 with
  | nx Y2=>exact fun W2 Z3 w2 l2 g3=>⟨hlt,W2,Y2,rfl,l.trans l2,g3,by rw [w2];exact f3⟩
  | ct Y2=>exact fun W2 Z3 w2 l2 g3=>⟨hlt,W2,Y2,rfl,l.trans l2,g3,by rw [w2];exact f3⟩
  | bk Y2=>cases f3;exact fun W2 Z3 w2 l2 g3=>q1 W2 Z3 w2 (l.trans l2) g3
  | rt x=>cases f3;exact q1
 .have ei:i=xs.length:=by omega
  subst ei;refine .inl ⟨J1.stop W' l g'.ok,?_⟩;rw [List.drop_length] at f;cases f;exact q1 W' Z rfl l g'
end PX
namespace PX
open PySem L2
variable {K:Ck}
mutual
noncomputable def clean:PV->Bool
 | .loc _=>false
 | .lst xs=>you xs
 | .tup xs=>you xs
 | .ins _ _ xs=>you xs
 | _=>true
noncomputable def you:List PV->Bool
 | []=>true
 | x::xs=>clean x && you xs
end
noncomputable def yrr (f:PV->Option PV):List PV->Option (List PV)
 | []=>some []
 | x::xs=>match f x,yrr f xs with|some y,some ys=>some (y::ys)|_,_=>none
def see:Nat->AH->PV->Option PV
 | 0,_,x=>if clean x=true then some x else none
 | n+1,h,x=>match x with
  | .loc m=>(match h[m]? with|some (.lst xs)=>(yrr (see n h) xs).map .lst|some (.ins k ns xs)=>(yrr (see n h) xs).map (.ins k ns)|_=>none)
  | x=>if clean x=true then some x else none
section
variable {F H:Hp}{m:List Addr}
end
variable {t:TA}{e:XA}
end PX
namespace PX
open PySem L2
variable {K:Ck}
end PX
namespace PX
open PySem L2
variable {K:Ck}
def yDS (l1:Le K W W1) (hm:p∉W1.m) (hn:W.H p=none) (at_:NdAt K W1.F W1.H W1.m d p):Le K W ⟨W1.F,W1.H,W1.m++[p],W1.h++[d]⟩/\ycG K ⟨W1.F,W1.H,W1.m++[p],W1.h++[d]⟩ (.loc W1.h.length) (.ref p):=by
 have pre:W1.m <+: W1.m++[p]:=List.prefix_append _ _;refine ⟨⟨⟨l1.ok.le,?_,?_,fun n d' a e1 e2=>?_⟩,l1.fs,l1.pre.trans pre,l1.keep,l1.new,fun b z n=>?_,fun n ks xs e1=>⟨by have:=(l1.fz n ks xs e1).1;show (W1.h++[d])[n]?=_;rw [getElem?_append_left (List.getElem?_eq_some_iff.mp this).1];exact this,(l1.fz n ks xs e1).2⟩⟩,⟨p,rfl,?_⟩⟩
 .show (W1.m++[p]).length=(W1.h++[d]).length;rw [length_append,length_append,l1.ok.len];rfl
 .show (W1.m++[p]).Nodup;rw [List.nodup_append];refine ⟨l1.ok.nd,by simp,?_⟩;intro a ha b hb;simp at hb;subst hb;exact fun z=>hm (z ▸ ha)
 .have e1:(W1.h++[d])[n]?=some d':=e1;have e2:(W1.m++[p])[n]?=some a:=e2
  by_cases hlt:n<W1.h.length
  .rw [getElem?_append_left hlt] at e1;rw [getElem?_append_left (by rw [l1.ok.len];exact hlt)] at e2;exact (l1.ok.at_ n d' a e1 e2).mono (Same.refl _) pre (fun _ f1=>f1) id
  .rw [getElem?_append_right (by omega)] at e1;rw [getElem?_append_right (by rw [l1.ok.len];omega)] at e2;rw [l1.ok.len] at e2;cases hk:n-W1.h.length with
   | zero =>
    rw [hk] at e1 e2;simp at e1 e2;subst e1 e2;exact at_.mono (Same.refl _) pre (fun _ f1=>f1) id
   | succ k=>rw [hk] at e1;simp at e1
 .have z:b∈W1.m++[p]:=z;rcases List.mem_append.mp z with z|z
  .exact l1.mn b z n
  .simp at z;subst z;exact hn
 .show (W1.m++[p])[W1.h.length]?=some p;rw [<- l1.ok.len];simp
def yhK (k:Nat) (f:Fn) (a:XA):XE:=fun Y h=>ob (a Y h) fun xs h1=>ob (f (.loc h1.length::xs) (h1++[.ins k [] []])) fun x h2=>match x with|.non=>some (.loc h1.length,h2)|_=>none
def yrs:yhK k f aa Y h=ob (aa Y h) fun xs h1=>ob (f (.loc h1.length::xs) (h1++[.ins k [] []])) fun x h2=>match x with|.non=>some (.loc h1.length,h2)|_=>none:=id rfl
def yrt (a:ylq K t e) (hn:∀ Y h xs h',e Y h=some (xs,h')->xs.length=n):ybR K (ytf (K.A k) (spE K (n+1) f) [] ex t) (yhK k f e):=by
 intro W0 W Y Z Q z h' g e' q;obtain ⟨xs,h1,e1,e2⟩:=yi e';obtain ⟨y,h2,e3,e4⟩:=yi e2;refine a W0 W Y Z _ xs h1 g e1 fun vs W1 w1 l1 r1=>?_
 subst w1;intro x dx hx hd hne;rw [append_nil];have a1:Le K W1 (ygv W1 dx (.own x)):=ycL l1.ok hd;have hx1:(ygv W1 dx (.own x)).H x=none:=(yK hne.symm).trans hx;have a2:Le K (ygv W1 dx (.own x)) (ygv (ygv W1 dx (.own x)) x (.ins (K.A k) dx [])):=ycL a1.ok hx1;obtain ⟨a3,r3⟩:=yDS (d:=.ins k [] []) (a1.trans a2) (l1.ok.out hx) hx ⟨l1.ok.ff hx,dx,[],yE,rfl,rfl⟩;refine ⟨⟨W1.F,upd (upd W1.H dx (.own x)) x (.ins (K.A k) dx []),W1.m++[x],W1.h++[Nd.ins k [] []]⟩,.loc W1.h.length::xs,y,h2,rfl,a3.ok,⟨_,_,rfl,r3,a3.repL r1⟩,by rw [length_cons,hn _ _ _ _ e1],e3,fun v W' w' l' r'=>?_⟩;split at e4
 .cases e4;exact ⟨r',q (.ref x) W' w' (l1.trans (a3.trans l')) (l'.rep r3)⟩
 .cases e4
noncomputable def yEX:List V->Hp->VK->Prop:=fun xs H Q=>∃ (p:Addr) (bs:List Bool),xs=[.ref p]/\H p=some (.lst (bs.map V.bl))/\Q (.bl (bs.any id)) H
def yur:List PV->AH->Option (PV×AH):=fun xs h=>match xs with|[x]=>(match ybH x h with|some ys=>(match yjG ys with|some ns=>some (.bl (ns.any id),h)|none=>none)|none=>none)|_=>none
def yAV:yhz K yEX yur:=by
 intro W xs vs Q z h' w r e q;unfold yur at e;split at e
 .split at e
  .rename_i ys hy;split at e
   .rename_i ns hn;cases e;obtain ⟨v,rfl,rx⟩:=ync r;obtain ⟨a,us,rfl,hs,rs⟩:=yX w hy rx;have:=yhB hn rs;subst this;exact ⟨a,ns,rfl,hs,q _ W rfl (.refl w) rfl⟩
   .cases e
  .cases e
 .cases e
def yno (n:Nat) (e:XE) (inn:PV->PSt):Nat->Nat->AH->Option (List PV×AH)
 | 0,i,h=>match h[n]? with|some (.lst xs)=>if xs.length=i then some ([],h) else none|_=>none
 | k+1,i,h=>match h[n]? with
  | some (.lst xs)=>(match xs[i]? with|some x=>ob (e (inn x) h) fun y h1=>ob (yno n e inn k (i+1) h1) fun ys h2=>some (y::ys,h2)|none=>none)
  | _=>none
def ydu (e:XE) (ix:List Nat) (el:XE):XO:=fun Y h=>ob (e Y h) fun x h1=>match x with
 | .loc n=>(match h1[n]? with|some (.lst xs)=>if xs.length<=10000 then ob (yno n el (yfS ix Y) xs.length 0 h1) fun ys h2=>some (.lst ys,h2) else none|_=>none)
 | _=>none
def ylF {ta tb:TE}(ix:List Nat) (a:ybR K ta ea) (b:ybR K tb eb):ymn K (ype (ysW K.K ta) ix tb) (ydu ea ix eb):=by
 intro W0 W Y Z Q d h' gd e q;obtain ⟨x,h1,e1,f1⟩:=yi e;refine a W0 W Y Z _ x h1 gd e1 fun v W1 w1 l1 r1=>?_
 subst w1;split at f1
 .rename_i n;split at f1
  .rename_i xs hn;split at f1
   .rename_i hlen;obtain ⟨zs,h2,e2,f2⟩:=yi f1;cases f2;obtain ⟨p,ev,hm,hf,us,hp,rs⟩:=l1.ok.loc hn r1;refine ⟨p,ev,⟨us,SqL.of hp⟩,fun D hD=>?_⟩;have nm:=l1.ok.out hD;have nf:=l1.ok.ff hD;refine ⟨fun i m H=>m=xs.length-i/\i<=xs.length/\∃ W' acc done rest,W'.H=H/\Le K W1 W'/\D∉W'.m/\W'.F D=none/\H D=some (.lst acc)/\ycE K W' done acc/\done.length=i/\zs=done++rest/\yno n eb (yfS ix Y) (xs.length-i) i W'.h=some (rest,h'),⟨_,rfl,zero_le _,ygv W1 D (.lst []),[],[],zs,rfl,ycL l1.ok hD,nm,nf,yE,rfl,rfl,rfl,e2⟩,?_⟩;rintro i m _ ⟨rfl,hi,W',acc,done,rest,rfl,l,n1,n2,hd,rd,ld,ez,f⟩;have hm':W'.m[n]?=some p:=yem l.pre hm
    by_cases hlt:i<xs.length
    .obtain ⟨k,hk⟩:∃ k,xs.length-i=k+1:=⟨xs.length-i-1,by omega⟩
     rw [hk] at f;unfold yno at f;split at f
     .rename_i ys hy;split at f
      .rename_i z hz;obtain ⟨p',ev',hm2,hf',vs,hp',rs'⟩:=l.ok.loc hy (v:=.ref p) ⟨p,rfl,hm'⟩;cases ev';obtain ⟨y,h3,k1,f3⟩:=yi f;obtain ⟨ys',h4,k2,f4⟩:=yi f3;cases f4;obtain ⟨vz,hv1,hv2⟩:=rs'.get hz;refine .inr ⟨⟨vs,vz,SqL.of hp',hv1⟩,fun v H2 hy=>?_⟩;obtain ⟨rfl,hx⟩:=hy;have hx:=hx vs (SqL.of hp');rw [hv1] at hx;cases hx;refine b W' W' _ _ _ y h3 (yjF gd (l1.trans l) ix hv2) k1 fun w W2 w2 l2 r2=>?_
       have nm2:D∉W2.m:=fun z=>by rw [l2.mn D z n1] at hd;cases hd
       have nf2:W2.F D=none:=l2.new D _ hd n1 n2;refine ⟨acc,l2.keep _ _ hd n1,?_,xs.length-(i+1),by omega,rfl,hlt,ysL W2 D (.lst (acc++[w])),acc++[w],done++[y],ys',rfl,yjE (l.trans l2) nm2 nf2 hD,nm2,nf2,yE,(l2.repL rd).snoc r2,by simp [ld],by simp [ez],?_⟩
       .rw [rd.len,ld];exact big (by omega)
       .show yno n eb (yfS ix Y) (xs.length-(i+1)) (i+1) W2.h=some (ys',h');rw [w2,show xs.length-(i+1)=k by omega];exact k2
      .cases f
     .cases f
    .have ei:i=xs.length:=by omega
     subst ei;rw [sub_self] at f;unfold yno at f;split at f
     .rename_i ys hy;obtain ⟨p',ev',hm2,hf',vs,hp',rs'⟩:=l.ok.loc hy (v:=.ref p) ⟨p,rfl,hm'⟩;cases ev';split at f
      .rename_i hyl;cases f;refine .inl ⟨⟨vs,SqL.of hp',by rw [rs'.len,hyl];exact Nat.le_refl _⟩,?_⟩;rw [append_nil] at ez;subst ez;exact q D W' rfl (l1.trans l) n1 (l1.fresh hD) (fun z=>by cases z) ⟨n2,acc,hd,rd⟩
      .cases f
     .cases f
   .cases f1
  .cases f1
 .cases f1
end PX
namespace PX
open PySem L2
variable {K:Ck}
def yjb (e:XE) (ix:List Nat) (el:XE):XO:=fun Y h=>ob (e Y h) fun x h1=>match x with
 | .loc n=>(match h1[n]? with|some (.dct ks xs)=>if ks.length<=10000 then ob (yiS el (yfS ix Y) (ks.map yjV) (h1.set n (.fz ks xs))) fun ys h2=>some (.lst ys,h2.set n (.dct ks xs)) else none|_=>none)
 | _=>none
def yvY (NF:Addr->Prop) (te:TE) (ix:List Nat) (tb:TE):TE:=fun Z H Q=>ype (yAR NF te) ix tb Z H fun v H'=>∃ a ob kvs,NF a/\H' a=some (.frz ob (.dK kvs))/\Q v (upd H' a (.dK kvs))
def yru {NF:Addr->Prop}{ta tb:TE}(ix:List Nat) (a:ybR K ta ea) (b:ybR K tb eb):ymn K (yvY NF ta ix tb) (yjb ea ix eb):=by
 intro W0 W Y Z Q d h' gd e q;obtain ⟨x,h1,e1,f1⟩:=yi e;refine a W0 W Y Z _ x h1 gd e1 fun v W1 w1 l1 r1=>?_
 subst w1;split at f1
 .rename_i n;split at f1
  .rename_i ks xs hn;split at f1
   .rename_i hlen;obtain ⟨zs,h2,e2,f2⟩:=yi f1;cases f2;have hz:=yna e2;rw [length_map] at hz;obtain ⟨p,ev,hm,hf,us,hp,hl,rs⟩:=l1.ok.loc hn r1;have hzl:(ks.zip us).length=ks.length:=by rw [length_zip,hl,Nat.min_self]
    refine ⟨p,ks.zip us,ev,hp,fun ob nf=>?_⟩;have lf:Le K W1 (ymr W1 n p (.frz ob (.dK (ks.zip us))) (.fz ks xs)):=yeM l1.ok hn hm hf ⟨hf,ob,us,yE,hl,rs⟩;have hnl:n<W1.h.length:=(List.getElem?_eq_some_iff.mp hn).1;have still:∀ W',Lf K (ymr W1 n p (.frz ob (.dK (ks.zip us))) (.fz ks xs)) W'->W'.h[n]?=some (.fz ks xs)/\W'.H p=some (.frz ob (.dK (ks.zip us))):=fun W' l=>by obtain ⟨z1,z2⟩:=l.fz n ks xs (getElem?_set_self hnl);exact ⟨z1,(z2 p hm).trans yE⟩
    have l2:=l1.trans lf;generalize hW2:ymr W1 n p (.frz ob (.dK (ks.zip us))) (.fz ks xs)=W2 at *;have hW2h:W2.h=W1.h.set n (.fz ks xs):=by rw [<- hW2];rfl
    have hW2H:W2.H=upd W1.H p (.frz ob (.dK (ks.zip us))):=by rw [<- hW2];rfl
    have hW2m:W2.m=W1.m:=by rw [<- hW2];rfl
    rw [<- hW2h] at e2;rw [<- hW2H];intro D hD;have nm:=lf.ok.out hD;have nf2:=lf.ok.ff hD;refine ⟨fun i m H=>m=ks.length-i/\i<=ks.length/\∃ W' acc done rest,W'.H=H/\Le K W2 W'/\D∉W'.m/\W'.F D=none/\H D=some (.lst acc)/\ycE K W' done acc/\done.length=i/\zs=done++rest/\yiS eb (yfS ix Y) ((ks.map yjV).drop i) W'.h=some (rest,h2),⟨_,rfl,zero_le _,ygv W2 D (.lst []),[],[],zs,rfl,ycL lf.ok hD,nm,nf2,yE,rfl,rfl,rfl,by rw [List.drop_zero];exact e2⟩,?_⟩;rintro i m _ ⟨rfl,hi,W',acc,done,rest,rfl,l,n1,n2,hd,rd,ld,ez,f⟩;obtain ⟨z1,z2⟩:=still W' l.lf
    by_cases hlt:i<ks.length
    .have hlt':i<(ks.map yjV).length:=by rw [length_map];exact hlt
     rw [List.drop_eq_getElem_cons hlt'] at f;obtain ⟨y,h3,k1,f3⟩:=yi f;obtain ⟨ys,h4,k2,f4⟩:=yi f3;cases f4;refine .inr ⟨⟨by rw [hzl];exact hlt,z2⟩,fun v H2 hy=>?_⟩;obtain ⟨rfl,kv,y1,rfl⟩:=hy;obtain ⟨y4,y5⟩:=List.getElem?_eq_some_iff.mp y1;have ek:(ks.map yjV)[i]=yjV kv.1:=by rw [List.getElem_map,<- y5,List.getElem_zip]
     rw [ek] at k1;refine b W' W' _ _ _ y h3 (yjF gd (l2.trans l) ix (yrn kv.1)) k1 fun w W3 w3 l3 r3=>?_
     have nm3:D∉W3.m:=fun z=>by rw [l3.mn D z n1] at hd;cases hd
     have nf3:W3.F D=none:=l3.new D _ hd n1 n2;refine ⟨acc,l3.keep _ _ hd n1,?_,ks.length-(i+1),by omega,rfl,hlt,ysL W3 D (.lst (acc++[w])),acc++[w],done++[y],ys,rfl,yjE (l.trans l3) nm3 nf3 hD,nm3,nf3,yE,(l3.repL rd).snoc r3,by simp [ld],by simp [ez],?_⟩
     .rw [rd.len,ld];exact big (by omega)
     .show yiS eb (yfS ix Y) ((ks.map yjV).drop (i+1)) W3.h=some (ys,h2);rw [w3];exact k2
    .have ei:i=ks.length:=by omega
     subst ei;rw [List.drop_of_length_le (by rw [length_map];exact Nat.le_refl _)] at f;cases f;refine .inl ⟨⟨hzl.symm,z2⟩,p,ob,ks.zip us,nf,z2,?_⟩;rw [append_nil] at ez;subst ez;have hm':W'.m[n]?=some p:=yem l.pre (by rw [hW2m];exact hm);obtain ⟨z3,_⟩:=l.ok.at_ n _ p z1 hm';have at':NdAt K W'.F (upd W'.H p (.dK (ks.zip us))) W'.m (.dct ks xs) p:=⟨z3,us,yE,hl,RepL.mono (lf.fs.trans l.fs) (lf.pre.trans l.pre) _ _ rs⟩
     have nW:=yAS l1 hn (fun _ _ z=>by cases z);have hDp:D≠p:=fun z=>by subst z;exact n1 (mem_of_getElem? hm')
     refine q D (ymr W' n p (.dK (ks.zip us)) (.dct ks xs)) rfl (yxT (l2.trans l) z1 hm' z3 at' nW) n1 (l2.fresh hD) (fun z=>by cases z) ⟨n2,acc,(yK hDp).trans hd,rd⟩
   .cases f1
  .cases f1
 .cases f1
end PX
namespace L2
open PySem PySem.Spec PyProof.Rows PX
def PTs (X:Cx) (cs:List Expr) (t:TT):Prop :=
 ∀ (pins:List (Addr×Obj)) (s:Shared) (Z:St) (H:Hp) (Q:Bool->Hp->Prop),Inv X pins Z H s->t Z H Q->wpAny (model X.prog X.w) X.A (forIn cs true fun c r=>if r=true then do let ok <- isTrue c X.env (eval c X.env);pure (ForInStep.yield ok) else pure (ForInStep.yield r)) (TP X pins Z Q) X.xe s
def yCr:TT:=fun _ H Q=>Q true H
def PTs.nil:PTs X [] yCr:=fun p s Z H Q I q=>wpAny_tests_nil ⟨H,I,q⟩
def yrv:yja wi ix yCr te=ype wi ix te:=rfl
def yxX (h:PE X e (yja wi ix yCr te)):PE X e (ype wi ix te):=yrv ▸ h
def yAW (h:PS X e (yvu (yja wi ix yCr te) g)):PS X e (yvu (ype wi ix te) g):=yrv ▸ h
def ylG {X:Cx}{elt iter:Expr}{cs:List Expr}{tc:TT}{x:Str}{px:Pos}{scope:Scope}{cpos:Pos}{wi:TI}{te:TE}(ix:List Nat) (fr:List Str) (hc:X.calm=true) (hi:PI X (.Name x px) iter wi) (hfr:FrOk X scope ix fr)
  (he:∀ (cl:List (Str×Addr)) (C:Addr) (s₃:Shared) (H₃:Hp) (fp:List Addr) (pins:List (Addr×Obj)),PE (cxC X scope cl C (x::fr) s₃ H₃ fp pins) elt te)
  (hq:∀ (cl:List (Str×Addr)) (C:Addr) (s₃:Shared) (H₃:Hp) (fp:List Addr) (pins:List (Addr×Obj)),PTs (cxC X scope cl C (x::fr) s₃ H₃ fp pins) cs tc)
  (hnd:(x::fr).Nodup) (hkind:scope.kind=.function) (hcell:∀ y∈scope.names,y.2≠.cell)
  (hnames:∀ y∈scope.names,y.2=.local->scope.names.lookup y.1=some .local) (hfree0:∀ y∈scope.names,y.2=.free->y.1∈fr) (hx:scope.names.lookup x=some .local)
  (hs:∀ v,foldedSetIterable iter X.env v=pure v)
  {pins:List (Addr×Obj)}{s:Shared}{Z:St}{H:Hp}{Qf:VK}{use:Option (Value->Sem Unit)}{QQ:Value->Shared->Prop}{p2:Pos}(I:Inv X pins Z H s) (h:yja wi ix tc te Z H Qf)
  (fin0:∀ {cl:List (Str×Addr)}{C:Addr}{s3:Shared}{H3:Hp}{fp:List Addr},Inv X pins Z H3 s3->(∀ b∈fp,ypO X pins H3 b)->s3.heap.objs.size=C->∀ {D:Addr}{Z':St}{H':Hp}{s':Shared},Inv (cxC X scope cl C (x::fr) s3 H3 fp pins) [] Z' H' s'->Qf (.ref D) H'->compPost (model X.prog X.w) X.A X.xe use QQ (.ref D) C (.ok .next) s') :
  wpAny (model X.prog X.w) X.A (comprehension (.ListComp elt [⟨.Name x px,iter,cs,0⟩] scope cpos) scope X.env p2 (newList []) false (eval iter X.env) use) QQ X.xe s:=by
 have hfn:X.env.scope.kind=.function:=I.ok.kind;have hfree:∀ y∈scope.names,y.2=.free->X.env.kindOf y.1=some .cell/\scope.names.lookup y.1=some .free:=fun y hy e=>by obtain ⟨j,hj,ej⟩:=getElem_of_mem (hfree0 y hy e);obtain ⟨i,_,_,h3,h4⟩:=hfr.get (j:=j) (y:=y.1) (by rw [List.getElem?_eq_getElem hj,ej]);exact ⟨h4,h3⟩
 obtain ⟨cl,ecl,hcl1,hcl2⟩:=yeK (env:=X.env) scope.names [] fun n hn=>I.ok.has n (.inl (hfree _ hn rfl).1)
 have hclos:closureFor scope X.env=pure cl:=by
  unfold closureFor;have:(forIn scope.names ([]:List (Str×Addr)) (fun (x:Str×NameKind) (r:List (Str×Addr))=>if (x.2 == NameKind.free)=true then do let c <- cellOf X.env x.1;pure (ForInStep.yield ((x.1,c)::r)) else pure (ForInStep.yield r)):Sem (List (Str×Addr)))=pure cl:=ecl
  first
   | exact (by simpa using congrArg (· >>= fun r=>pure r) this)
   | (rw [show (pure cl:Sem (List (Str×Addr)))=(pure cl >>= fun r=>pure r) from rfl,<- this];rfl)
 have hcle:∀ y c,cl.lookup y=some c->X.env.cells.lookup y=some c/\(y,NameKind.free)∈scope.names:=fun y c e=>by
  by_cases hy:(y,NameKind.free)∈scope.names
  .exact ⟨by rw [<- hcl1 y hy];exact e,hy⟩
  .rw [hcl2 y hy] at e;simp at e
 refine wpAny_comprehension_free rfl hs hclos hkind hnames ?_;refine thn (hi pins s Z H _ I h) fun v s1 h1=>thn h1 fun itv s2 h2=>?_
 obtain ⟨it,fp,tn,J,H2,e,I2,T,st2,f2,q2⟩:=h2;subst e;refine wpAny_newObj_type ?_;generalize hs3:({ s2 with heap:=s2.heap.push { cls:=.type "list",dict:=none,data:=.seq ([]:List Value).toArray } }:Shared)=s3;generalize hD:s2.heap.objs.size=D;have hDn:H2 D=none:=by rw [<- hD];exact I2.hok.fresh (Nat.le_refl _)
 have I3:Inv X pins Z (upd H2 D (.lst [])) s3:=by rw [<- hs3,<- hD];exact I2.lnew (t':=s2.toks) (ys:=[]) (its:=[]) .nil (zero_le _)
 have k3:∀ b o,s2.heap.get? b=some o->s3.heap.get? b=some o:=fun b o e=>by rw [<- hs3];exact Heap.get?_push_of_some _ e
 have st3:tn 0 s3.heap:=T.keep _ _ _ st2 fun b _ o e=>k3 b o e
 have fne:∀ b∈fp,b≠D:=fun b hb=>by obtain ⟨o,e,_⟩:=T.obj _ _ st2 b hb;rw [<- hD];exact ne_of_lt (Heap.lt_size e)
 have f3:∀ b∈fp,ypO X pins (upd H2 D (.lst [])) b:=fun b hb=>⟨by rw [yK (fne b hb)];exact (f2 b hb).1,(f2 b hb).2⟩
 have q3:=q2 D hDn;generalize upd H2 D (.lst [])=H3 at I3 f3 q3;obtain ⟨W,⟨m0,w0⟩,turn⟩:=q3;refine wpAny_newFunctionEnv hcell (by intro y hy;simp at hy) (fun h4 hns hsb=>?_) hkind
 try dsimp only at hns hsb ⊢
 generalize hC:s3.heap.objs.size=C at hns hsb ⊢;have k4:∀ b o,s3.heap.get? b=some o->h4.get? b=some o:=fun b o e=>(hsb.2 b (by rw [<- hC];exact ne_of_lt (Heap.lt_size e))).trans (Heap.get?_push_of_some _ e)
 have Cne:∀ b o,s3.heap.get? b=some o->b≠C:=fun b o e=>by rw [<- hC];exact ne_of_lt (Heap.lt_size e)
 have stk:=I3.stkSub;have pinF:∀ p∈X.pn++pins,p.1∉frs X.stack:=fun p hp z=>by
  obtain ⟨_,_,n1,n2,_⟩:=I3.pin p hp;rcases mem_cons.mp (stk _ z) with z|z
  .exact n1 z
  .exact n2 z
 have okC:(cxC X scope cl C (x::fr) s3 H3 fp pins).Ok:=by
  refine ⟨I3.ok.mod,by show (relabel scope X.env).kind=_;exact hkind,I3.ok.glob,I3.ok.blt,le_of_eq hC,fun y z c h1 h2=>I3.ok.inj y z c (hcle y c h1).1 (hcle z c h2).1,fun y hy=>?_,fun y c hf _=>(by cases hf),I3.ok.hd,I3.ok.frames,.inl rfl,fun b hb=>⟨?_,fun y c e z=>?_⟩,I3.bs,?_,fun b o e hb=>?_,fun b hb z=>?_,I3.stack,I3.stkFree⟩
  .have hy:((relabel scope X.env).names.lookup y=some .cell)\/((relabel scope X.env).names.lookup y=some .free):=hy;rw [show (relabel scope X.env).names.lookup y=_ from ydY y scope.names] at hy;cases e:scope.names.lookup y with
   | none=>rw [e] at hy;simp at hy
   | some k =>
    have hm:(y,k)∈scope.names:=PySem.mem_of_lookup e;have hkf:k=.free:=by rw [e] at hy;cases k<;>simp at hy ⊢;exact absurd rfl (hcell _ hm)
    subst hkf;obtain ⟨c,hc'⟩:=I3.ok.has y (.inl (hfree _ hm rfl).1);exact ⟨c,by show cl.lookup y=_;rw [hcl1 y hm];exact hc'⟩
  .obtain ⟨o,e,_⟩:=T.obj _ _ st3 b hb;exact Cne b o e
  .exact (f3 b hb).2.2.2.2.1 y c (hcle y c e).1 z
  .exact Nat.le_trans I3.ok.bsz I3.sz
  .rcases (f3 b hb).2.2.2.1 with z|z
   .exact I3.ok.noex b o e z
   .exact absurd (lt_of_lt_of_le (Heap.lt_size e) (Nat.le_trans I3.ok.bsz z)) (lt_irrefl _)
  .rcases mem_cons.mp (stk _ z) with z|z
   .exact (f3 b hb).2.1 z
   .exact (f3 b hb).2.2.1 z
 have inn:∀ v,(inner ix Z v)=some v::ix.map fun i=>(Z[i]?).getD none:=fun _=>rfl
 have I4:Inv (cxC X scope cl C (x::fr) s3 H3 fp pins) [] (none::ix.map fun i=>(Z[i]?).getD none) H3 { s3 with heap:=h4,toks:=s3.toks+([]:List (Str×Value)).length }:=by
  refine ⟨okC,rfl,I3.bare,Un.kept k4,⟨_,hns,fun j y v e1 e2 e3=>?_⟩,fun y c e=>?_,I3.hok.fresh (le_of_eq hC),fun y c e=>I3.freeC y c (hcle y c e).1,fun p hp=>?_,I3.hok.kept k4,?_⟩
  .match j,e1,e2 with
   | 0,e1,e2=>simp at e2
   | j+1,e1,e2 =>
    obtain ⟨i,hi1,hi2,hi3,hi4⟩:=hfr.get (j:=j) (y:=y) (by have e1':(x::fr)[j+1]?=some y:=e1;simpa using e1');have e2':Z[i]?=some (some v):=by
     have e2:(ix.map fun i=>(Z[i]?).getD none)[j]?=some (some v):=by simpa using e2
     rw [getElem?_map,hi1] at e2;simp at e2;cases z:Z[i]? with
     | none=>rw [z] at e2;simp at e2
     | some o=>rw [z] at e2;simp at e2;rw [e2]
    obtain ⟨m,_,hl⟩:=I3.loc;obtain ⟨u,r,l⟩:=hl i y v hi2 e2' (.inr (.inl hi4));refine ⟨u,r,?_⟩;rcases l with ⟨k,_⟩|⟨k,c,ec,z⟩
    .rw [hi4] at k;cases k
    .have hm:(y,NameKind.free)∈scope.names:=PySem.mem_of_lookup hi3;refine .inr ⟨.inl ?_,c,by show cl.lookup y=_;rw [hcl1 y hm];exact ec,?_⟩
     .show (relabel scope X.env).names.lookup y=_;rw [show (relabel scope X.env).names.lookup y=_ from ydY y scope.names,hi3];simp [hfn,hi4]
     .obtain ⟨o,ho,hd⟩:=z;exact ⟨o,k4 _ _ ho,hd⟩
  .obtain ⟨v,o,ho,hd⟩:=I3.cell y c (hcle y c e).1;exact ⟨v,o,k4 _ _ ho,hd⟩
  .have hp:p∈X.pn++pins:=by simpa [cxC] using hp
   obtain ⟨e,n,ne,nf,d⟩:=I3.pin p hp;exact ⟨k4 _ _ e,n,Cne _ _ e,pinF p hp,d⟩
  .show (none::ix.map fun i=>(Z[i]?).getD none).length=(x::fr).length;rw [length_cons,length_cons,length_map,hfr.len]
 have st4:tn 0 h4:=T.keep _ _ _ st3 fun b _ o e=>k4 b o e
 have f4:∀ b∈fp,b≠C/\b∉frs X.stack/\(∀ y c,cl.lookup y=some c->c≠b)/\∀ p∈(X.pn++pins)++([]:List (Addr×Obj)),p.1≠b:=fun b hb=>by
  obtain ⟨o,e,_⟩:=T.obj _ _ st3 b hb;refine ⟨Cne b o e,fun z=>?_,fun y c e=>(f3 b hb).2.2.2.2.1 y c (hcle y c e).1,fun p hp=>(f3 b hb).2.2.2.2.2 p (by simpa using hp)⟩;rcases mem_cons.mp (stk _ z) with z|z
  .exact (f3 b hb).2.1 z
  .exact (f3 b hb).2.2.1 z
 have stat:∀ {H':Hp},(∀ b∈fp,H' b=none)->∀ b∈fp,ypO (cxC X scope cl C (x::fr) s3 H3 fp pins) [] H' b:=fun hn b hb=>⟨hn b hb,(f4 b hb).1,(f4 b hb).2.1,.inl hb,(f4 b hb).2.2.1,(f4 b hb).2.2.2⟩
 have loop:∀ s5:Shared,s5={ s3 with heap:=h4,toks:=s3.toks+([]:List (Str×Value)).length } ->
   codeAny (model X.prog X.w) X.A (.compLoop (.ListComp elt [⟨.Name x px,iter,cs,0⟩] scope cpos) 0 (.ref it) (.ref D) (compEnvC scope cl C X.env)) (compPost (model X.prog X.w) X.A X.xe use QQ (.ref D) C) s5:=by
  rintro s5 rfl;refine codeAny_loop rfl (fun n s'=>∃ i o H',Inv (cxC X scope cl C (x::fr) s3 H3 fp pins) [] (o::ix.map fun i=>(Z[i]?).getD none) H' s'/\tn i s'.heap/\(∀ b∈fp,H' b=none)/\W i n H') ?_ m0 ⟨0,none,H3,I4,st4,fun b hb=>(f3 b hb).1,w0⟩;rintro n s6 ⟨i,o,H6,I6,st6,fr6,w6⟩;show wpAny _ _ ((compTurn (.ListComp elt [⟨.Name x px,iter,cs,0⟩] scope cpos) 0 (.ref it) (.ref D) (compEnvC scope cl C X.env)).onRaise (fun x=>do noteFrame x (compEnvC scope cl C X.env);theTreesLotGoes x)) _ _ s6;refine wpAny_noted ?_;rw [compTurn_list];rcases turn i n H6 w6 with ⟨stop,qn⟩|⟨go,step⟩
  .refine wpAny_bind (wpAny_standAt (wpAny_bind (thn (T.done (cxC X scope cl C (x::fr) s3 H3 fp pins) rfl rfl rfl hc i [] s6 _ H6 _ I6 (stat fr6) st6 stop) fun r s7 ⟨hr,I7⟩=>?_)));subst hr;exact wpAny_pure (fin0 I3 f3 hC I7 qn)
  .refine wpAny_bind (wpAny_standAt (wpAny_bind (thn (T.item (cxC X scope cl C (x::fr) s3 H3 fp pins) rfl rfl rfl hc i [] s6 _ H6 _ I6 (stat fr6) st6 go) fun r s7 ⟨u,hr,h7⟩=>?_)));subst hr;refine wpAny_bind (thn h7 fun _ s8 ⟨y,H8,I8,r8,y8,st8,fr8⟩=>?_);have I8':=I8.pinned (stat fr8) (T.obj _ _ st8);have hx':Loc (cxC X scope cl C (x::fr) s3 H3 fp pins).env.scope x:=.inl (lookup_relabel_local hx);refine wpAny_bind (wpAny_mono (ymx (X:=cxC X scope cl C (x::fr) s3 H3 fp pins) (i:=0) (x:=x) (pos:=px) hnd rfl hx' (.inr (lookup_relabel_local hx)) _ s8 _ H8 y u (fun Z9 H9=>Z9=inner ix Z y/\H9=H8) I8' r8 ⟨rfl,rfl⟩) (fun _ s9 ⟨Z9,H9,I9,e9,e9'⟩=>?_) fun _ _ f=>f.elim);subst e9 e9';refine wpAny_bind (wpAny_mono (hq cl C s3 H3 fp pins _ s9 _ _ _ I9 (step y _ y8)) (fun kb s9b hkb=>?_) fun _ _ f=>f.elim);obtain ⟨H9b,I9b,q9b⟩:=hkb;cases kb with
   | false =>
    rw [if_neg (by decide)] at q9b;obtain ⟨m',hm',w10⟩:=q9b;refine wpAny_pure ⟨rfl,m',hm',i+1,some y,_,I9b.unpinned,T.keep _ _ _ st8 fun b hb o e=>(I9b.pin (b,o) (mem_append_right _ (mem_append_right _ (ycU hb e)))).1,fun b hb=>?_,w10⟩;obtain ⟨o,e,d⟩:=T.obj _ _ st8 b hb;exact (I9b.pin (b,o) (mem_append_right _ (mem_append_right _ (ycU hb e)))).2.1
   | true =>
   rw [if_pos rfl] at q9b;refine wpAny_bind (wpAny_bind (wpAny_mono (he cl C s3 H3 fp pins _ s9b _ _ _ I9b q9b) (fun v s10 ⟨z,H10,I10,r10,acc,a10,l10,m',hm',w10⟩=>?_) fun _ _ f=>f.elim));refine wpAny_bind (wpAny_mono (ycK (X:=cxC X scope cl C (x::fr) s3 H3 fp pins) _ s10 _ H10 (.ref D) [z] (.ref D) [v] (fun _ H11=>H11=upd H10 D (.lst (acc++[z]))) I10 rfl (.cons r10 .nil) ⟨D,acc,z,rfl,rfl,a10,l10,rfl⟩) (fun _ s11 ⟨_,H11,I11,_,e11⟩=>?_) fun _ _ f=>f.elim);subst e11;refine wpAny_pure (wpAny_pure ⟨rfl,m',hm',i+1,some y,_,I11.unpinned,T.keep _ _ _ st8 fun b hb o e=>(I11.pin (b,o) (mem_append_right _ (mem_append_right _ (ycU hb e)))).1,fun b hb=>?_,w10⟩);obtain ⟨o,e,d⟩:=T.obj _ _ st8 b hb;exact (I11.pin (b,o) (mem_append_right _ (mem_append_right _ (ycU hb e)))).2.1
 exact codeAny_compStart_list (loop _ rfl) (T.self X.A 0 _ _ _ st4 (loop _ rfl))
def yjX {X:Cx}(ix:List Nat) (fr:List Str) (hc:X.calm=true) (hi:PI X (.Name x px) iter wi) (hfr:FrOk X scope ix fr)
  (he:∀ (cl:List (Str×Addr)) (C:Addr) (s₃:Shared) (H₃:Hp) (fp:List Addr) (pins:List (Addr×Obj)),PE (cxC X scope cl C (x::fr) s₃ H₃ fp pins) elt te)
  (hq:∀ (cl:List (Str×Addr)) (C:Addr) (s₃:Shared) (H₃:Hp) (fp:List Addr) (pins:List (Addr×Obj)),PTs (cxC X scope cl C (x::fr) s₃ H₃ fp pins) cs tc)
  (hnd:(x::fr).Nodup) (hkind:scope.kind=.function) (hcell:∀ y∈scope.names,y.2≠.cell)
  (hnames:∀ y∈scope.names,y.2=.local->scope.names.lookup y.1=some .local) (hfree0:∀ y∈scope.names,y.2=.free->y.1∈fr) (hx:scope.names.lookup x=some .local)
  (hs:∀ v,foldedSetIterable iter X.env v=pure v):PE X (.ListComp elt [⟨.Name x px,iter,cs,0⟩] scope cpos) (yja wi ix tc te):=by
 intro pins s Z H Q I h;rw [eval_ListComp];refine ylG (use:=none) (QQ:=EP X pins Z Q) (Qf:=Q) ix fr hc hi hfr he hq hnd hkind hcell hnames hfree0 hx hs I h (fun {cl C s3 H3 fp} I3 f3 hC {D Z' H' s'} I' q'=>?_);have Cne:∀ b o,s3.heap.get? b=some o->b≠C:=fun b o e=>by rw [<- hC];exact ne_of_lt (Heap.lt_size e)
 obtain ⟨m,hn,_⟩:=I'.loc;refine ⟨m,hn,fun h' sb=>⟨.ref D,H',?_,rfl,q'⟩⟩;have hCn:H' C=none:=I'.free;have same:∀ b,b≠C->h'.get? b=s'.heap.get? b:=fun b hb=>sb.2 b hb
 have U:=I'.base;have U':Un (frs X.stack) fp H3 H' s3.heap h':=by
  refine ⟨fun b o e n h1 h2=>?_,fun b o e n h1 h2=>?_,U.free,fun b o e h2=>?_,U.tups,U.frzs,U.tbls⟩
  .rw [same b (Cne b o e)];exact U.keep b o e n h1 h2
  .rw [same b (Cne b o e)];exact U.slot b o e n h1 h2
  .rw [same b (Cne b o e)];exact U.there b o e h2
 refine I3.call' (s':={ s' with heap:=h' }) (by show s'.os=s3.os;exact I'.os) U' ?_ I'.bare fun b hb=>⟨(f3 b hb).2.2.2.1,(f3 b hb).2.1,(f3 b hb).2.2.2.2.1,(f3 b hb).2.2.2.2.2⟩
 intro b ob e;refine (I'.hok b ob e).stay (fun c w' hc q=>?_) (fun _ q=>q) fun _ _ q=>q
 show h'.get? c=_;rw [same c ?_]
 .exact q
 rintro rfl;rcases hc with rfl|hc
 .rw [hCn] at e;cases e
 .rw [hCn] at hc;cases hc
def yov {py spos:Pos}{X:Cx}(ix:List Nat) (fr:List Str) (hc:X.calm=true) (hi:PI X (.Name x px) iter wi) (hfr:FrOk X scope ix fr)
  (he:∀ (cl:List (Str×Addr)) (C:Addr) (s₃:Shared) (H₃:Hp) (fp:List Addr) (pins:List (Addr×Obj)),PE (cxC X scope cl C (x::fr) s₃ H₃ fp pins) elt te)
  (hq:∀ (cl:List (Str×Addr)) (C:Addr) (s₃:Shared) (H₃:Hp) (fp:List Addr) (pins:List (Addr×Obj)),PTs (cxC X scope cl C (x::fr) s₃ H₃ fp pins) cs tc)
  (hnd:(x::fr).Nodup) (hkind:scope.kind=.function) (hcell:∀ y∈scope.names,y.2≠.cell)
  (hnames:∀ y∈scope.names,y.2=.local->scope.names.lookup y.1=some .local) (hfree0:∀ y∈scope.names,y.2=.free->y.1∈fr) (hx:scope.names.lookup x=some .local)
  (hs:∀ v,foldedSetIterable iter X.env v=pure v)
  (hN:X.N.Nodup) (hyi:X.N[iy]?=some y) (hyx:Loc X.env.scope y) (hyf:X.fn y=true\/X.env.scope.names.lookup y=some .local) (hsw:swapsWith (.ListComp elt [⟨.Name x px,iter,cs,0⟩] scope cpos) (some (.Name y py)) spos.line X.env=pure true) :
  PS X (.Assign [.Name y py] (.ListComp elt [⟨.Name x px,iter,cs,0⟩] scope cpos) spos) (yvu (yja wi ix tc te) (yoW iy)):=by
 intro pins s Z H D0 I h;rw [exec_Assign_Name_used _ _ _ _ hsw];refine wpAny_bind (wpAny_standAt (wpAny_bind ?_));show wpAny _ X.A (do let _ <- comprehension (.ListComp elt [⟨.Name x px,iter,cs,0⟩] scope cpos) scope X.env _ (newList []) false (eval iter X.env) (some (assign (.Name y py) X.env))) _ _ s;refine wpAny_bind (wpAny_mono (ylG (use:=some (assign (.Name y py) X.env)) (QQ:=fun _ s'=>SP X pins D0 .next s') (Qf:=fun v H'=>yoW iy v Z H' D0.nx) ix fr hc hi hfr he hq hnd hkind hcell hnames hfree0 hx hs I h (fun {cl C s3 H3 fp} I3 f3 hC {D Z' H' s'} I' q'=>?_)) (fun _ s' hq=>wpAny_pure (wpAny_pure hq)) fun _ _ e=>e);obtain ⟨m,hn,_⟩:=I'.loc;have hCn:H' C=none:=I'.free;have U:=I'.base;have U':Un (frs X.stack) fp H3 H' s3.heap s'.heap:=⟨U.keep,U.slot,U.free,U.there,U.tups,U.frzs,U.tbls⟩
 have IX:Inv X pins Z H' s':=I3.call' (s':=s') (by show s'.os=s3.os;exact I'.os) U' I'.hok I'.bare fun b hb=>⟨(f3 b hb).2.2.2.1,(f3 b hb).2.1,(f3 b hb).2.2.2.2.1,(f3 b hb).2.2.2.2.2⟩
 have hCf:ypO X pins H' C:=I3.fpOk (le_of_eq hC) hCn;obtain ⟨o,es,ep,eo,r1,r2,r3⟩:=hn;have IP:=IX.pinned (fp:=[C]) (fun b hb=>by have e:b=C:=(by simpa using hb);subst e;exact hCf) (fun b hb=>by have e:b=C:=(by simpa using hb);subst e;exact ⟨o,eo,fun v z=>by rw [r1] at z;cases z⟩);refine thn (ymx hN hyi hyx hyf _ s' Z H' (.ref D) (.ref D) D0.nx IP rfl q') fun _ s2 ⟨Z2,H2',I2',q2'⟩=>?_
 have pc:=I2'.pin (C,o) (mem_append_right _ (mem_append_right _ (ycU (by simp) eo)));exact ⟨m,⟨o,es,ep,pc.1,r1,r2,r3⟩,fun h' sb=>⟨Z2,H2',I2'.unpinned.turned (t':=s2.toks) (fun b ob hb e=>(sb.2 b hb).trans e) pc.2.1 hCf.2.1 hCf.2.2.2.1 hCf.2.2.2.2.1 hCf.2.2.2.2.2,q2'⟩⟩
end L2
namespace PX
open PySem L2 PySem.Spec PyProof.Rows
section
variable (K:Ck)
noncomputable def cE (x:XE):TE:=fun Z H Q=>∃ (W0 W:Wd) (Y:PSt) (y:PV) (h':AH),W.H=H/\Good K W0 W Y Z/\x Y W.h=some (y,h')/\∀ v W',W'.h=h'->Le K W W'->ycG K W' y v->Q v W'.H
def cO (x:XO):TE:=fun Z H Q=>∃ (W0 W:Wd) (Y:PSt) (d:Nd) (h':AH),W.H=H/\Good K W0 W Y Z/\x Y W.h=some (d,h')/\∀ p W',W'.h=h'->Le K W W'->p∉W'.m->W.H p=none->d≠.dead->NdAt K W'.F W'.H W'.m d p->Q (.ref p) W'.H
noncomputable def cT (x:XT):TT:=fun Z H Q=>∃ (W0 W:Wd) (Y:PSt) (y:Bool) (h':AH),W.H=H/\Good K W0 W Y Z/\x Y W.h=some (y,h')/\∀ W',W'.h=h'->Le K W W'->Q y W'.H
noncomputable def cA (x:XA):TA:=fun Z H Q=>∃ (W0 W:Wd) (Y:PSt) (y:List PV) (h':AH),W.H=H/\Good K W0 W Y Z/\x Y W.h=some (y,h')/\∀ v W',W'.h=h'->Le K W W'->ycE K W' y v->Q v W'.H
noncomputable def cP (x:PSt->AH->Option (Option Int×AH)):TO:=fun Z H Q=>∃ (W0 W:Wd) (Y:PSt) (y:Option Int) (h':AH),W.H=H/\Good K W0 W Y Z/\x Y W.h=some (y,h')/\∀ W',W'.h=h'->Le K W W'->Q y W'.H
noncomputable def cI (x:XA):TI:=fun Z H R=>∃ (W0 W:Wd) (Y:PSt) (y:List PV) (h':AH),W.H=H/\Good K W0 W Y Z/\x Y W.h=some (y,h')/\∀ J W',W'.h=h'->Le K W W'->yCZ K W' J y->R J W'.H
noncomputable def cG (y:XG):TG:=fun v Z H Q=>∃ (W0 W:Wd) (Y Y':PSt) (x:PV),W.H=H/\Good K W0 W Y Z/\ycG K W x v/\y x Y=some Y'/\∀ Z',Good K W0 W Y' Z'->Q Z' W.H
noncomputable def cGs (y:XGs):TGs:=fun v Z H Q=>∃ (W0 W:Wd) (Y Y':PSt) (x:List PV),W.H=H/\Good K W0 W Y Z/\ycE K W x v/\y x Y=some Y'/\∀ Z',Good K W0 W Y' Z'->Q Z' W.H
def cS (s:XS):TS:=fun D Z H=>∃ (W0 W:Wd) (Y:PSt) (o:Out) (h':AH),W.H=H/\Good K W0 W Y Z/\s Y W.h=some (o,h')/\Ends.Ok K W0 W D h' o
noncomputable def cF (s:XS):TS:=fun D Z H=>∃ (W0 W:Wd) (Y Y':PSt) (h':AH),W.H=H/\Good K W0 W Y Z/\s Y W.h=some (.nx Y',h')/\∀ W',W'.h=h'->Lf K W W'->Good K W0 W' Y' Z->D.nx Z W'.H
end
section
variable {K:Ck}
def sE:ybR K (cE K x) x:=fun W0 W Y Z Q y h' g e q=>⟨W0,W,Y,y,h',rfl,g,e,q⟩
def sO:ymn K (cO K x) x:=fun W0 W Y Z Q y h' g e q=>⟨W0,W,Y,y,h',rfl,g,e,q⟩
def sT:ymm K (cT K x) x:=fun W0 W Y Z Q y h' g e q=>⟨W0,W,Y,y,h',rfl,g,e,q⟩
def sA:ylq K (cA K x) x:=fun W0 W Y Z Q y h' g e q=>⟨W0,W,Y,y,h',rfl,g,e,q⟩
def sP {x}:yzg K (cP K x) x:=fun W0 W Y Z Q y h' g e q=>⟨W0,W,Y,y,h',rfl,g,e,q⟩
def sI:yxr K (cI K x) x:=fun W0 W Y Z Q y h' g e q=>⟨W0,W,Y,y,h',rfl,g,e,q⟩
def sG:yqH K (cG K y) y:=fun W0 W Y Y' Z x v Q g r e q=>⟨W0,W,Y,Y',x,rfl,g,r,e,q⟩
def sGs:ypk K (cGs K y) y:=fun W0 W Y Y' Z x v Q g r e q=>⟨W0,W,Y,Y',x,rfl,g,r,e,q⟩
def sS:yfb K (cS K s) s:=fun W0 W Y Z D o h' g e q=>⟨W0,W,Y,o,h',rfl,g,e,q⟩
def sF:ysN K (cF K s) s:=fun W0 W Y Y' Z D h' g e q=>⟨W0,W,Y,Y',h',rfl,g,e,q⟩
end
abbrev ckX (X:Cx) (A:Nat->Addr):Ck:=⟨X.K,A⟩
structure ZE (X:Cx) (A:Nat->Addr) (e:Expr) (x:XE):Prop where of:PE X e (cE (ckX X A) x)
structure ZO (X:Cx) (A:Nat->Addr) (e:Expr) (x:XO):Prop where of:PE X e (cO (ckX X A) x)
structure ZT (X:Cx) (A:Nat->Addr) (e:Expr) (x:XT):Prop where of:PT X e (cT (ckX X A) x)
structure ZW (X:Cx) (A:Nat->Addr) (e:Expr) (x:XT):Prop where of:PW X e (cT (ckX X A) x)
structure ZA (X:Cx) (A:Nat->Addr) (e:List Expr) (n:Nat) (x:XA):Prop where
 of:PA X e (cA (ckX X A) x)
 len:∀ Y h xs h',x Y h=some (xs,h')->xs.length=n
structure ZP (X:Cx) (A:Nat->Addr) (e:Option Expr) (x:PSt->AH->Option (Option Int×AH)):Prop where of:PO X e (cP (ckX X A) x)
structure ZI (X:Cx) (A:Nat->Addr) (tg e:Expr) (x:XA):Prop where of:PI X tg e (cI (ckX X A) x)
structure ZG (X:Cx) (A:Nat->Addr) (e:Expr) (y:XG):Prop where of:PG X e (cG (ckX X A) y)
structure ZGs (X:Cx) (A:Nat->Addr) (e:List Expr) (y:XGs):Prop where of:PGs X e (cGs (ckX X A) y)
structure ZS (X:Cx) (A:Nat->Addr) (e:Stmt) (s:XS):Prop where of:PS X e (cS (ckX X A) s)
structure ZSs (X:Cx) (A:Nat->Addr) (e:List Stmt) (s:XS):Prop where of:PSs X e (cS (ckX X A) s)
structure ZF (X:Cx) (A:Nat->Addr) (e:Stmt) (s:XS):Prop where of:PS X e (cF (ckX X A) s)
structure ZFs (X:Cx) (A:Nat->Addr) (e:List Stmt) (s:XS):Prop where of:PSs X e (cF (ckX X A) s)
section
variable {X:Cx}{A:Nat->Addr}{e:Expr}{es:List Expr}
def wE (p:PE X e t) (s:ybR (ckX X A) t x):ZE X A e x:=⟨fun pins st Z H Q I ⟨W0,W,Y,y,h',eh,g,ex,q⟩=>by subst eh;exact p pins st Z _ Q I (s W0 W Y Z Q y h' g ex q)⟩
def wO (p:PE X e t) (s:ymn (ckX X A) t x):ZO X A e x:=⟨fun pins st Z H Q I ⟨W0,W,Y,y,h',eh,g,ex,q⟩=>by subst eh;exact p pins st Z _ Q I (s W0 W Y Z Q y h' g ex q)⟩
def wT (p:PT X e t) (s:ymm (ckX X A) t x):ZT X A e x:=⟨fun pins st Z H Q I ⟨W0,W,Y,y,h',eh,g,ex,q⟩=>by subst eh;exact p pins st Z _ Q I (s W0 W Y Z Q y h' g ex q)⟩
def wW (p:PW X e t) (s:ymm (ckX X A) t x):ZW X A e x:=⟨fun wh pins st Z H Q I ⟨W0,W,Y,y,h',eh,g,ex,q⟩=>by subst eh;exact p wh pins st Z _ Q I (s W0 W Y Z Q y h' g ex q)⟩
def wA (p:PA X es t) (s:ylq (ckX X A) t x) (l:∀ Y h xs h',x Y h=some (xs,h')->xs.length=n):ZA X A es n x:=⟨fun pos pins st Z H Q I ⟨W0,W,Y,y,h',eh,g,ex,q⟩=>by subst eh;exact p pos pins st Z _ Q I (s W0 W Y Z Q y h' g ex q),l⟩
def wP {x} (p:PO X o t) (s:yzg (ckX X A) t x):ZP X A o x:=⟨fun pins st Z H Q I ⟨W0,W,Y,y,h',eh,g,ex,q⟩=>by subst eh;exact p pins st Z _ Q I (s W0 W Y Z Q y h' g ex q)⟩
def wI {tg:Expr}(p:PI X tg e t) (s:yxr (ckX X A) t x):ZI X A tg e x:=⟨fun pins st Z H Q I ⟨W0,W,Y,y,h',eh,g,ex,q⟩=>by subst eh;exact p pins st Z _ Q I (s W0 W Y Z Q y h' g ex q)⟩
def wG (p:PG X e t) (s:yqH (ckX X A) t y):ZG X A e y:=⟨fun pins st Z H v u Q I rv ⟨W0,W,Y,Y',x,eh,g,r,ex,q⟩=>by subst eh;exact p pins st Z _ v u Q I rv (s W0 W Y Y' Z x v Q g r ex q)⟩
def wGs (p:PGs X es t) (s:ypk (ckX X A) t y):ZGs X A es y:=⟨fun pins st Z H v u Q I rv ⟨W0,W,Y,Y',x,eh,g,r,ex,q⟩=>by subst eh;exact p pins st Z _ v u Q I rv (s W0 W Y Y' Z x v Q g r ex q)⟩
def wS {st:Stmt}{t:TS}{x:XS}(p:PS X st t) (s:yfb (ckX X A) t x):ZS X A st x:=⟨fun pins st Z H D I ⟨W0,W,Y,o,h',eh,g,ex,q⟩=>by subst eh;exact p pins st Z _ D I (s W0 W Y Z D o h' g ex q)⟩
def wSs {st:List Stmt}{t:TS}{x:XS}(p:PSs X st t) (s:yfb (ckX X A) t x):ZSs X A st x:=⟨fun pins st Z H D I ⟨W0,W,Y,o,h',eh,g,ex,q⟩=>by subst eh;exact p pins st Z _ D I (s W0 W Y Z D o h' g ex q)⟩
def wF {st:Stmt}{t:TS}{x:XS}(p:PS X st t) (s:ysN (ckX X A) t x):ZF X A st x:=⟨fun pins st Z H D I ⟨W0,W,Y,Y',h',eh,g,ex,q⟩=>by subst eh;exact p pins st Z _ D I (s W0 W Y Y' Z D h' g ex q)⟩
def wFs {st:List Stmt}{t:TS}{x:XS}(p:PSs X st t) (s:ysN (ckX X A) t x):ZFs X A st x:=⟨fun pins st Z H D I ⟨W0,W,Y,Y',h',eh,g,ex,q⟩=>by subst eh;exact p pins st Z _ D I (s W0 W Y Y' Z D h' g ex q)⟩
end
structure Nm (x:Str):Prop where
 d:(x == ("__debug__":Str))=false
 c:(x == ("__classdict__":Str))=false
 n:x≠"__name__"
section
variable {X:Cx}{A:Nat->Addr}{a b c o:Expr}{es:List Expr}{xa xb xc:XE}{xo:XO}{aa:XA}{pos p apos:Pos}{x:Str}{n k:Nat}
def yiz {j}:ZE X A (.Constant .none j pos) (xC .non):=wE yzu yxa
def ysO {b j}:ZE X A (.Constant (.bool b) j pos) (xC (.bl b)):=wE yCx yAb
def yk {i j}:ZE X A (.Constant (.int i) j pos) (xC (.int i)):=wE yzt yqC
def yI {x j}:ZE X A (.Constant (.str x) j pos) (xC (.str x)):=wE yzv yqD
def z_v {i:Nat}(m:Nm x:=by exact ⟨by rfl',by rfl',by rfl'⟩) (hN:X.N[i]?=some x:=by rfl) (hv:Vis X.env.scope x:=by first|exact Or.inl rfl|exact Or.inr (Or.inl rfl)):ZE X A (.Name x pos) (ye i):=wE (yiL hN hv m.d m.c) (ywZ i)
def yfr {n:Int}(hm:X.mg x=some (.int n t)) (m:Nm x:=by exact ⟨by rfl',by rfl',by rfl'⟩) (hg:Gl X x:=by rfl):ZE X A (.Name x pos) (xC (.int n)):=wE (ywV hg hm m.d) yqC
def ylH {n:Str}(hm:X.mg x=some (.str n t)) (m:Nm x:=by exact ⟨by rfl',by rfl',by rfl'⟩) (hg:Gl X x:=by rfl):ZE X A (.Name x pos) (xC (.str n)):=wE (ywW hg hm m.d) yqD
def yeC {k:Nat}(hm:X.mg x=some (.ref (A k))) (m:Nm x:=by exact ⟨by rfl',by rfl',by rfl'⟩) (hg:Gl X x:=by rfl):ZE X A (.Name x pos) (xC (.cls k)):=wE (ymK hg hm m.d) (yxb (K:=ckX X A))
def yAX {n:String}(hm:X.mg x=none) (m:Nm x:=by exact ⟨by rfl',by rfl',by rfl'⟩) (hg:Gl X x:=by rfl) (hv:bootBuiltins x=some (.type n):=by rfl'):ZE X A (.Name x pos) (xC (.ty n)):=wE (yAa hg hm hv m.n m.d) yAc
def ybV (h:ZO X A a xo):ZE X A a (xFz xo):=wE h.of (yAh sO)
def yep (h:ZO X A a xo):ZE X A a (yfo xo):=wE h.of (ymW sO)
def ybG (ho:OpR X (binaryOp op) r) (hq:ycj (ckX X A) r q) (ha:ZE X A a xa) (hb:ZE X A b xb):ZE X A (.BinOp a op b pos) (xOp q xa xb):=wE (yzO ho ha.of hb.of) (ynZ hq sE sE)
def ylI (ho:OpR X (binaryOp op) r) (hq:ynY (ckX X A) r q) (ha:ZE X A a xa) (hb:ZE X A b xb):ZO X A (.BinOp a op b pos) (ypP q xa xb):=wO (yzO ho ha.of hb.of) (yxc hq sE sE)
def yDT {r} {q} (ho:UnR X (unaryOp op) r) (hq:ywY (ckX X A) r q) (ha:ZE X A a xa):ZE X A (.UnaryOp op a pos) (xUn q xa):=wE (yCE ho ha.of) (yAd hq sE)
def yDU (ha:ZE X A a xa):ZE X A (.UnaryOp .Not a pos) (ywX xa):=wE (yzF ha.of) (ytt sE)
def yfl (ho:OpR X (compareOp op) r) (hq:ycj (ckX X A) r q) (ha:ZE X A a xa) (hb:ZE X A b xb) (hm:behindInMarks op b=false:=by first|exact ykO _|with_unfolding_all rfl):ZE X A (.Compare a [op] [b] pos) (xOp q xa xb):=wE (ywF ho ha.of hb.of hm) (ynZ hq sE sE)
def yrw (ho:OpR X (compareOp op) r) (ho':OpR X (compareOp op') r') (hq:ycj (ckX X A) r q) (hq':ycj (ckX X A) r' q') (ha:ZE X A a xa) (hb:ZE X A b xb) (hc:ZE X A c xc) (hm:lastMarks [op,op'] [b,c]=false:=by first|exact ykO _|with_unfolding_all rfl):ZE X A (.Compare a [op,op'] [b,c] pos) (yfn q q' xa xb xc):=wE (ysZ ho ho' ha.of hb.of hc.of hm) (ylr hq hq' sE sE sE)
def ypt {op} (h:ZE X A a xa):ZE X A (.BoolOp op [a] pos) xa:=⟨yzD h.of⟩
def ypu (ha:ZE X A a xa) (hb:ZE X A (.BoolOp .And (b::es) pos) xb):ZE X A (.BoolOp .And (a::b::es) pos) (yjA xa xb):=wE (yzE ha.of hb.of) (yts sE sE)
section
variable {ca cb:XT}
def yrx (hc:ZT X A c ca) (ha:ZE X A a xa) (hb:ZE X A b xb):ZE X A (.IfExp c a b pos) (xIf ca xa xb):=wE (ysS hc.of ha.of hb.of) (yAg sT sE sE)
def yH (ho:OpR X (compareOp op) r) (hq:ycj (ckX X A) r q) (ha:ZE X A a xa) (hb:ZE X A b xb) (hm:behindInMarks op b=false:=by first|exact ykO _|with_unfolding_all rfl):ZT X A (.Compare a [op] [b] pos) (yz (xOp q xa xb)):=wT (ywH ho ha.of hb.of hm) (yhl (ynZ hq sE sE))
def yhn (ho:OpR X (compareOp op) r) (ho':OpR X (compareOp op') r') (hq:ycj (ckX X A) r q) (hq':ycj (ckX X A) r' q') (ha:ZE X A a xa) (hb:ZE X A b xb) (hc:ZE X A c xc) (hm:lastMarks [op,op'] [b,c]=false:=by first|exact ykO _|with_unfolding_all rfl):ZT X A (.Compare a [op,op'] [b,c] pos) (yz (yfn q q' xa xb xc)):=wT (yta ho ho' ha.of hb.of hc.of hm) (yhl (ylr hq hq' sE sE sE))
def yeD (ha:ZT X A a ca):ZT X A (.UnaryOp .Not a pos) (ymo ca):=wT (yzA ha.of) (yxe sT)
def ybS (h:ZE X A a xa) (he:∀ whole,isTrue a X.env whole=(do let v <- whole;standAt a.pos;holding [v] (truthy v)):=by exact fun _=>rfl):ZT X A a (yz xa):=wT (yzx h.of he) (yAe sE)
def ypv (h:ZW X A a ca):ZT X A a ca:=⟨PW.pt h.of⟩
def yow (ha:ZT X A a ca) (hb:ZW X A (.BoolOp .And (b::es) pos) cb):ZW X A (.BoolOp .And (a::b::es) pos) (yvH ca cb):=wW (yzz ha.of hb.of) (yxd sT sT)
def yiA (ha:ZT X A a ca) (hb:ZW X A (.BoolOp .Or (b::es) pos) cb):ZW X A (.BoolOp .Or (a::b::es) pos) (xOr ca cb):=wW (yCz ha.of hb.of) (yAf sT sT)
def yjY (ha:ZT X A a ca):ZW X A (.BoolOp .And [a] pos) ca:=⟨ywB ha.of⟩
def yga (ha:ZT X A a ca):ZW X A (.BoolOp .Or [a] pos) ca:=⟨yzy ha.of⟩
end
def yd:ZA X A [] 0 yh:=wA yiP yjD ymX
def ya (ha:ZE X A a xa) (hr:ZA X A es n aa) (hs:starEach (a::es) X.env=(false,eval a X.env)::starEach es X.env:=by rfl):ZA X A (a::es) (n+1) (yc xa aa):=wA (yfA ha.of hr.of hs) (ytu sE sA) (ytx hr.len)
def ycv (h:ZA X A es n aa):ZO X A (.List es pos) (yec aa):=wO (yzR h.of) (yxg sA)
def ycY {q} (h:ZA X A es n aa):ZE X A (.Tuple es q pos) (yfC aa):=wE (yzQ h.of) (yxf sA)
def ynp:ZP X A none yci:=wP ywO ypj
def yeq (h:ZE X A a xa):ZP X A (some a) (yen xa):=wP (ywP h.of) (yty sE)
section
variable {lo hi:Option Expr}{xl xh:PSt->AH->Option (Option Int×AH)}{p2:Pos}
def ylJ {r} {q} (hr:SlR X r) (hq:yqF (ckX X A) r q) (ha:ZE X A a xa) (hl:ZP X A lo xl) (hh:ZP X A hi xh):ZO X A (.Subscript a (.Slice lo hi none p2) pos) (yjB q xa xl xh):=wO (ytj hr ha.of hl.of hh.of) (yxj hq sE sP sP)
end
def ybp (hr:IxR X r) (hq:ycj (ckX X A) r q) (ha:ZE X A a xa) (hb:ZE X A b xb) (hs:yqr b:=by exact fun _ _=>rfl):ZE X A (.Subscript a b pos) (xOp q xa xb):=wE (yCJ hr ha.of hb.of hs) (ynZ hq sE sE)
def yx (hc:∀ k∈cs,Cls X.K (A k)/\NoAttr X.K (A k) f) (ha:ZE X A a xa) (hb:attributeBase a f X.env (eval a X.env)=eval a X.env:=by rfl):ZE X A (.Attribute a f pos) (ybb cs f xa):=wE (yzP ha.of hb) (yxz (K:=ckX X A) hc sE)
section
variable {f C:Addr}{fd:FuncData}{ps:List Str}{lv:Nat}{fn:Fn}
def yR (F:FnOk X.prog X.w X.K X.mg X.base CX0 lv f fd ps (spE (ckX X A) (n+1) fn)) (hm:X.mg x=some (.ref f)) (hk:keepIn X.K (.ref f)=true) (hb:Binds X.K fd ps []) (ha:ZA X A (a::es) (n+1) aa) (hr:Room lv X.A:=by exact hr.mono (by omega)) (m:Nm x:=by exact ⟨by rfl',by rfl',by rfl'⟩) (hg:Gl X x:=by rfl) (he:starEach (a::es) X.env=(false,eval a X.env)::starEach es X.env:=by rfl) (hpl:(backTo pos (starEach es X.env)).any (·.1)=false:=by rfl):ZE X A (.Call (.Name x p) (a::es) [] pos) (yW fn aa) :=
 wE (ywM F hr hg hm hk hb .nil ykW ha.of m.d he hpl) (ytw sA ha.len)
def yfs {k:Nat}{fi} (M:Mk X.K (A k) f) (F:FnOk X.prog X.w X.K X.mg X.base CX0 lv f fd ps (spI (ckX X A) (n+1) k fi)) (hm:X.mg x=some (.ref (A k))) (hb:Binds X.K fd ps []) (ha:ZA X A (a::es) (n+1) aa) (hr:Room (lv+1) X.A:=by exact hr.mono (by omega)) (m:Nm x:=by exact ⟨by rfl',by rfl',by rfl'⟩) (hg:Gl X x:=by rfl) (he:starEach (a::es) X.env=(false,eval a X.env)::starEach es X.env:=by rfl) (hpl:(backTo pos (starEach es X.env)).any (·.1)=false:=by rfl):ZO X A (.Call (.Name x p) (a::es) [] pos) (yfD fi aa) :=
 wO (yqn M F hr hg hm hb .nil ykW ha.of m.d he hpl) (yod (K:=ckX X A) (k:=k) sA ha.len)
def yxY {k:Nat}(hm:makesIn X.K (A k)=true) (hi:findIn X.K (.ref (A k)) "__init__" = some (some (.builtin "object.__init__"))) (hk:keepIn X.K (.ref (A k))=true) (hmg:X.mg x=some (.ref (A k))) (m:Nm x:=by exact ⟨by rfl',by rfl',by rfl'⟩) (hg:Gl X x:=by rfl):ZO X A (.Call (.Name x p) [] [] pos) (yqU k) :=
 wO (yto hm hi hk hg hmg m.d) (yqV (K:=ckX X A))
def yry {pl:Sem Bool}(he:ZE X A o xa) (G:ymJ X.prog X.w X.K X.mg X.base lv A m (fun k=>spE (ckX X A) 1 (fm k))) (hr:Room lv X.A:=by exact hr.mono (by omega)) (ht:eval (.Call (.Attribute o m apos) [] [] pos) X.env=(do
   let ov <- eval o X.env
   standAt apos.atName
   let (f,first) <- holding [ov] (getMethod ov m pl)
   callWith pos f first (backTo pos (starEach [] X.env)) (backToKw pos (keywordEach [] X.env))):=by rfl):ZE X A (.Call (.Attribute o m apos) [] [] pos) (ypm m fm xa) :=
 wE (yqA he.of G hr ht) (ytP (K:=ckX X A) sE)
end
def ydK {id:String}{r} {q} (hc:yfz X (.builtin id) r) (hq:yhz (ckX X A) r q) (hm:X.mg x=none) (ha:ZA X A (a::es) n aa) (m:Nm x:=by exact ⟨by rfl',by rfl',by rfl'⟩) (hg:Gl X x:=by rfl) (hv:bootBuiltins x=some (.builtin id):=by rfl') (he:starEach (a::es) X.env=(false,eval a X.env)::starEach es X.env:=by rfl) (hpl:(backTo pos (starEach es X.env)).any (·.1)=false:=by rfl):ZE X A (.Call (.Name x p) (a::es) [] pos) (xCB q aa) :=
 wE (yjr hc hg hm hv ha.of m.n m.d he hpl) (yvJ hq sA)
def yus {r} {q} (hc:yfz X (.type T) r) (hq:yhz (ckX X A) r q) (hm:X.mg x=none) (ha:ZA X A (a::es) n aa) (m:Nm x:=by exact ⟨by rfl',by rfl',by rfl'⟩) (hg:Gl X x:=by rfl) (hv:bootBuiltins x=some (.type T):=by rfl') (he:starEach (a::es) X.env=(false,eval a X.env)::starEach es X.env:=by rfl) (hpl:(backTo pos (starEach es X.env)).any (·.1)=false:=by rfl):ZE X A (.Call (.Name x p) (a::es) [] pos) (xCB q aa) :=
 wE (ykU hc hg hm hv ha.of m.n m.d he hpl) (yvJ hq sA)
def ycd {r} {q} (hc:yfz X (.type T) r) (hq:yqB (ckX X A) r q) (hm:X.mg x=none) (ha:ZA X A (a::es) n aa) (m:Nm x:=by exact ⟨by rfl',by rfl',by rfl'⟩) (hg:Gl X x:=by rfl) (hv:bootBuiltins x=some (.type T):=by rfl') (he:starEach (a::es) X.env=(false,eval a X.env)::starEach es X.env:=by rfl) (hpl:(backTo pos (starEach es X.env)).any (·.1)=false:=by rfl):ZO X A (.Call (.Name x p) (a::es) [] pos) (yfc q aa) :=
 wO (ykU hc hg hm hv ha.of m.n m.d he hpl) (yxh hq sA)
section
variable {name:Str}{cpos:Pos}{T id:String}{r:V->List V->Hp->VK->Prop}{cc:PV->AH->Bool}{q:PM}
def yrz (pa:PlainAttrs T) (slot:Slot T name id) (hty:typeOf (.builtin id)=pure (.type "method_descriptor")) (hm:MtR X id r) (hq:yhA (ckX X A) T cc r q) (ho:ZE X A o xa) (ha:ZA X A (a::es) n aa) (hbase:attributeBase o name X.env (eval o X.env)=eval o X.env:=by rfl) (hfew:((backTo cpos (starEach (a::es) X.env)).all (fun x=>!x.1) && (backToKw cpos (keywordEach [] X.env)).all (fun x=>x.1.isSome)
   && decide ((a::es).length+([]:List Keyword).length+(if ([]:List Keyword).isEmpty then 0 else 1)<30))=true:=by rfl) (hline:(apos.endLine == cpos.line)=true:=by rfl) (hs:starEach (a::es) X.env=(false,eval a X.env)::starEach es X.env:=by rfl) (hplain:(backTo cpos (starEach es X.env)).any (·.1)=false:=by rfl) :
  ZE X A (.Call (.Attribute o name apos) (a::es) [] cpos) (xBM cc q xa aa):=wE (ywQ pa slot hty hm ho.of ha.of hbase hfew hline hs hplain) (yvK (K:=ckX X A) hq sE sA)
def yrA (pa:PlainAttrs T) (slot:Slot T name id) (hty:typeOf (.builtin id)=pure (.type "method_descriptor")) (hm:MtR X id r) (hq:yhA (ckX X A) T cc r q) (ho:ZE X A o xa) (hbase:attributeBase o name X.env (eval o X.env)=eval o X.env:=by rfl) (hline:(apos.endLine == cpos.line)=true:=by rfl) :
  ZE X A (.Call (.Attribute o name apos) [] [] cpos) (xBM cc q xa yh):=wE (yvC pa slot hty hm ho.of hbase hline) (yxi (K:=ckX X A) hq sE)
def ygI (ha:ZE X A a xa) (ho:PE X o (ypN i):=by exact yiL rfl (by first|exact Or.inl rfl|exact Or.inr (Or.inl rfl)) (by rfl') (by rfl')) (hbase:attributeBase o "append" X.env (eval o X.env)=eval o X.env:=by rfl) (hfew:((backTo cpos (starEach [a] X.env)).all (fun x=>!x.1) && (backToKw cpos (keywordEach [] X.env)).all (fun x=>x.1.isSome)
   && decide ([a].length+([]:List Keyword).length+(if ([]:List Keyword).isEmpty then 0 else 1)<30))=true:=by rfl) (hline:(apos.endLine == cpos.line)=true:=by rfl) (hs:starEach [a] X.env=(false,eval a X.env)::starEach [] X.env:=by rfl) (hplain:(backTo cpos (starEach [] X.env)).any (·.1)=false:=by rfl) (hsw:swapsWith (.Call (.Attribute o "append" apos) [a] [] cpos) none pos.line X.env=pure false:=by rfl) :
  ZS X A (.Expr (.Call (.Attribute o "append" apos) [a] [] cpos) pos) (yfi i xa) :=
 wS (yjo (ywQ plainAttrs_list PySem.F.slot_list_append PySem.F.type_list_append ycK ho (yfA ha.of yiP hs) hbase hfew hline hs hplain) hsw) (ytF (K:=ckX X A) i sE)
end
section
variable {tg:Expr}
def yeO (h:ZE X A a xa):ZI X A tg a (xIL xa):=wI (yjp h.of) (yqK (K:=ckX X A) sE)
def yAY (h:ZE X A a xa):ZI X A tg a (xIS xa):=wI (yzZ h.of) (ytG sE)
def ygA (hm:X.mg "range" = none) (ha:ZA X A [a] n aa) (hg:Gl X "range":=by rfl) (hs:starEach [a] X.env=[(false,eval a X.env)]:=by rfl):ZI X A tg (.Call (.Name "range" p) [a] [] pos) (yis aa):=wI (yqa hg hm ha.of hs) (yqL sA)
end
def ydz {i:Nat}(hN:X.N.Nodup:=by exact nd) (hi:X.N[i]?=some x:=by rfl) (hx:Loc X.env.scope x:=by first|exact Or.inl rfl|exact Or.inr rfl) (hf:X.fn x=true\/X.env.scope.names.lookup x=some .local:=by exact Or.inl rfl):ZG X A (.Name x pos) (yn i):=wG (ymx hN hi hx hf) (yfW i)
def yxZ:ZGs X A [] yxk:=wGs ywD ytC
def yox (h1:ZG X A a y) (h2:ZGs X A es ys) (hs:(assignEach (a::es) X.env).map (·.2)=assign a X.env::(assignEach es X.env).map (·.2):=by rfl):ZGs X A (a::es) (ygU y ys):=wGs (ysU h1.of h2.of hs) (yqI sG sGs)
def yAZ {ys:XGs}{q:Nat}(h:ZGs X A es ys) (hc:X.calm=true:=by rfl) (hn:(assignEach es X.env).length=n:=by rfl) (hst:(assignEach es X.env).findIdx? (·.1)=none:=by rfl):ZG X A (.Tuple es q pos) (yvL n ys):=wG (yzJ hc h.of hn hst) (ytD (K:=ckX X A) sGs)
def yhL {elt iter:Expr}{px:Pos}{scope:Scope}{cpos:Pos}{it:XA}{xe:XE}{ix:List Nat}(fr:List Str) (hi:ZI X A (.Name x px) iter it) (he:∀ (cl:List (Str×Addr)) (C:Addr) (s₃:Shared) (H₃:Hp) (fp:List Addr) (pins:List (Addr×Obj)),ZE (cxC X scope cl C (x::fr) s₃ H₃ fp pins) A elt xe) (hc:X.calm=true:=by rfl) (hfr:FrOk X scope ix fr:=by repeat' first|exact True.intro|exact rfl|refine And.intro ?_ ?_) (hnd:(x::fr).Nodup:=by rfl') (hkind:scope.kind=.function:=by rfl) (hcell:∀ y∈scope.names,y.2≠.cell:=by rfl') (hnames:∀ y∈scope.names,y.2=.local->scope.names.lookup y.1=some .local:=by rfl') (hfree0:∀ y∈scope.names,y.2=.free->y.1∈fr:=by rfl') (hx:scope.names.lookup x=some .local:=by rfl) (hs:∀ v,foldedSetIterable iter X.env v=pure v:=by exact fun _=>rfl):ZO X A (.ListComp elt [⟨.Name x px,iter,[],0⟩] scope cpos) (yfj it ix xe) :=
 wO (yxX (yjX ix fr hc hi.of hfr (te:=cE (ckX X A) xe) (fun cl C s₃ H₃ fp pins=>(he cl C s₃ H₃ fp pins).of) (fun _ _ _ _ _ _=>.nil) hnd hkind hcell hnames hfree0 hx hs)) (yoa (K:=ckX X A) ix sI sE)
section
variable {st:Stmt}{rest:List Stmt}{s u:XS}
def yj (h:ZE X A a xa):ZS X A (.Return (some a) pos) (yO xa):=wS (yzH h.of) (yxm sE)
def yJ (h:ZE X A a xa) (hs:swapsWith a none pos.line X.env=pure false:=by rfl):ZS X A (.Expr a pos) (yY xa):=wS (yjo h.of hs) (ytB sE)
def yt {i:Nat}{pos':Pos}(h:ZE X A a xa) (hN:X.N.Nodup:=by exact nd) (hi:X.N[i]?=some x:=by rfl) (hx:Loc X.env.scope x:=by first|exact Or.inl rfl|exact Or.inr rfl) (hs:swapsWith a (some (.Name x pos')) pos.line X.env=pure false:=by rfl) (hf:X.fn x=true\/X.env.scope.names.lookup x=some .local:=by exact Or.inl rfl):ZS X A (.Assign [.Name x pos'] a pos) (ybq xa (yn i)) :=
 wS (yvv hN hi hx h.of hs hf) (ymZ sE (yfW i))
def yfG {i:Nat}{pos':Pos}(h:ZO X A a xo) (hN:X.N.Nodup:=by exact nd) (hi:X.N[i]?=some x:=by rfl) (hx:Loc X.env.scope x:=by first|exact Or.inl rfl|exact Or.inr rfl) (hs:swapsWith a (some (.Name x pos')) pos.line X.env=pure false:=by rfl) (hf:X.fn x=true\/X.env.scope.names.lookup x=some .local:=by exact Or.inl rfl):ZS X A (.Assign [.Name x pos'] a pos) (ygV xo i) :=
 wS (yvv hN hi hx h.of hs hf) (ytE i sO)
def ybr {cs:List Nat}{f:Str}{pos':Pos}{i:Nat}(hc:∀ k∈cs,Cls X.K (A k)/\NoAttr X.K (A k) f) (h:ZE X A a xa) (ho:PE X o (ypN i):=by exact yiL rfl (by first|exact Or.inl rfl|exact Or.inr (Or.inl rfl)) (by rfl') (by rfl')) (hs:swapsWith a (some (.Attribute o f pos')) pos.line X.env=pure false:=by rfl):ZF X A (.Assign [.Attribute o f pos'] a pos) (ycu cs i f xa):=wF (yvz ho h.of hs) (ytM (K:=ckX X A) hc sE)
def yU (hc:ZT X A c ca) (ha:ZSs X A l s) (hb:ZSs X A m u):ZS X A (.If c l m pos) (ybN ca s u):=wS (yCB hc.of ha.of hb.of) (yxn sT sS sS)
def yhM {tg iter:Expr}(hi:ZI X A tg iter it) (hg:ZG X A tg y) (hb:ZSs X A rest s) (hp:PassesOwn (model X.prog X.w) X.A X.env X.xe:=by exact PassesOwn.never) (hc:X.calm=true:=by rfl) (hs:∀ x,foldedSetIterable iter X.env x=pure x:=by exact fun _=>rfl):ZS X A (.For tg iter rest [] pos) (yhm it y s):=wS (ynQ hp hc hi.of hg.of hb.of hs) (yxs sI sG sS)
def yjZ (hc:ZT X A c ca) (hb:ZSs X A rest s) (hp:PassesOwn (model X.prog X.w) X.A X.env X.xe:=by exact PassesOwn.never):ZS X A (.While c rest [] pos) (yfp fu ca s):=wS (ysV hp hc.of hb.of) (yqM fu sT sS)
def yr:ZSs X A [] yS:=wSs ywC ytA
def yf (h:ZS X A st s):ZSs X A [st] s:=⟨ypW h.of⟩
def yb (h:ZS X A st s) (hr:ZSs X A rest u):ZSs X A (st::rest) (yl s u):=wSs (ynO h.of hr.of) (yxl sS sS)
def ygB (h:ZSs X A rest s):ZSs X A rest (yqG i s):=wSs h.of (yxo i sS)
def yds (h:ZF X A st s):ZFs X A [st] s:=⟨ypW h.of⟩
def ybh (h:ZF X A st s) (hr:ZFs X A rest u):ZFs X A (st::rest) (yl s u):=wFs (ynO h.of hr.of) (ytN sF sF)
end
end
section
variable {P:Program}{w:World}{K:PySem.W.Frag}{mg:Str->Option Value}{base:Heap}{A:Nat->Addr}
def zfn {x qual:Str}{st:Stmt}{f:Addr}{fd:FuncData}{N ps:List Str}{k:Nat}{s:XS}(F:Fun K x qual st f fd) (S:yel N ps (ybE st))
  (h:∀ (cdv:Value) (Ar:Around) (outer:List Env) (sh:Shared) (H:Hp) (E:XK),Room k (Ar.deeper (envOfC qual (ybE st) sh.heap.objs.size f cdv))->ZSs (yti CX0 P w K mg base N qual (ybE st) f cdv Ar outer sh H E).nox A (yfB st) s) :
  FnOk P w K mg base CX0 (k+1) f fd ps (spE ⟨K,A⟩ ps.length (ybl N.length s)) :=
 F.ok S (fun _ _ _ _ h=>yxt h) fun cdv Ar outer sh H vs Q E hr hq=>⟨_,(h cdv Ar outer sh H E hr).of,ytH (K:=⟨K,A⟩) sS hq⟩
def zin {x qual:Str}{st:Stmt}{f:Addr}{fd:FuncData}{N ps:List Str}{k kc n:Nat}{s:XS}(F:Fun K x qual st f fd) (S:yel N ps (ybE st)) (hn:ps.length=n+1) (hN:n+1<=N.length)
  (h:∀ (cdv:Value) (Ar:Around) (outer:List Env) (sh:Shared) (H:Hp) (E:XK),Room k (Ar.deeper (envOfC qual (ybE st) sh.heap.objs.size f cdv))->ZFs (yti CX0 P w K mg base N qual (ybE st) f cdv Ar outer sh H E).nox A (yfB st) s) :
  FnOk P w K mg base CX0 (k+1) f fd ps (spI ⟨K,A⟩ n kc (ymp N.length kc s)) :=
 F.ok S (fun _ _ _ _ h=>(yxA h).trans hn.symm) fun cdv Ar outer sh H vs Q E hr hq=>⟨_,(h cdv Ar outer sh H E hr).of,ytO (K:=⟨K,A⟩) hN sF hq⟩
end
section
variable {X:Cx}{A:Nat->Addr}{a b c o i:Expr}{es:List Expr}{xa xb xc xd xk xv:XE}{xo:XO}{aa:XA}{pos p apos cpos pos':Pos}{x:Str}{n k:Nat}
def yvZ (ho:ZE X A o xd) (hi:ZE X A i xk) (hu:X.A.units+1<cLine:=by exact ywR hr) (hs:yDG i:=by exact fun _ _=>rfl):ZE X A (.Subscript o i pos) (yhF xd xk):=wE (yxJ hu ho.of hi.of hs) (yua sE sE)
def yBa (hi:ZE X A i xk) (ho:ZE X A o xd) (hu:X.A.units+1<cLine:=by exact ywR hr) (hm:behindInMarks .In o=false:=by first|exact ykO _|with_unfolding_all rfl):ZT X A (.Compare i [.In] [o] pos) (yz (yzj false xk xd)):=wT (yzw (yAN hu hi.of ho.of) hm) (yhl (yxM sE sE))
def ynq (ho:ZE X A o xd) (hi:ZE X A i xk) (hv:ZE X A a xv) (hu:X.A.units+1<cLine:=by exact ywR hr) (hs:swapsWith a (some (.Subscript o i pos')) pos.line X.env=pure false:=by rfl):ZS X A (.Assign [.Subscript o i pos'] a pos) (yjQ xd xk xv):=wS (yxK hu ho.of hi.of hv.of hs) (yub sE sE sE)
def yoy:ZO X A (.Dict [] [] pos) ypp:=wO ytX yuc
def yka (h:ZE X A a xv) (ho:ZE X A o xd) (hi:ZE X A i xk) (ha:∀ v,assign (.Subscript o i pos') X.env v=(do
   let ov <- holding [v] (eval o X.env)
   let iv <- holding [v,ov] (eval i X.env)
   standAt pos'
   holding [v,ov,iv] (setItem ov iv v)
   release [v,ov,iv] []):=by exact fun _=>rfl) (hs:swapsWithSole [.Subscript o i pos'] a pos.line X.env=pure false:=by rfl) (hw:swappedStores [.Subscript o i pos'] a X.env=pure none:=by rfl) (h1:(assignEach [.Subscript o i pos'] X.env).map (·.2)=[assign (.Subscript o i pos') X.env]:=by rfl) :
  ZS X A (.Assign [.Subscript o i pos'] a pos) (ygZ xd xk xv):=wS (yzL h.of (yzK ho.of hi.of set_list ha) hs hw h1) (ytZ sE sE sE)
end
def ynr:bootBuiltins "reversed" = some (.type "reversed"):=by rfl'
section
variable {X:Cx}{A:Nat->Addr}{a b c o:Expr}{es:List Expr}{xa xb xc:XE}{pos p apos cpos:Pos}{x:Str}{n k:Nat}
def yBb (ha:ZE X A a xa) (ho:PE X o (ypN i):=by exact yiL rfl (by first|exact Or.inl rfl|exact Or.inr (Or.inl rfl)) (by rfl') (by rfl')) (hbase:attributeBase o "extend" X.env (eval o X.env)=eval o X.env:=by rfl) (hfew:((backTo cpos (starEach [a] X.env)).all (fun x=>!x.1) && (backToKw cpos (keywordEach [] X.env)).all (fun x=>x.1.isSome)
   && decide ([a].length+([]:List Keyword).length+(if ([]:List Keyword).isEmpty then 0 else 1)<30))=true:=by rfl) (hline:(apos.endLine == cpos.line)=true:=by rfl) (hs:starEach [a] X.env=(false,eval a X.env)::starEach [] X.env:=by rfl) (hplain:(backTo cpos (starEach [] X.env)).any (·.1)=false:=by rfl) (hsw:swapsWith (.Call (.Attribute o "extend" apos) [a] [] cpos) none pos.line X.env=pure false:=by rfl) :
  ZS X A (.Expr (.Call (.Attribute o "extend" apos) [a] [] cpos) pos) (ynk i xa) :=
 wS (yjo (ywQ plainAttrs_list PySem.F.slot_list_extend PySem.F.type_list_extend yqu ho (yfA ha.of yiP hs) hbase hfew hline hs hplain) hsw) (yue (K:=ckX X A) i sE)
def yBc (hm:X.mg x=none) (ho:PE X a (ypN i):=by exact yiL rfl (by first|exact Or.inl rfl|exact Or.inr (Or.inl rfl)) (by rfl') (by rfl')) (m:Nm x:=by exact ⟨by rfl',by rfl',by rfl'⟩) (hg:Gl X x:=by rfl) (hv:bootBuiltins x=some (.builtin "len"):=by rfl') (he:starEach [a] X.env=(false,eval a X.env)::starEach [] X.env:=by rfl) (hpl:(backTo pos (starEach [] X.env)).any (·.1)=false:=by rfl) :
  ZE X A (.Call (.Name x p) [a] [] pos) (ypq i) :=
 wE (yjr yA hg hm hv (yfA ho yiP he) m.n m.d he hpl) (yuf (K:=ckX X A) i)
end
section
variable {X:Cx}{A:Nat->Addr}{tg a b c:Expr}{p pos:Pos}{aa:XA}{n:Nat}
end
section
def ydt (r:Vals xs its) (hj:j<its.toArray.size):∃ x,xs[j]?=some x/\RelV x its.toArray[j]:=by
 have hl:=r.length;have j1:j<its.length:=by simpa using hj
 have x1:xs[j]?=some xs[j]:=List.getElem?_eq_getElem (by omega);obtain ⟨u1,q1,w1⟩:=r.get x1;have g1:its.toArray[j]=u1:=by have:=List.getElem?_eq_getElem j1;rw [q1] at this;simpa using (Option.some.inj this).symm
 exact ⟨_,x1,by rw [g1];exact w1⟩
variable {X:Cx}
def yoz {pins:List (Addr×Obj)}{Z:L2.St}{H:Hp}{s:Shared}(I:Inv X pins Z H s) {n:Nat}{x y:V}{b:Bool}(r:EqR X.K H n x y b):∀ {A:Around}{u v:Value},RelV x u->RelV y v->A.units+n<cLine->SeqAt.EqAt A s u v b:=by
 induction r with
 | flat fx fy=>exact fun rx ry _=>eqAt_V rx ry fx fy
 | same =>
  intro A u v rx ry _;cases rx;cases ry;exact SeqAt.EqAt.same _
 | odd h =>
  obtain ⟨a,o,ob,h1,h2⟩:=h;have:=(I.bs a ob (I.ok.mod.kin a ob h2)).2;rw [h1] at this;cases this
 | nt hb =>
  intro A u v rx ry hu;cases rx;cases ry;obtain ⟨i2,r2,p2,z2⟩:=I.tuple hb;exact SeqAt.EqAt.none_tuple p2 (by omega)
 | tn hb =>
  intro A u v rx ry hu;cases rx;cases ry;obtain ⟨i2,r2,p2,z2⟩:=I.tuple hb;exact SeqAt.EqAt.tuple_none p2 (by omega)
 | @lst n a b xs ys e ha hb hl hne he ih =>
  intro A u v rx ry hu;cases rx;cases ry;obtain ⟨i1,n1,r1,e1,z1⟩:=I.lst ha;obtain ⟨i2,n2,r2,e2,z2⟩:=I.lst hb;have l1:=r1.length;have l2:=r2.length;rw [show xs.length=i1.toArray.size by simp only [size_toArray];omega];refine SeqAt.EqAt.of_refs hne (SeqAt.RcAt.lists ⟨_,e1,rfl,n1,rfl⟩ ⟨_,e2,rfl,n2,rfl⟩ (by simp only [size_toArray];omega) (by omega) fun j j1 j2=>?_);obtain ⟨x1,q1,w1⟩:=ydt r1 j1;obtain ⟨y1,q2,w2⟩:=ydt r2 j2;exact ih j x1 y1 q1 q2 w1 w2 (by show A.units+1+n<cLine;omega)
 | @lstN n a b xs ys ha hb hl =>
  intro A u v rx ry hu;cases rx;cases ry;obtain ⟨i1,n1,r1,e1,z1⟩:=I.lst ha;obtain ⟨i2,n2,r2,e2,z2⟩:=I.lst hb;have l1:=r1.length;have l2:=r2.length;have hne:a≠b:=fun z=>by subst z;rw [ha] at hb;cases hb;exact hl rfl
  exact SeqAt.EqAt.of_refs hne (SeqAt.RcAt.lists_lengths ⟨_,e1,rfl,n1,rfl⟩ ⟨_,e2,rfl,n2,rfl⟩ (by simp only [size_toArray,bne_iff_ne];omega) (by omega))
 | @tup n a b xs ys e ha hb hne he ih =>
  intro A u v rx ry hu;cases rx;cases ry;obtain ⟨i1,r1,p1,z1⟩:=I.tuple ha;obtain ⟨i2,r2,p2,z2⟩:=I.tuple hb;have l1:=r1.length;have l2:=r2.length;rw [show xs.length=i1.toArray.size by simp only [size_toArray];omega,show ys.length=i2.toArray.size by simp only [size_toArray];omega];refine SeqAt.EqAt.of_refs hne (SeqAt.RcAt.tuples p1 p2 (by omega) fun j j1 j2=>?_);obtain ⟨x1,q1,w1⟩:=ydt r1 j1;obtain ⟨y1,q2,w2⟩:=ydt r2 j2;exact ih j x1 y1 q1 q2 w1 w2 (by show A.units+1+n<cLine;omega)
def ywa (hu:X.A.units+60<cLine):OpR X (compareOp .Eq) (yER X.K):=by
 intro pins s Z H x y v u Q I rx ry h;obtain ⟨b,hb,q⟩:=h;cases hb with
 | nt hb =>
  cases rx;cases ry;obtain ⟨i2,r2,p2,z2⟩:=I.tuple hb;exact SeqAt.RcAt.none_tuple p2 (by omega) _ _ _ _ ⟨.bl _,H,I,rfl,q⟩
 | tn hb =>
  cases rx;cases ry;obtain ⟨i2,r2,p2,z2⟩:=I.tuple hb;exact SeqAt.RcAt.tuple_none p2 (by omega) _ _ _ _ ⟨.bl _,H,I,rfl,q⟩
 | @lst a b xs ys e ha hb hl he =>
  cases rx;cases ry;obtain ⟨i1,n1,r1,e1,z1⟩:=I.lst ha;obtain ⟨i2,n2,r2,e2,z2⟩:=I.lst hb;have l1:=r1.length;have l2:=r2.length;rw [show xs.length=i1.toArray.size by simp only [size_toArray];omega] at q;refine SeqAt.RcAt.lists ⟨_,e1,rfl,n1,rfl⟩ ⟨_,e2,rfl,n2,rfl⟩ (by simp only [size_toArray];omega) (by omega) (fun j j1 j2=>?_) _ _ _ _ ⟨.bl _,H,I,rfl,q⟩;obtain ⟨x1,q1,w1⟩:=ydt r1 j1;obtain ⟨y1,q2,w2⟩:=ydt r2 j2;exact yoz I (he j x1 y1 q1 q2) w1 w2 (by show X.A.units+1+40<cLine;omega)
 | @lstN a b xs ys ha hb hl =>
  cases rx;cases ry;obtain ⟨i1,n1,r1,e1,z1⟩:=I.lst ha;obtain ⟨i2,n2,r2,e2,z2⟩:=I.lst hb;have l1:=r1.length;have l2:=r2.length;exact SeqAt.RcAt.lists_lengths ⟨_,e1,rfl,n1,rfl⟩ ⟨_,e2,rfl,n2,rfl⟩ (by simp only [size_toArray,bne_iff_ne];omega) (by omega) _ _ _ _ ⟨.bl _,H,I,rfl,q⟩
 | @tup a b xs ys e ha hb he =>
  cases rx;cases ry;obtain ⟨i1,r1,p1,z1⟩:=I.tuple ha;obtain ⟨i2,r2,p2,z2⟩:=I.tuple hb;have l1:=r1.length;have l2:=r2.length;rw [show xs.length=i1.toArray.size by simp only [size_toArray];omega,show ys.length=i2.toArray.size by simp only [size_toArray];omega] at q;refine SeqAt.RcAt.tuples p1 p2 (by omega) (fun j j1 j2=>?_) _ _ _ _ ⟨.bl _,H,I,rfl,q⟩;obtain ⟨x1,q1,w1⟩:=ydt r1 j1;obtain ⟨y1,q2,w2⟩:=ydt r2 j2;exact yoz I (he j x1 y1 q1 q2) w1 w2 (by show X.A.units+1+40<cLine;omega)
def yhN (hu:X.A.units+60<cLine):OpR X (compareOp .NotEq) (yES X.K):=by
 intro pins s Z H x y v u Q I rx ry h;obtain ⟨b,hb,q⟩:=h;cases hb with
 | nt hb =>
  cases rx;cases ry;obtain ⟨i2,r2,p2,z2⟩:=I.tuple hb;exact SeqAt.RcNeAt.none_tuple p2 (by omega) _ _ _ _ ⟨.bl _,H,I,rfl,q⟩
 | tn hb =>
  cases rx;cases ry;obtain ⟨i2,r2,p2,z2⟩:=I.tuple hb;exact SeqAt.RcNeAt.tuple_none p2 (by omega) _ _ _ _ ⟨.bl _,H,I,rfl,q⟩
 | @lst a b xs ys e ha hb hl he =>
  cases rx;cases ry;obtain ⟨i1,n1,r1,e1,z1⟩:=I.lst ha;obtain ⟨i2,n2,r2,e2,z2⟩:=I.lst hb;have l1:=r1.length;have l2:=r2.length;rw [show xs.length=i1.toArray.size by simp only [size_toArray];omega] at q;refine SeqAt.RcNeAt.lists ⟨_,e1,rfl,n1,rfl⟩ ⟨_,e2,rfl,n2,rfl⟩ (by simp only [size_toArray];omega) (by omega) (fun j j1 j2=>?_) _ _ _ _ ⟨.bl _,H,I,rfl,q⟩;obtain ⟨x1,q1,w1⟩:=ydt r1 j1;obtain ⟨y1,q2,w2⟩:=ydt r2 j2;exact yoz I (he j x1 y1 q1 q2) w1 w2 (by show X.A.units+1+40<cLine;omega)
 | @lstN a b xs ys ha hb hl =>
  cases rx;cases ry;obtain ⟨i1,n1,r1,e1,z1⟩:=I.lst ha;obtain ⟨i2,n2,r2,e2,z2⟩:=I.lst hb;have l1:=r1.length;have l2:=r2.length;exact SeqAt.RcNeAt.lists_lengths ⟨_,e1,rfl,n1,rfl⟩ ⟨_,e2,rfl,n2,rfl⟩ (by simp only [size_toArray,bne_iff_ne];omega) (by omega) _ _ _ _ ⟨.bl _,H,I,rfl,q⟩
 | @tup a b xs ys e ha hb he =>
  cases rx;cases ry;obtain ⟨i1,r1,p1,z1⟩:=I.tuple ha;obtain ⟨i2,r2,p2,z2⟩:=I.tuple hb;have l1:=r1.length;have l2:=r2.length;rw [show xs.length=i1.toArray.size by simp only [size_toArray];omega,show ys.length=i2.toArray.size by simp only [size_toArray];omega] at q;refine SeqAt.RcNeAt.tuples p1 p2 (by omega) (fun j j1 j2=>?_) _ _ _ _ ⟨.bl _,H,I,rfl,q⟩;obtain ⟨x1,q1,w1⟩:=ydt r1 j1;obtain ⟨y1,q2,w2⟩:=ydt r2 j2;exact yoz I (he j x1 y1 q1 q2) w1 w2 (by show X.A.units+1+40<cLine;omega)
def ygb (r:Room k A):A.units+60<cLine:=by have:=r.un;omega
end
section
variable {X:Cx}{A:Nat->Addr}{o e:Expr}{es:List Expr}{xa xb:XE}{aa:XA}{pos apos pos':Pos}{m f:Str}{n k kc:Nat}{pl:Sem Bool}{p:Fn}{fa:Addr}{fd:FuncData}{ps:List Str}
def yce {st:Stmt}:ZS X A st yfk:=wS ysT (yuh (K:=ckX X A))
def ym (ho:ZE X A o xa) (hm:Meth X.K (A kc) m fa) (F:FnOk X.prog X.w X.K X.mg X.base CX0 k fa fd ps (spE (ckX X A) (n+1) p)) (hb:Binds X.K fd ps []) (ha:ZA X A (e::es) n aa) (c:Cls X.K (A kc):=by exact T.cl _) (hr:Room k X.A:=by exact hr.mono (by omega)) (hst:starEach (e::es) X.env=(false,eval e X.env)::starEach es X.env:=by rfl) (hpl:(backTo pos (starEach es X.env)).any (·.1)=false:=by rfl) (ht:eval (.Call (.Attribute o m apos) (e::es) [] pos) X.env=(do
   let ov <- eval o X.env
   standAt apos.atName
   let (f,first) <- holding [ov] (getMethod ov m pl)
   callWith pos f first (backTo pos (starEach (e::es) X.env)) (backToKw pos (keywordEach [] X.env))):=by rfl) :
  ZE X A (.Call (.Attribute o m apos) (e::es) [] pos) (yg kc m p xa aa):=wE (ywN ho.of c hm F hr hb .nil ykW ha.of hst hpl ht) (ylA (K:=ckX X A) sE sA ha.len)
def yp (ho:ZE X A o xa) (hm:Meth X.K (A kc) m fa) (F:FnOk X.prog X.w X.K X.mg X.base CX0 k fa fd ps (spE (ckX X A) 1 p)) (hb:Binds X.K fd ps []) (c:Cls X.K (A kc):=by exact T.cl _) (hr:Room k X.A:=by exact hr.mono (by omega)) (ht:eval (.Call (.Attribute o m apos) [] [] pos) X.env=(do
   let ov <- eval o X.env
   standAt apos.atName
   let (f,first) <- holding [ov] (getMethod ov m pl)
   callWith pos f first (backTo pos (starEach [] X.env)) (backToKw pos (keywordEach [] X.env))):=by rfl) :
  ZE X A (.Call (.Attribute o m apos) [] [] pos) (yg kc m p xa yh):=wE (ytg ho.of c hm F hr hb .nil ykW ht) (ylA (K:=ckX X A) (n:=0) sE yjD ymX)
def yby (hc:∀ k∈cs,Cls X.K (A k)/\NoAttr X.K (A k) f) (ho:ZE X A o xa) (hv:ZE X A value xb) (hs:swapsWith value (some (.Attribute o f pos')) pos.line X.env=pure false:=by rfl) :
  ZS X A (.Assign [.Attribute o f pos'] value pos) (ycX cs f xa xb):=wS (yvz ho.of hv.of hs) (yui (K:=ckX X A) hc sE sE)
end
end PX
namespace KasS
open PySem PySem.W PyProof.Rows
def run {Z:Type}(lt:Nat->Nat->Bool):KasT Z->Z
 | .ret a=>a
 | .ask i j k=>run lt (k (lt i j))
noncomputable def yut {Z:Type}(P:Nat->Prop) (lt:Nat->Nat->Bool):KasT Z->Prop
 | .ret _=>True
 | .ask i j k=>P i/\P j/\yut P lt (k (lt i j))
theorem yBd {Z:Type}(hc:∀ i j C,P i->P j->C (lt i j) s->cmp i j C s) {Q:Z->Shared->Prop} :
  ∀ (t:KasT Z),yut P lt t->Q (run lt t) s->t.kasWp cmp Q s
 | .ret _,_,h=>h
 | .ask i j k,⟨a,b,c⟩,h=>hc i j _ a b (yBd hc (k (lt i j)) c h)
section
variable (key:Nat->Int)
def ltK (i j:Nat):Bool:=decide (key i<key j)
def Kp (p:Array Nat) (i:Nat):Int:=key (p[i]?.getD 0)
def Up (p:Array Nat) (k:Nat):Prop:=∀ i j,i<=j->j<k->Kp key p i<=Kp key p j
variable {key}
noncomputable def AllIn {Z:Type}(n:Nat):KasT Z->Bool
 | .ret _=>true
 | .ask i j k=>decide (i<n) && decide (j<n) && AllIn n (k true) && AllIn n (k false)
theorem ywb {Z:Type}{n:Nat}{lt lt':Nat->Nat->Bool}(e:∀ i j,i<n->j<n->lt i j=lt' i j):∀ t:KasT Z,AllIn n t=true->yut (· < n) lt t/\run lt t=run lt' t
 | .ret _,_=>⟨trivial,rfl⟩
 | .ask i j k,h=>by unfold AllIn at h;simp only [and_eq_true,decide_eq_true_eq] at h;obtain ⟨⟨⟨h1,h2⟩,h3⟩,h4⟩:=h;have q:=ywb e (k (lt i j)) (by cases lt i j<;>assumption);exact ⟨⟨h1,h2,q.1⟩,by show run lt (k (lt i j))=run lt' (k (lt' i j));rw [q.2,e i j h1 h2]⟩
def tb (a b c d e f:Bool):Nat->Nat->Bool
 | 0,1=>a|1,0=>b|0,2=>c|2,0=>d|1,2=>e|2,1=>f|_,_=>false
noncomputable def okB (n:Nat) (lt:Nat->Nat->Bool):Bool:=(run lt (kas_sort n)).toList.isPerm (List.range n) && (List.range n).all fun i=>(List.range i).all fun j=>!(lt ((run lt (kas_sort n))[i]?.getD 0) ((run lt (kas_sort n))[j]?.getD 0))
def yBe:∀ a b c d e f:Bool,((List.range 3).all fun i=>(List.range 3).all fun j=>(List.range 3).all fun k=>(tb a b c d e f i j || tb a b c d e f j k || !(tb a b c d e f i k)) && !(tb a b c d e f i j && tb a b c d e f j i))=true->(okB 2 (tb a b c d e f) && okB 3 (tb a b c d e f) && AllIn 2 (kas_sort 2) && AllIn 3 (kas_sort 3))=true:=by rfl'
def yrB:∀ i j,i<3->j<3->ltK key i j=tb (ltK key 0 1) (ltK key 1 0) (ltK key 0 2) (ltK key 2 0) (ltK key 1 2) (ltK key 2 1) i j
 | 0,1,_,_|1,0,_,_|0,2,_,_|2,0,_,_|1,2,_,_|2,1,_,_=>rfl
 | 0,0,_,_|1,1,_,_|2,2,_,_=>decide_eq_false (Int.lt_irrefl _)
 | n+3,_,h,_=>absurd h (by omega)
 | _,n+3,_,h=>absurd h (by omega)
def yuu (hn:n=2\/n=3):yut (· < n) (ltK key) (kas_sort n)/\(run (ltK key) (kas_sort n)).Perm (toArray (List.range n))/\Up key (run (ltK key) (kas_sort n)) n:=by
 have k:=yBe (ltK key 0 1) (ltK key 1 0) (ltK key 0 2) (ltK key 2 0) (ltK key 1 2) (ltK key 2 1) (by
  simp only [List.all_eq_true,List.mem_range];intro i hi j hj l hl;rw [<- yrB i j hi hj,<- yrB j l hj hl,<- yrB i l hi hl,<- yrB j i hj hi];unfold ltK
  by_cases a:key i<key j
  .simp [a];omega
  .by_cases b:key j<key l
   .simp [a,b]
   .simp [a,b];omega)
 simp only [and_eq_true] at k;obtain ⟨⟨⟨k2,k3⟩,k4⟩,k5⟩:=k;have e:∀ i j,i<n->j<n->ltK key i j=tb (ltK key 0 1) (ltK key 1 0) (ltK key 0 2) (ltK key 2 0) (ltK key 1 2) (ltK key 2 1) i j:=fun i j hi hj=>yrB i j (by omega) (by omega)
 have q:=ywb e (kas_sort n) (by rcases hn with rfl|rfl<;>assumption);have ok:okB n (tb (ltK key 0 1) (ltK key 1 0) (ltK key 0 2) (ltK key 2 0) (ltK key 1 2) (ltK key 2 1))=true:=by rcases hn with rfl|rfl<;>assumption
 unfold okB at ok;rw [<- q.2,and_eq_true] at ok;have p:(run (ltK key) (kas_sort n)).Perm (toArray (List.range n)):=Array.Perm.of_toList_perm (List.isPerm_iff.mp ok.1);refine ⟨q.1,p,fun i j h1 h2=>?_⟩
 by_cases z:i=j
 .rw [z];exact Int.le_refl _
 .have o:=ok.2;simp only [List.all_eq_true,List.mem_range,Bool.not_eq_true'] at o;have o:=o j h2 i (by omega);have lt:∀ t,t<n->(run (ltK key) (kas_sort n))[t]?.getD 0<n:=fun t ht=>by
   have l:(run (ltK key) (kas_sort n)).size=n:=by have:=p.size_eq;simpa using this
   rw [Array.getElem?_eq_getElem (by omega)];have:=p.mem_iff.mp (Array.getElem_mem (xs:=run (ltK key) (kas_sort n)) (i:=t) (by omega));simpa using this
  rw [<- e _ _ (lt j h2) (lt i (by omega))] at o;have:=of_decide_eq_false o;show key _<=key _;omega
end
open PySem.Calls
noncomputable def Tps (h:Heap):List Value->List (Int×Tok×Value)->Prop
 | [],[]=>True
 | v::vs,p::ps=>(∃ b o m,v=.ref b/\h.get? b=some o/\o.cls=.type "tuple"/\o.data=.seq #[.int p.1 p.2.1,p.2.2] m)/\Tps h vs ps
 | _,_=>False
theorem Tps.len:∀ {vs:List Value}{ps:List (Int×Tok×Value)},Tps h vs ps->ps.length=vs.length
 | [],[],_=>rfl
 | _::_,_::_,⟨_,t⟩=>by rw [length_cons,length_cons,Tps.len t]
 | [],_::_,t=>t.elim
 | _::_,[],t=>t.elim
theorem Tps.get:∀ {vs:List Value}{ps:List (Int×Tok×Value)},Tps h vs ps->∀ i,i<vs.length->∃ p b o m,ps[i]?=some p/\vs.getD i .none=.ref b/\h.get? b=some o/\o.cls=.type "tuple"/\o.data=.seq #[.int p.1 p.2.1,p.2.2] m
 | _::_,p::_,⟨⟨b,o,m,e1,e2,e3,e4⟩,_⟩,0,_=>⟨p,b,o,m,rfl,by rw [e1];rfl,e2,e3,e4⟩
 | _::vs,_::ps,⟨_,t⟩,i+1,hi=>by obtain ⟨p,b,o,m,e1,e2,e3⟩:=Tps.get t i (by simpa using hi);exact ⟨p,b,o,m,by simpa using e1,by simpa using e2,e3⟩
 | [],[],_,_,hi=>by simp at hi
 | [],_::_,t,_,_=>t.elim
 | _::_,[],t,_,_=>t.elim
theorem Tps.mono {h h':Heap}:∀ {vs:List Value}{ps:List (Int×Tok×Value)},Tps h vs ps->(∀ b o,Value.ref b∈vs->h.get? b=some o->h'.get? b=some o)->Tps h' vs ps
 | [],[],_,_=>trivial
 | _::_,_::_,⟨⟨b,o,m,e1,e2,e3⟩,t⟩,k=>⟨⟨b,o,m,e1,k b o (by rw [e1];exact mem_cons_self) e2,e3⟩,Tps.mono t fun b o hb=>k b o (mem_cons_of_mem _ hb)⟩
 | [],_::_,t,_=>t.elim
 | _::_,[],t,_=>t.elim
theorem Tps.kat:∀ {vs:List Value}{ps:List (Int×Tok×Value)},Tps h vs ps->KatTups h vs (ps.map fun p=>Value.int p.1 p.2.1)
 | [],[],_=>trivial
 | _::_,p::_,⟨⟨b,o,m,e1,e2,e3,e4⟩,t⟩=>⟨⟨b,o,_,m,e1,e2,e3,e4,rfl⟩,Tps.kat t⟩
 | [],_::_,t=>t.elim
 | _::_,[],t=>t.elim
def yfm (ps:List (Int×Tok×Value)) (i:Nat):Int:=((ps[i]?).map (·.1)).getD 0
def yrC {ps:List (Int×Tok×Value)}(hn:(ps.map (·.1)).Nodup) (hi:i<ps.length) (hj:j<ps.length) (e:yfm ps i=yfm ps j):i=j:=by
 unfold yfm at e;rw [List.getElem?_eq_getElem hi,List.getElem?_eq_getElem hj] at e;have e:ps[i].1=ps[j].1:=e;have h1:i<(ps.map (·.1)).length:=by simpa using hi
 have h2:j<(ps.map (·.1)).length:=by simpa using hj
 exact (List.getElem_inj (h₀:=h1) (h₁:=h2) hn).mp (by simpa using e)
section
variable {prog:Program}{w:World}{A:Around}{E:Value->Shared->Prop}{s:Shared}
def yya (tp:Tps s.heap vs ps) (hn:(ps.map (·.1)).Nodup) (i j:Nat) (C:Bool->Shared->Prop) (hi:i<vs.length) (hj:j<vs.length) (hC:C (ltK (yfm ps) i j) s) :
  kas_ask prog w A (tuples' true) vs i j C s:=by
 obtain ⟨p,b,o,m,e1,e2,e3,e4,e5⟩:=tp.get i hi;obtain ⟨p',b',o',m',f1,f2,f3,f4,f5⟩:=tp.get j hj;have k1:yfm ps i=p.1:=by unfold yfm;rw [e1];rfl
 have k2:yfm ps j=p'.1:=by unfold yfm;rw [f1];rfl
 unfold ltK at hC;rw [k1,k2] at hC;unfold kas_ask;rw [e2,f2];refine kat_lt e3 e5 f3 f5 ?_;show KatLex prog w A true (decide (2<2)) C [(Value.int p.1 p.2.1,Value.int p'.1 p'.2.1),(p.2.2,p'.2.2)] 0 s;refine kat_cons (L2.eqAt_V (y:=.int p.1) (x:=.int p'.1) ⟨_,rfl⟩ ⟨_,rfl⟩ rfl rfl prog w _ _ ?_);show KatGo prog w A true _ C _ _ _ 0 (p.1 == p'.1) s
 by_cases e:p.1=p'.1
 .rw [beq_iff_eq.mpr e];have hij:i=j:=yrC hn (by rw [tp.len];exact hi) (by rw [tp.len];exact hj) (by rw [k1,k2,e]);subst hij;rw [e1] at f1;cases f1;refine kat_yes (kat_cons (SeqAt.EqAt.same _ prog w _ _ (kat_yes (kat_nil ?_))));rw [decide_eq_false (by omega)] at hC;exact hC
 .rw [beq_eq_false_iff_ne.mpr e];exact kat_no (oneLt_int hC)
def yuv {vs:List Value}(ho:s.heap.get? a=some (seqObj "list" vs.toArray n)) (tp:Tps s.heap vs ps) (na:Value.ref a∉vs) (hn:(ps.map (·.1)).Nodup) (h64:vs.length<4)
  (h:∀ q:Array Nat,q.Perm (toArray (List.range vs.length))->Up (yfm ps) q vs.length->P (.done (.ret .none)) { s with heap:=sortedHeap s.heap a vs (toArray (q.toList.map fun i=>vs.getD i Value.none)) }) :
  wpAny (model prog w) A (Builtin.«list.sort» ⟨[.ref a],[]⟩) P E s:=by
 have ha:a<s.heap.objs.size:=Heap.lt_size ho;have z64:vs.length<=sizeLine:=by rw [sizeLine_eq];omega
 rw [list_sort_plain];obtain ⟨e1,ho1⟩:∃ e1,(s.heap.update a (Obj.mapSeq fun _=>(#[]:Array Value))).get? a=some (seqObj "list" #[] e1):=⟨_,get?_update_seq ho _⟩
 refine wpAny_bind (listItems_at ho rfl (wpAny_bind (listUpdate_at ho rfl (wpAny_bind (seqEpoch_at ho1 rfl (wpAny_bind (wpAny_newTuple (wpAny_bind (wpAny_newList (wpAny_holding ?_) (zero_le _))) (by simpa using z64))))) (by simpa using z64) (zero_le _))));generalize hH:((s.heap.update a (Obj.mapSeq fun _=>(#[]:Array Value))).push (seqObj "tuple" vs.toArray 0)).push (seqObj "list" #[] 0)=H6;have keep:∀ b o,b≠a->s.heap.get? b=some o->H6.get? b=some o:=fun b o hb e=>by rw [<- hH];exact Heap.get?_push_of_some _ (Heap.get?_push_of_some _ ((Heap.get?_update_other _ _ (Ne.symm hb)).trans e))
 have ho6:H6.get? a=some (seqObj "list" #[] e1):=by rw [<- hH];exact Heap.get?_push_of_some _ (Heap.get?_push_of_some _ ho1)
 have tp6:Tps H6 vs ps:=tp.mono fun b o hb e=>keep b o (fun z=>na (z ▸ hb)) e
 show wpAny (model prog w) A _ P E { s with heap:=H6 };dsimp only;have fin:∀ q:Array Nat,q.Perm (toArray (List.range vs.length))->Up (yfm ps) q vs.length->P (.done (.ret .none)) { s with heap:=H6.update a (Obj.mapSeq fun _=>toArray (q.toList.map fun i=>vs.getD i Value.none)) }:=fun q h1 h2=>by have:=h q h1 h2;unfold sortedHeap at this;rw [show ((s.heap.update a (Obj.mapSeq fun _=>(#[]:Array Value))).push (seqObj "tuple" vs.toArray 0)).push (seqObj "list" #[] 0)=H6 from hH] at this;exact this
 by_cases h2:vs.toArray.size<2
 .rw [if_pos h2,if_pos h2];refine wpAny_bind (wpAny_pure ?_);rw [StateT.run_pure];have hz:((arrOf (SortSt.mk' general' (vs.toArray.zip vs.toArray) #[] 7 none)).map (·.2))=toArray ((toArray (List.range vs.length)).toList.map fun i=>vs.getD i Value.none):=by
   show (vs.toArray.zip vs.toArray).map (·.2)=_;apply Array.toList_inj.mp;simp only [Array.toList_map,Array.toList_zip,List.map_snd_zip (Nat.le_refl _)];apply List.ext_getElem
   .simp
   .intro i h3 h4;simp;rw [List.getElem?_eq_getElem (by simpa using h3)];rfl
  refine wpAny_bind (wpAny_pure (wpAny_bind (seqEpoch_at ho6 rfl (wpAny_bind (listUpdate_at ho6 rfl ?_ (zero_le _) ?_)))))
  .dsimp only;rw [hz];simp only [bne_self_eq_false,Bool.false_eq_true,if_false];exact wpAny_pure (fin _ (Array.Perm.refl _) fun i j hij hj=>by rw [show i=j by (simp at h2);omega];exact Int.le_refl _)
  .rw [hz];simp;omega
 .rw [if_neg h2,if_neg h2];have hv2:2<=vs.length:=by simp at h2;omega
  refine wpAny_bind (kat_kind (s:={ s with heap:=H6 }) (T:=.type "int") tp6.kat (by rw [length_map,tp.len];omega) (fun v hv=>?_) rfl ?_)
  .obtain ⟨p,_,rfl⟩:=List.mem_map.mp hv;exact .now
  have h2:=yuu (key:=yfm ps) (show vs.length=2\/vs.length=3 by omega);have run1:=kat_run (prog:=prog) (w:=w) (A:=A) (E:=E) (s:={ s with heap:=H6 }) (κ:=tuples' true) (ks:=vs) (vs:=vs)
   (Q:=fun st' s'=>s'={ s with heap:=H6 }/\∃ q:Array Nat,q.Perm (toArray (List.range vs.length))/\Up (yfm ps) q vs.length/\(arrOf st').map (·.2)=toArray (q.toList.map fun i=>vs.getD i Value.none)/\failedOf st'=none)
   (G:=fun q s'=>s'={ s with heap:=H6 }/\q.Perm (toArray (List.range vs.length))/\Up (yfm ps) q vs.length) rfl hv2 (by omega)
   (fun q st' s' z1 z2 z3 z4=>⟨z4.1,q,z4.2.1,z4.2.2,kat_snds rfl z2,z3⟩)
   (yBd (P:=(· < vs.length)) (lt:=ltK (yfm ps)) (fun i j C hi hj hC=>yya tp6 hn i j C hi hj hC) _ h2.1 ⟨rfl,h2.2⟩)
  refine wpAny_bind (wpAny_mono run1 ?_ fun _ _ x=>x);rintro ⟨⟨⟩,st'⟩ s' ⟨rfl,q,z1,z2,z3,z4⟩;refine wpAny_bind (seqEpoch_at ho6 rfl (wpAny_bind (listUpdate_at ho6 rfl ?_ (zero_le _) ?_)))
  .dsimp only;rw [z3,z4];simp only [bne_self_eq_false,Bool.false_eq_true,if_false];exact wpAny_pure (fin q z1 z2)
  .dsimp only;rw [z3];have:=z1.size_eq;simp at this ⊢;omega
end
end KasS
namespace PXS
open PySem L2 PySem.Spec PyProof.Rows KasS PX
def yuw (x:ObjOk P w H h a o):∃ u,h.get? a=some u:=by
 cases o with
 | lst xs=>obtain ⟨_,_,_,_,e⟩:=x;exact ⟨_,e⟩
 | tup xs=>obtain ⟨_,_,_,ob,e,_⟩:=x;exact ⟨_,e⟩
 | dK kvs=>obtain ⟨_,_,_,_,o,_,_,e,_⟩:=x;exact ⟨_,e⟩
 | dT kvs=>obtain ⟨_,_,_,_,o,_,_,e,_⟩:=x;exact ⟨_,e⟩
 | set S n=>obtain ⟨o,_,_,_,e,_⟩:=x;exact ⟨_,e⟩
 | ins C dx fs=>obtain ⟨_,_,_,e,_⟩:=x;exact ⟨_,e⟩
 | own y=>obtain ⟨_,e⟩:=x;exact ⟨_,e⟩
 | xd fs=>obtain ⟨_,⟨_,_,_,e,_⟩,_⟩:=x;exact ⟨_,e⟩
 | rng lo hi=>obtain ⟨_,_,_,e⟩:=x;exact ⟨_,e⟩
 | frz ob u=>obtain ⟨e,_⟩:=x;exact ⟨_,e⟩
 | tbl ps=>exact ⟨_,show h.get? a=some _ from x⟩
 | met f y=>exact ⟨_,show h.get? a=some _ from x⟩
 | ext M=>obtain ⟨_,⟨_,e⟩,_⟩:=x;exact ⟨_,e⟩
section
variable {X:Cx}
def yux:MtM X "dict.items" yvU:=by intro pins s Z H x vs v us Q I rx rv h;obtain ⟨d,kvs,rfl,rfl,hH,q⟩:=h;cases rx;have hus:=rv.zero;subst hus;obtain ⟨z,sy,ws,kv,hD⟩:=I.hok d _ hH;refine call_meetsIn PySem.F.slot_dict_items hD.typeIs PySem.F.entry_dict_items (PySem.F.args_dict_items_1 _) (meets_dict_items _ d sy) ⟨⟨ws,hD⟩,?_⟩;refine ⟨.ref _,_,I.laid (t':=s.toks) (o:=ynm s.heap.objs.size d) (fun _ _ q=>Heap.get?_push_of_some _ q) (Nat.le_refl _) ⟨Heap.get?_push_size _ rfl,⟨_,Heap.get?_push_size _ rfl⟩,fun h1 h2 e k=>k _ e⟩,rfl,q _ I.fresh⟩
def yyb {pins:List (Addr×Obj)}{Z:L2.St}{H H':Hp}{s:Shared}{h':Heap}{t':Nat}(I:Inv X pins Z H s) (k:∀ b u,s.heap.get? b=some u->h'.get? b=some u) (sub:∀ b o,H b=some o->H' b=some o)
  (nw:∀ b o,H b=none->H' b=some o->s.heap.get? b=none/\ObjOk X.prog X.w H' h' b o):Inv X pins Z H' { s with heap:=h',toks:=t' }:=by
 refine I.un ⟨fun b u q _ _ _=>k b u q,fun b u q _ _ _=>⟨u.slots,k b u q⟩,fun b u q n _=>?_,fun b u q _=>⟨u,k b u q⟩,fun b xs q=>sub _ _ q,fun b u xs q=>sub _ _ q,fun b ps q=>⟨#[],by rw [sub _ _ q];simp⟩⟩ fun b o e=>?_
 .cases e:H' b with
  | none=>rfl
  | some o=>rw [(nw b o n e).1] at q;cases q
 .cases e2:H b with
  | none=>exact (nw b o e2 e).2
  | some u =>
   have:=sub _ _ e2;rw [e] at this;cases this;exact (I.hok b o e2).stay (fun c v _ q=>k c v q) (fun c q=>sub _ _ q) fun c xs q=>sub _ _ q
theorem ywc {h:Heap}:∀ (as:List Addr) (ws:List (Key×Value)) (ns:List Int),as.length=ws.length->ws.map (·.1)=ns.map Sum.inl ->
  (∀ (j:Nat) (a:Addr),as[j]?=some a->∃ key k x,ws[j]?=some (k,x)/\ymt k key=true/\h.get? a=some { cls:=.type "tuple",data:=.seq #[key,x] }) ->
  ∃ ps,Tps h (as.map Value.ref) ps/\ps.map (·.1)=ns/\ps.map (·.2.2)=ws.map (·.2)
 | [],[],ns,_,e,_=>⟨[],trivial,by cases ns with|nil=>rfl|cons=>simp at e,rfl⟩
 | [],_::_,_,hl,_,_=>by simp at hl
 | _::_,[],_,hl,_,_=>by simp at hl
 | a::as,(k,x)::ws,ns,hl,e,hp=>by
  cases ns with
  | nil=>simp at e
  | cons n ns =>
   simp only [map_cons,List.cons.injEq] at e;obtain ⟨ps,t,e1,e2⟩:=ywc as ws ns (by simpa using hl) e.2 fun j b hb=>by obtain ⟨key,k',x',f1,f2,f3⟩:=hp (j+1) b (by simpa using hb);exact ⟨key,k',x',by simpa using f1,f2,f3⟩
   obtain ⟨key,k',x',f1,f2,f3⟩:=hp 0 a rfl;simp at f1;obtain ⟨rfl,rfl⟩:=f1;obtain ⟨j,tk,g1,rfl⟩:∃ j tk,k=Sum.inl j/\key=Value.int j tk:=by
    rcases ybm f2 with ⟨j,tk,g1,g2⟩|⟨y,tk,g1,g2⟩
    .exact ⟨j,tk,g1,g2⟩
    .rw [g1] at e;cases e.1
   rw [g1] at e;obtain rfl:j=n:=by injection e.1
   exact ⟨(j,tk,x)::ps,⟨⟨a,_,_,rfl,f3,rfl,rfl⟩,t⟩,by rw [map_cons,e1],by rw [map_cons,e2];rfl⟩
theorem yer {Z:Type}:∀ {as:List Addr}{ts:List Z}{b:Addr}{t:Z},(as.zip ts).lookup b=some t->∃ j:Nat,as[j]?=some b/\ts[j]?=some t
 | [],_,_,_,h=>by simp at h
 | _::_,[],_,_,h=>by simp at h
 | a::as,u::ts,b,t,h=>by
  rw [zip_cons_cons,lookup_cons] at h;split at h
  .rename_i hb;cases h;exact ⟨0,by rw [eq_of_beq hb];rfl,rfl⟩
  .obtain ⟨j,h1,h2⟩:=yer h;exact ⟨j+1,by simpa using h1,by simpa using h2⟩
def yoA:∀ {kvs:List (Key×V)}{ws:List (Key×Value)},KV kvs ws->ws.map (·.1)=kvs.map (·.1)/\∀ i:Nat,i<kvs.length->RelV ((kvs.map (·.2)).getD i .non) ((ws.map (·.2)).getD i .none):=by
 intro kvs ws h
 induction h with
 | nil=>exact ⟨rfl,fun i hi=>by simp at hi⟩
 | @cons p q _ _ h1 _ ih =>
  refine ⟨by rw [map_cons,map_cons,ih.1,h1.1],fun i hi=>?_⟩;cases i with
  | zero=>exact h1.2
  | succ i=>simpa using ih.2 i (by simpa using hi)
theorem yoB {Z:Type}{f:Z->V}{g:Z->Value}:∀ {l:List Z},(∀ i∈l,RelV (f i) (g i))->Vals (l.map f) (l.map g)
 | [],_=>.nil
 | i::l,h=>.cons (h i mem_cons_self) (yoB fun j hj=>h j (mem_cons_of_mem _ hj))
theorem yha (hc:X.calm=true):yfz X (.builtin "sorted") rSI:=by
 intro pins s Z H xs us Q I rr hh;obtain ⟨r,d,kvs,ns,rfl,hr,hd,hk,h64,q⟩:=hh;obtain ⟨u,rfl,rx⟩:=vals1 rr;cases rx;obtain ⟨hview,_,_⟩:=I.hok r _ hr;obtain ⟨z,sy,ws,kv,hD⟩:=I.hok d _ hd;obtain ⟨ep,hat⟩:=hD.dictAt;obtain ⟨kv1,kv2⟩:=yoA kv;have lw:ws.length=kvs.length:=by have:=congrArg length kv1;simpa using this
 have ln:ns.length=kvs.length:=by have:=congrArg length hk;simpa using this.symm
 have nd:ns.Nodup:=by obtain ⟨_,_,_,_,_,_,_,_,n⟩:=hD;rw [kv1,hk] at n;exact (List.pairwise_map.mp n).imp fun h e=>h (by rw [e])
 refine Calls.call_function_entry kind_sorted plain_sorted entry_sorted (args_sorted1 _) ?_;unfold Builtin.«sorted»;refine wpAny_bind (m:=checkCount "sorted" 1 1 _) (wpAny_pure ?_);refine wpAny_bind (PySem.W.kdx_collect (A:=X.A.in1) (knd:=ycD X.prog X.w) (kvs:=ws) (ep:=ep) (I.ok.hd hc) ⟨_,hview,rfl,rfl⟩ hat (by rw [lw];exact z) fun h' tk as keep hl hG=>wpAny_bind (wpAny_newList ?_ (by rw [length_map,hl,lw];exact z)));obtain ⟨ps,tp,e1,e2⟩:=ywc (h:=h') as ws ns hl (by rw [kv1,hk]) fun j a ha=>hG.pairs j a ha
 have la:as.length=ns.length:=by omega
 have above:∀ a∈as,s.heap.objs.size<a:=hG.above;have there:∀ a∈as,a<h'.objs.size:=fun a ha=>hG.there ha
 generalize hB:h'.objs.size=B at *;have noB:s.heap.get? B=none:=by
  cases e:s.heap.get? B with
  | none=>rfl
  | some o=>exact absurd (Heap.lt_size (keep B o e)) (by rw [hB];exact lt_irrefl _)
 have noA:∀ a∈as,s.heap.get? a=none:=fun a ha=>Heap.get?_none_of_le (le_of_lt (above a ha))
 have free:∀ b,s.heap.get? b=none->H b=none:=fun b e=>by
  cases e2:H b with
  | none=>rfl
  | some o=>obtain ⟨u,hu⟩:=yuw (I.hok b o e2);rw [e] at hu;cases hu
 have hoL:(h'.push { cls:=.type "list",data:=.seq (as.map Value.ref).toArray }).get? B=some (seqObj "list" (as.map Value.ref).toArray 0):=by rw [<- hB];exact Heap.get?_push_size _ rfl
 refine wpAny_bind (wpAny_holding (wpAny_call_entry PySem.F.slot_list_sort ⟨_,hoL,rfl⟩ PySem.F.entry_list_sort ?body (PySem.F.args_list_sort_1 _)))
 case body =>
  refine yuv (s:={ s with heap:=h'.push { cls:=.type "list",data:=.seq (as.map Value.ref).toArray },toks:=tk }) (ps:=ps) hoL (tp.mono fun b o _ e=>Heap.get?_push_of_some _ e) (fun z=>?_) (by rw [e1];exact nd) (by rw [length_map];omega) fun qa z1 z2=>?_
  .obtain ⟨a,ha,e⟩:=List.mem_map.mp z;cases e;exact absurd (there B ha) (lt_irrefl _)
  refine ⟨_,rfl,wpAny_pure ⟨_,rfl,?_⟩⟩;have lq:qa.toList.length=ns.length:=by have:=z1.size_eq;simpa [la] using this
  have pq:qa.toList.Perm (List.range ns.length):=by have:=Array.perm_iff_toList_perm.mp z1;simpa [la] using this
  have inq:∀ i∈qa.toList,i<ns.length:=fun i hi=>by have:=pq.mem_iff.mp hi;simpa using this
  have nda:as.Nodup:=hG.rise.imp fun h=>ne_of_lt h
  have ndq:qa.toList.Nodup:=pq.nodup_iff.mpr List.nodup_range;generalize hS:sortedHeap (h'.push { cls:=.type "list",data:=.seq (as.map Value.ref).toArray }) B (as.map Value.ref) (toArray (qa.toList.map fun i=>(as.map Value.ref).getD i Value.none))=S;have hFa:∀ b o,b≠B->h'.get? b=some o->S.get? b=some o:=fun b o hb e=>by rw [<- hS];unfold sortedHeap;exact (Heap.get?_update_other _ _ (Ne.symm hb)).trans (Heap.get?_push_of_some _ (Heap.get?_push_of_some _ ((Heap.get?_update_other _ _ (Ne.symm hb)).trans (Heap.get?_push_of_some _ e))))
  have hFB:∃ c,S.get? B=some (seqObj "list" (toArray (qa.toList.map fun i=>(as.map Value.ref).getD i Value.none)) c):=by rw [<- hS];unfold sortedHeap;exact ⟨_,get?_update_seq (Heap.get?_push_of_some _ (Heap.get?_push_of_some _ (get?_update_seq hoL _))) _⟩
  have hF:∀ b o,s.heap.get? b=some o->S.get? b=some o:=fun b o e=>hFa b o (fun z=>by rw [z,noB] at e;cases e) (keep b o e)
  have aget:∀ i,i<ns.length->∃ a,as[i]?=some a/\as.getD i 0=a/\a∈as:=fun i hi=>by
   have h1:i<as.length:=by omega
   exact ⟨as[i],List.getElem?_eq_getElem h1,by simp [getD,List.getElem?_eq_getElem h1],getElem_mem h1⟩
  have mem:∀ a∈(qa.toList.map fun i=>as.getD i 0),a∈as:=fun a ha=>by obtain ⟨i,hi,rfl⟩:=List.mem_map.mp ha;obtain ⟨a,_,e,m⟩:=aget i (inq i hi);rw [e];exact m
  have neB:∀ a∈as,a≠B:=fun a ha=>ne_of_lt (there a ha)
  have kat:∀ i,yfm ps i=ns.getD i 0:=fun i=>by unfold yfm;rw [<- e1];simp [getD]
  refine ⟨.ref B,yCq H B (qa.toList.map fun i=>as.getD i 0) (qa.toList.map fun i=>[V.int (ns.getD i 0),(kvs.map (·.2)).getD i .non]),?_,rfl,q B _ qa.toList pq ?_ nd (by simp) ?_ ?_⟩
  .show L2.Inv X pins Z _ { s with heap:=S,toks:=tk };refine yyb I hF (fun b o e=>?_) fun b o e e2=>?_
   .unfold yCq upd yop;rw [if_neg fun z=>by rw [z,free _ noB] at e;cases e];cases e3:List.lookup b ((qa.toList.map fun i=>as.getD i 0).zip (qa.toList.map fun i=>[V.int (ns.getD i 0),(kvs.map (·.2)).getD i .non])) with
    | none=>exact e
    | some t =>
     obtain ⟨j,g1,_⟩:=yer e3;rw [free _ (noA b (mem b (mem_of_getElem? g1)))] at e;cases e
   .unfold yCq upd yop at e2;split at e2
    .rename_i hb;subst hb;cases e2;obtain ⟨c,hc⟩:=hFB;refine ⟨noB,by simp [lq];rw [ln];exact z,_,c,?_,hc⟩;rw [map_map];refine yoB fun i hi=>?_
     obtain ⟨a,f1,f2,_⟩:=aget i (inq i hi);show RelV (V.ref (as.getD i 0)) _;rw [f2];simp [getD,f1];rfl
    .split at e2
     .rename_i t e3;cases e2;obtain ⟨j,g1,g2⟩:=yer e3;rw [getElem?_map] at g1 g2;cases e4:qa.toList[j]? with
      | none=>rw [e4] at g1;cases g1
      | some i =>
       rw [e4] at g1 g2;have hi:=inq i (mem_of_getElem? e4);obtain ⟨a,f1,f2,f3⟩:=aget i hi;simp only [map_some,Option.some.injEq] at g1 g2;rw [f2] at g1;subst g1;subst g2;obtain ⟨key,k,x,w1,w2,w3⟩:=hG.pairs i a f1;have wk:k=Sum.inl (ns.getD i 0):=by
        have h1:(ws.map (·.1))[i]?=some k:=by rw [getElem?_map,w1];rfl
        rw [kv1,hk,getElem?_map] at h1;rw [List.getElem?_eq_getElem hi] at h1;simp [getD,List.getElem?_eq_getElem hi] at h1 ⊢;exact h1.symm
       obtain ⟨tk2,rfl⟩:∃ tk,key=Value.int (ns.getD i 0) tk:=by
        rcases ybm w2 with ⟨j,tk,g1,g2⟩|⟨y,tk,g1,g2⟩
        .rw [wk] at g1;cases g1;exact ⟨tk,g2⟩
        .rw [wk] at g1;cases g1
       have wx:(ws.map (·.2)).getD i .none=x:=by simp [getD,w1]
       refine ⟨noA a f3,by simp [sizeLine_eq],[_,x],.cons ⟨_,rfl⟩ (.cons ?_ .nil),_,hFa a _ (neB a f3) w3,rfl,_,rfl⟩;rw [<- wx];exact kv2 i (by omega)
     .rw [e] at e2;cases e2
  .refine List.pairwise_iff_getElem.mpr fun i j hi hj hij=>?_
   have:=z2 i j (le_of_lt hij) (by simpa [la,lq] using hj);unfold Kp at this;rw [kat,kat] at this;have hi':i<qa.size:=by simpa using hi
   have hj':j<qa.size:=by simpa using hj
   rw [Array.getElem?_eq_getElem hi',Array.getElem?_eq_getElem hj'] at this;simpa using this
  .intro a ha;rcases mem_cons.mp ha with rfl|ha
   .exact free _ noB
   .exact free _ (noA a (mem a ha))
  .refine List.nodup_cons.mpr ⟨fun h=>neB _ (mem _ h) rfl,?_⟩;refine List.pairwise_map.mpr (ndq.imp_of_mem fun {i j} hi hj hij e=>hij ?_);obtain ⟨a,f1,f2,_⟩:=aget i (inq i hi);obtain ⟨b,g1,g2,_⟩:=aget j (inq j hj);rw [f2,g2] at e;subst e;exact (List.getElem?_inj (by have:=inq i hi;omega) nda).mp (f1.trans g1.symm)
variable {A:Nat->Addr}{o:Expr}{xa:XE}{pos p apos cpos:Pos}{x:Str}
def z_sortI (ho:ZE X A o xa) (hm:X.mg x=none) (hc:X.calm=true:=by rfl) (m:Nm x:=by exact ⟨by rfl',by rfl',by rfl'⟩) (hg:Gl X x:=by rfl) (hv:bootBuiltins x=some (.builtin "sorted"):=by rfl') (hbase:attributeBase o "items" X.env (eval o X.env)=eval o X.env:=by rfl) (hline:(apos.endLine == cpos.line)=true:=by rfl) (he:starEach [.Call (.Attribute o "items" apos) [] [] cpos] X.env=(false,eval (.Call (.Attribute o "items" apos) [] [] cpos) X.env)::starEach [] X.env:=by rfl) (hpl:(backTo pos (starEach [] X.env)).any (·.1)=false:=by rfl) :
  ZO X A (.Call (.Name x p) [.Call (.Attribute o "items" apos) [] [] cpos] [] pos) (yiZ xa) :=
 wO (yjr (yha hc) hg hm hv (yfA (yvC PySem.F.plainAttrs_dict PySem.F.slot_dict_items PySem.F.type_dict_items yux ho.of hbase hline) yiP he) m.n m.d he hpl) (yrl (K:=ckX X A) sE)
end
end PXS
namespace PX
open PySem L2 PySem.Spec PyProof.Rows
section
def yuy {P:Program}{w:World}{K:PySem.W.Frag}{tg:Expr}(a it:Addr) (m:Nat):Turn P w K tg (ItR K a m) [it] it (fun i h=>i<=m/\h.IsRevIter it a ((m:Int)-1-(i:Nat))) where
 mem:=by simp
 obj:=fun i h st b hb=>by
  have e:b=it:=by simpa using hb
  subst e;obtain ⟨_,o,e,c,d⟩:=st;exact ⟨o,e,fun v z=>by rw [d] at z;cases z⟩
 keep:=fun i h h' st k=>⟨st.1,st.2.at fun o e=>k it (by simp) o e⟩
 item:=by
  intro X hP hw hK hc i pins s Z H E I hf st hg;subst hP hw hK;obtain ⟨hi,xs,x,hq,hx⟩:=hg;obtain ⟨its,rv,p,hz⟩:=I.list hq;obtain ⟨u,hu,ru⟩:=rv.get hx;obtain ⟨f0,f1,f2,f3,f4,f5⟩:=hf it (by simp);have e0:(m:Int)-1-(i:Nat)=((m-1-i:Nat):Int):=by omega
  have st2:=st.2;rw [e0] at st2;refine wpAny_pyNext_rev_item st2 p.isList (x:=u) (by simpa using hu) fun h' st' sb=>?_
  have I1:Inv X pins Z H { s with heap:=h' }:=I.turned (t':=s.toks) (fun b o hb e=>(sb.2 b hb).trans e) f0 f1 f3 f4 f5;obtain ⟨o,e,c,d⟩:=id st';have e2:((m-1-i:Nat):Int)-1=(m:Int)-1-((i+1:Nat):Int):=by omega
  rw [e2] at st';exact ⟨u,rfl,ypY (s:={ s with heap:=h' }) e c d (by decide) ⟨x,H,I1,ru,⟨rfl,fun ys hy=>by rw [I.list_inj hy hq];exact hx⟩,⟨hi,st'⟩,fun b hb=>(hf b hb).1⟩⟩
 done:=by intro X hP hw hK hc i pins s Z H E I hf st hg;subst hP hw hK;obtain rfl:i=m:=hg;obtain ⟨f0,f1,f2,f3,f4,f5⟩:=hf it (by simp);have st2:=st.2;rw [show (i:Int)-1-(i:Nat)=-1 by omega] at st2;exact wpAny_pyNext_rev_end (I.ok.hd hc) st2 fun h' eb=>⟨rfl,I.turned (t':=s.toks) (fun b o hb e=>eb b o hb e) f0 f1 f3 f4 f5⟩
 self:=fun _ _ _ _ _ st h=>wpAny_pyIter_revIter st.2 h
variable {X:Cx}{A:Nat->Addr}{tg a:Expr}{p pos:Pos}{xa:XE}
def yBf (hg:Gl X "reversed") (hm:X.mg "reversed" = none) (ha:PE X a ta) (he:starEach [a] X.env=(false,eval a X.env)::starEach [] X.env) (hs:starEach [a] X.env=[(false,eval a X.env)]):PI X tg (.Call (.Name "reversed" p) [a] [] pos) (yEU X.K ta):=by
 intro pins s Z H R I h;refine Call_ (yiM I hg hm ynr (PyProof.Rows.callWith_type1 (thn (yfA ha yiP he pos pins s Z H (fun vs H1=>match vs with|[x]=>∃ b xs,x=.ref b/\SqL X.K H1 b xs/\R (ItR X.K b xs.length) H1|_=>False) I h) fun us s1 ⟨vs,H1,I1,r1,q1⟩=>?_) hs rfl));cases r1 with
 | nil=>exact q1.elim
 | cons r rr =>
  cases rr with
  | cons=>exact q1.elim
  | nil =>
  obtain ⟨b,xs,e,hq,q⟩:=q1;subst e;cases r;obtain ⟨its,rv,pp,hz⟩:=I1.list hq;have hl:=rv.length;refine call_reversed_list pp.isList (wpAny_pyIter_revIter (s:={ s1 with heap:=s1.heap.push (revObj b ((its.toArray.size:Int)-1)) }) (l:=b) (i:=(its.toArray.size:Int)-1) ⟨_,Heap.get?_push_size _ rfl,rfl,rfl⟩ ?_);refine ⟨s1.heap.objs.size,[s1.heap.objs.size],_,_,H1,rfl,I1.kept (t':=s1.toks) fun b o e=>Heap.get?_push_of_some _ e,yuy b _ xs.length,⟨zero_le _,_,Heap.get?_push_size _ rfl,rfl,?_⟩,fun b hb=>?_,q⟩
  .show Data.fields #[.ref b,rawInt ((its.toArray.size:Int)-1)]=Data.fields #[.ref b,rawInt ((xs.length:Int)-1-((0:Nat):Int))];rw [hl];simp
  .have e:b=s1.heap.objs.size:=by simpa using hb
   subst e;exact I1.fpOk (Nat.le_refl _) (I1.hok.fresh (Nat.le_refl _))
def yyc {rest:List Stmt}(hi:ZE X A a xa) (hg:ZG X A tg y) (hb:ZSs X A rest s) (hp:PassesOwn (model X.prog X.w) X.A X.env X.xe:=by exact PassesOwn.never) (hc:X.calm=true:=by rfl) (hs:∀ x,foldedSetIterable a X.env x=pure x:=by exact fun _=>rfl):ZS X A (.For tg a rest [] pos) (yjU false xa y s) :=
 wS (ynQ hp hc (yjp hi.of) hg.of hb.of hs) (yuk (K:=ckX X A) sE sG sS)
def yyd {rest:List Stmt}{s:XS}{y:XG}{pos':Pos}(hm:X.mg "reversed" = none) (hi:ZE X A a xa) (hg:ZG X A tg y) (hb:ZSs X A rest s) (hp:PassesOwn (model X.prog X.w) X.A X.env X.xe:=by exact PassesOwn.never) (hc:X.calm=true:=by rfl) (hgl:Gl X "reversed":=by rfl) (he:starEach [a] X.env=(false,eval a X.env)::starEach [] X.env:=by rfl) (hs1:starEach [a] X.env=[(false,eval a X.env)]:=by rfl) (hs:∀ x,foldedSetIterable (.Call (.Name "reversed" p) [a] [] pos') X.env x=pure x:=by exact fun _=>rfl):ZS X A (.For tg (.Call (.Name "reversed" p) [a] [] pos') rest [] pos) (yjU true xa y s) :=
 wS (ynQ hp hc (yBf hgl hm hi.of he hs1) hg.of hb.of hs) (yul (K:=ckX X A) sE sG sS)
end
section
variable {X:Cx}{A:Nat->Addr}{a o:Expr}{xa xb:XE}{pos apos cpos:Pos}
def yBg:MtM X "dict.update" yEV:=by
 intro pins s Z H x vs v us Q I rx rv h;obtain ⟨d,b,kvs,more,rfl,rfl,hne,hH,hB,hz,q⟩:=h;cases rx;obtain ⟨u,rfl,ru⟩:=rv.one;cases ru;obtain ⟨z,hd,vs,rel,dd⟩:=yxH I.hok hH;obtain ⟨z2,hd2,vs2,rel2,dd2⟩:=yxH I.hok hB;refine call_meetsIn PySem.F.slot_dict_update dd.typeIs PySem.F.entry_dict_update (PySem.F.args_dict_update_2 _ _) (meets_dict_update (ycD X.prog X.w) d b hne hd2) ⟨vs,vs2,dd,dd2,by rw [<- rel.length,<- rel2.length];exact hz,fun h' dd' _ hs=>?_⟩;have he:∃ q,h'.get? d=some q:=let ⟨q,_,_,hq,_⟩:=dd';⟨q,hq⟩
 refine ⟨.non,_,yng (t':=s.toks) I (by rw [hH];exact True.intro) hs he (yvR ?_ hd (rel2.merge rel) dd'),rfl,q⟩;exact Nat.le_trans (yfZ more kvs) hz
end
variable {X:Cx}{A:Nat->Addr}{x:Str}
end PX
namespace PX
open PySem L2 PySem.Spec PyProof.Rows
variable {X:Cx}{A:Nat->Addr}{x y:Str}{py spos:Pos}{iy:Nat}
def yuz {elt iter:Expr}{px:Pos}{scope:Scope}{cpos:Pos}{it:XA}{xe:XE}{ix:List Nat}(fr:List Str) (hi:ZI X A (.Name x px) iter it) (he:∀ (cl:List (Str×Addr)) (C:Addr) (s₃:Shared) (H₃:Hp) (fp:List Addr) (pins:List (Addr×Obj)),ZE (cxC X scope cl C (x::fr) s₃ H₃ fp pins) A elt xe) (hc:X.calm=true:=by rfl) (hfr:FrOk X scope ix fr:=by repeat' first|exact True.intro|exact rfl|refine And.intro ?_ ?_) (hnd:(x::fr).Nodup:=by rfl') (hkind:scope.kind=.function:=by rfl) (hcell:∀ y∈scope.names,y.2≠.cell:=by rfl') (hnames:∀ y∈scope.names,y.2=.local->scope.names.lookup y.1=some .local:=by rfl') (hfree0:∀ y∈scope.names,y.2=.free->y.1∈fr:=by rfl') (hx:scope.names.lookup x=some .local:=by rfl) (hs:∀ v,foldedSetIterable iter X.env v=pure v:=by exact fun _=>rfl) (hN:X.N.Nodup:=by exact nd) (hyi:X.N[iy]?=some y:=by rfl) (hyx:Loc X.env.scope y:=by first|exact Or.inl rfl|exact Or.inr rfl) (hyf:X.fn y=true\/X.env.scope.names.lookup y=some .local:=by exact Or.inl rfl) (hsw:swapsWith (.ListComp elt [⟨.Name x px,iter,[],0⟩] scope cpos) (some (.Name y py)) spos.line X.env=pure true:=by rfl):ZS X A (.Assign [.Name y py] (.ListComp elt [⟨.Name x px,iter,[],0⟩] scope cpos) spos) (ybq (yfo (yfj it ix xe)) (yn iy)) :=
 wS (yAW (yov ix fr hc hi.of hfr (te:=cE (ckX X A) xe) (fun cl C s₃ H₃ fp pins=>(he cl C s₃ H₃ fp pins).of) (fun _ _ _ _ _ _=>.nil) hnd hkind hcell hnames hfree0 hx hs hN hyi hyx hyf hsw)) (ymZ (ymW (yoa (K:=ckX X A) ix sI sE)) (yfW iy))
def yye {k lv:Nat}{f:Addr}{fd:FuncData}{ps:List Str}{p pos:Pos}{fi} (M:Mk X.K (A k) f) (F:FnOk X.prog X.w X.K X.mg X.base CX0 lv f fd ps (spI (ckX X A) 0 k fi)) (hm:X.mg x=some (.ref (A k))) (hb:Binds X.K fd ps []) (hr:Room (lv+1) X.A:=by exact hr.mono (by omega)) (m:Nm x:=by exact ⟨by rfl',by rfl',by rfl'⟩) (hg:Gl X x:=by rfl):ZO X A (.Call (.Name x p) [] [] pos) (yfD fi yh) :=
 wO (yth M F hr hg hm hb .nil ykW m.d) (yod (K:=ckX X A) (k:=k) yjD ymX)
end PX
namespace PX
open PySem L2 PySem.Spec PyProof.Rows KasS PXS
section
variable {X:Cx}{A:Nat->Addr}
def yhx (h:IntsAre vs ns):Vals (ns.map V.int) vs:=by
 induction h with
 | nil=>exact .nil
 | cons n t _ ih=>exact .cons ⟨t,rfl⟩ ih
variable {a:Expr}{xa:XE}{aa:XA}{pos p:Pos}{x:Str}{n:Nat}
end
section
def NF (X:Cx) (a:Addr):Prop:=∀ o u,X.H₀ a≠some (.frz o u)
def yEY {X:Cx}{pins:List (Addr×Obj)}{Z:L2.St}{H:Hp}{s:Shared}{d:Addr}{u0 u1:HO}(I:L2.Inv X pins Z H s) (hd:H d=some u0) (nt:∀ xs,u0≠.tup xs) (no:∀ y,u0≠.own y) (nb:∀ ps,u0≠.tbl ps) (nf:NF X d)
  (ok:ObjOk X.prog X.w H s.heap d u0->ObjOk X.prog X.w H s.heap d u1):L2.Inv X pins Z (upd H d u1) s:=by
 have ne:∀ {b:Addr},H b=none->upd H d u1 b=none:=fun {b} e=>(yK fun z=>by subst z;rw [hd] at e;cases e).trans e
 refine ⟨I.ok,I.os,I.bare,⟨I.base.keep,I.base.slot,fun b o e n hx=>ne (I.base.free b o e n hx),I.base.there,fun b xs e=>?_,fun b o u e=>?_,fun b ps e=>?_⟩,I.loc,I.cell,ne I.free,fun x c e=>ne (I.freeC x c e),fun p hp=>?_,fun b u e=>?_,I.len⟩
 .have:=I.base.tups b xs e
  exact (yK fun z=>by subst z;rw [hd] at this;cases this;exact nt _ rfl).trans this
 .have:=I.base.frzs b o u e
  exact (yK fun z=>by subst z;exact nf o u e).trans this
 .obtain ⟨more,this⟩:=I.base.tbls b ps e;exact ⟨more,(yK fun z=>by subst z;rw [hd] at this;cases this;exact nb _ rfl).trans this⟩
 .obtain ⟨h1,h2,h3⟩:=I.pin p hp;exact ⟨h1,ne h2,h3⟩
 .have ho:∀ c y,H c=some (.own y)->upd H d u1 c=some (.own y):=fun c y q=>(yK fun z=>by subst z;rw [hd] at q;cases q;exact no _ rfl).trans q
  have ht:∀ c xs,H c=some (.tup xs)->upd H d u1 c=some (.tup xs):=fun c xs q=>(yK fun z=>by subst z;rw [hd] at q;cases q;exact nt _ rfl).trans q
  by_cases hb:b=d
  .subst hb;rw [yE] at e;cases e;exact (ok (I.hok b u0 hd)).stay (fun _ _ _ q=>q) (fun c q=>ho c b q) ht
  .rw [yK hb] at e;exact (I.hok b u e).stay (fun _ _ _ q=>q) (fun c q=>ho c b q) ht
def yrD {P:Program}{w:World}{K:PySem.W.Frag}{tg:Expr}(d it:Addr) (ob:Obj) (kvs:List (Key×V)) {es:Array DictEntry}{ep:Nat}(hdat:ob.data=.dict es ep):Turn P w K tg (ItD d ob kvs) [it] it (fun i h=>h.IsKeyIter it d i kvs.length ep) where
 mem:=by simp
 obj:=fun i h st b hb=>by
  have e:b=it:=by simpa using hb
  subst e;obtain ⟨o,e,c,q⟩:=st;exact ⟨o,e,fun v z=>by rw [q] at z;cases z⟩
 keep:=fun i h h' st k=>st.at fun o e=>k it (by simp) o e
 item:=by
  intro X hP hw hK hc i pins s Z H E I hf st hg;subst hP hw hK;obtain ⟨hi,hH⟩:=hg;obtain ⟨hob,z,sy,ws,kv,hD⟩:=I.hok d _ hH;obtain ⟨ep',hat⟩:=hD.dictAt;obtain ⟨o',es',ho',hx1,hx2,hx3⟩:=id hat;rw [hob] at ho';cases ho';rw [hdat] at hx2;cases hx2;obtain ⟨kv1,kv2⟩:=yoA kv;have lw:ws.length=kvs.length:=by have:=congrArg length kv1;simpa using this
  have hiw:i<ws.length:=by omega
  obtain ⟨f0,f1,f2,f3,f4,f5⟩:=hf it (by simp);rw [<- lw] at st;refine wpAny_pyNext_dict_item st hat (k:=ws[i].1) (v:=ws[i].2) (List.getElem?_eq_getElem hiw) fun key h' hkey st' sb=>?_
  have I1:L2.Inv X pins Z H { s with heap:=h' }:=I.turned (t':=s.toks) (fun b o hb e=>(sb.2 b hb).trans e) f0 f1 f3 f4 f5;obtain ⟨o,e,c,q⟩:=id st';rw [lw] at st';have hk:(kvs[i]'hi).1=ws[i].1:=by
   have h1:(ws.map (·.1))[i]?=(kvs.map (·.1))[i]?:=by rw [kv1]
   rw [getElem?_map,getElem?_map,List.getElem?_eq_getElem hiw,List.getElem?_eq_getElem hi] at h1;exact (Option.some.inj h1).symm
  have rel:RelV (kV (kvs[i]'hi).1) key:=by
   rw [hk];rcases ybm hkey with ⟨i,tk,g1,g2⟩|⟨y,tk,g1,g2⟩
   .rw [g1,g2];exact ⟨tk,rfl⟩
   .rw [g1,g2];exact ⟨tk,rfl⟩
  exact ⟨key,rfl,ypY (s:={ s with heap:=h' }) e c q (by decide) ⟨kV (kvs[i]'hi).1,H,I1,rel,⟨rfl,_,List.getElem?_eq_getElem hi,rfl⟩,st',fun b hb=>(hf b hb).1⟩⟩
 done:=by
  intro X hP hw hK hc i pins s Z H E I hf st hg;subst hP hw hK;obtain ⟨hi,hH⟩:=hg;subst hi;obtain ⟨hob,z,sy,ws,kv,hD⟩:=I.hok d _ hH;obtain ⟨ep',hat⟩:=hD.dictAt;obtain ⟨o',es',ho',hx1,hx2,hx3⟩:=id hat;rw [hob] at ho';cases ho';rw [hdat] at hx2;cases hx2;obtain ⟨kv1,kv2⟩:=yoA kv;have lw:ws.length=kvs.length:=by have:=congrArg length kv1;simpa using this
  obtain ⟨f0,f1,f2,f3,f4,f5⟩:=hf it (by simp);rw [<- lw] at st;exact wpAny_pyNext_dict_end (I.ok.hd hc) st hat (by simp) fun h' eb=>⟨rfl,I.turned (t':=s.toks) (fun b o hb e=>eb b o hb e) f0 f1 f3 f4 f5⟩
 self:=fun _ _ _ _ _ st h=>wpAny_pyIter_keyiter st h
variable {X:Cx}{A:Nat->Addr}{tg a:Expr}{p pos:Pos}{xa:XE}
def yyf (ha:PE X a ta):PI X tg a (yAR (NF X) ta):=by
 intro pins s Z H R I h;refine thn (ha pins s Z H _ I h) fun v s1 ⟨x,H1,I1,r1,q1⟩=>?_
 obtain ⟨d,kvs,e,hd,q⟩:=q1;subst e;cases r1;have nf:NF X d:=fun o u z=>by have:=I1.base.frzs d o u z;rw [hd] at this;cases this
 obtain ⟨z,sy,ws,kv,hD⟩:=id (I1.hok d _ hd);obtain ⟨ep,hat⟩:=hD.dictAt;obtain ⟨ob,es,ho,hx1,hx2,hx3⟩:=id hat;obtain ⟨kv1,kv2⟩:=yoA kv;have lw:ws.length=kvs.length:=by have:=congrArg length kv1;simpa using this
 have I2:=yEY (u1:=.frz ob (.dK kvs)) I1 hd (fun _ z=>by cases z) (fun _ z=>by cases z) (fun _ z=>by cases z) nf fun x=>⟨ho,x⟩
 refine wpAny_pyIter_dict sy hat ?_;refine ⟨s1.heap.objs.size,[s1.heap.objs.size],_,_,_,rfl,I2.kept (t':=s1.toks) fun b o e=>Heap.get?_push_of_some _ e,yrD d _ ob kvs hx2,⟨_,Heap.get?_push_size _ rfl,rfl,by rw [lw];rfl⟩,fun b hb=>?_,q ob nf⟩;have e:b=s1.heap.objs.size:=by simpa using hb
 subst e;exact I2.fpOk (Nat.le_refl _) (I2.hok.fresh (Nat.le_refl _))
end
end PX
namespace PX
open PySem L2 PySem.Spec PyProof.Rows
section
variable {X:Cx}{A:Nat->Addr}
def yyg:MtR X "str.find" yqx:=by
 intro pins s Z H x xs v us Q I rx rv h;obtain ⟨z,c,rfl,rfl,hz,hm,q⟩:=h;obtain ⟨t,rfl⟩:=rx;obtain ⟨u,rfl,tu,rfl⟩:=vals1 rv;rcases yqy z c with ⟨_,h2⟩|⟨r,h1,_⟩
 .exact absurd hm h2
 .refine SC.find ?_;have e:(Txt.find z ⟨#[c]⟩:Int)=((z.cps.toList.idxOf c:Nat):Int):=by unfold Txt.find;rw [h1]
  rw [e];exact ⟨.int _,H,I.tok _,⟨_,rfl⟩,q⟩
variable {pos p apos:Pos}{x m:Str}{e:Expr}{es:List Expr}{aa:XA}{n:Nat}
def yBh {ss:List Str}(hm:X.mg x=some (.ref a)) (hk:KTp X.K a (ss.map V.str)) (nm:Nm x:=by exact ⟨by rfl',by rfl',by rfl'⟩) (hg:Gl X x:=by rfl):ZE X A (.Name x pos) (xC (.tup (ss.map PV.str))):=wE (ymK hg hm nm.d) (yun (K:=ckX X A) hk)
structure yuA (K:PySem.W.Frag) (C:Addr) (m:Str) (f:Addr):Prop where
 rd:PySem.W.readsIn K C (.type "type")=true
 fc:PySem.W.findCls K (.ref C) (.type "type") m=some (.val (.ref f))
 sp:PySem.W.specialIn K (.ref C) "__getattribute__" = some (some (.builtin "type.__getattribute__"))
 kp:keepIn K (.ref f)=true
def yyh {pl:Sem Bool}(c:yuA X.K C m f) (hg:Gl X x) (hm:X.mg x=some (.ref C)) (F:FnOk X.prog X.w X.K X.mg X.base CX k f fd ps sp) (hr:Room k X.A) (hb:Binds X.K fd ps []) (hx:yfU CX X E) (ha:PA X (e::es) t)
  (hd:(x == ("__debug__":Str))=false)
  (hst:starEach (e::es) X.env=(false,eval e X.env)::starEach es X.env) (hpl:(backTo pos (starEach es X.env)).any (·.1)=false)
  (ht:eval (.Call (.Attribute (.Name x p) m apos) (e::es) [] pos) X.env=(do
   let ov <- eval (.Name x p) X.env
   standAt apos.atName
   let (f,first) <- holding [ov] (getMethod ov m pl)
   callWith pos f first (backTo pos (starEach (e::es) X.env)) (backToKw pos (keywordEach [] X.env)))) :
  PE X (.Call (.Attribute (.Name x p) m apos) (e::es) [] pos) (yte sp [] E t):=by
 intro pins s Z H Q I h;refine PySem.W.methodCall_KW (pl:=pl) (thn (ymK (X:=X) hg hm hd pins s Z H (fun v H1=>v=.ref C/\H1=H) I ⟨rfl,rfl⟩) fun u s1 ⟨v,H1,I1,rx,ex,eh⟩=>?_) ht;subst ex eh;obtain rfl:u=Value.ref C:=rx;refine PySem.W.method_cls I1.kIn c.sp (PySem.W.cls_value I1.kIn c.rd c.fc rfl ?_);have I1:=I1.tok (s1.toks+1);refine PySem.W.callWith_K (first:=[]) (h₀:=X.base) I.ok.mod.kin c.kp (thn (ha pos pins _ Z H1 _ I1 h) fun us s2 ⟨vs,H2,I2,r,q2⟩=>⟨I2.kIn,?_⟩) hst hpl;exact ykP (us:=us) (vs:=vs) F hr hb .nil hx I2 r q2
def yyi {C f:Addr}{lv k:Nat}{fd:FuncData}{ps:List Str}{fi} {pl:Sem Bool}{o:Expr}{sp:Pos}(c:yuA X.K C m f) (hm:X.mg x=some (.ref C)) (F:FnOk X.prog X.w X.K X.mg X.base CX0 lv f fd ps (spJ (ckX X A) n k fi)) (hb:Binds X.K fd ps []) (ha:ZA X A es n aa) (nm:Nm x:=by exact ⟨by rfl',by rfl',by rfl'⟩) (hg:Gl X x:=by rfl) (hr:Room lv X.A:=by exact hr.mono (by omega)) (ho:PE X o (ypN 0):=by exact yiL rfl (by first|exact Or.inl rfl|exact Or.inr (Or.inl rfl)) (by rfl') (by rfl')) (hst:starEach (o::es) X.env=(false,eval o X.env)::starEach es X.env:=by rfl) (hpl:(backTo pos (starEach es X.env)).any (·.1)=false:=by rfl) (ht:eval (.Call (.Attribute (.Name x p) m apos) (o::es) [] pos) X.env=(do
   let ov <- eval (.Name x p) X.env
   standAt apos.atName
   let (f,first) <- holding [ov] (getMethod ov m pl)
   callWith pos f first (backTo pos (starEach (o::es) X.env)) (backToKw pos (keywordEach [] X.env))):=by rfl) (hq:swapsWith (.Call (.Attribute (.Name x p) m apos) (o::es) [] pos) none sp.line X.env=pure false:=by rfl):ZF X A (.Expr (.Call (.Attribute (.Name x p) m apos) (o::es) [] pos) sp) (xBI k fi aa) :=
 wF (yjo (yyh (E:=fun _ _ _=>False) c hg hm F hr hb ykW (yfA ho ha.of hst) nm.d hst hpl ht) hq) (yxV (K:=ckX X A) sA ha.len)
end
section
variable {P:Program}{w:World}{K:PySem.W.Frag}{mg:Str->Option Value}{base:Heap}{A:Nat->Addr}
def yFv {x qual:Str}{st:Stmt}{f:Addr}{fd:FuncData}{N ps:List Str}{k kc n:Nat}{s:XS}(F:Fun K x qual st f fd) (S:yel N ps (ybE st)) (hn:ps.length=n+1) (hN:n+1<=N.length)
  (h:∀ (cdv:Value) (Ar:Around) (outer:List Env) (sh:Shared) (H:Hp) (E:XK),Room k (Ar.deeper (envOfC qual (ybE st) sh.heap.objs.size f cdv))->ZFs (yti CX0 P w K mg base N qual (ybE st) f cdv Ar outer sh H E).nox A (yfB st) s) :
  FnOk P w K mg base CX0 (k+1) f fd ps (spJ ⟨K,A⟩ n kc (ymp N.length kc s)) :=
 F.ok S (fun _ _ _ _ h=>(yxU h).trans hn.symm) fun cdv Ar outer sh H vs Q E hr hq=>⟨_,(h cdv Ar outer sh H E hr).of,yro (K:=⟨K,A⟩) hN sF hq⟩
end
section
variable {X:Cx}{A:Nat->Addr}
end
section
variable {prog:Program}{w:World}{A:Around}{E:Value->Shared->Prop}{s:Shared}
end
section
variable {X:Cx}{A:Nat->Addr}
end
open Builtin Builtin.Str in
section
variable {prog:Program}{w:World}{A:Around}{E:Value->Shared->Prop}{s:Shared}
def ypw {x y:Str}{Q:Value->Shared->Prop}(hy:(y.length == 0)=false) (hz:x.length+2<=sizeLine)
  (h:∀ (l:List (Str×Tok)) (k:Nat),l.map (·.1)=Txt.split x y->Q (.ref s.heap.objs.size) { s with heap:=s.heap.push { cls:=.type "list",data:=.seq (strValues l).toArray },toks:=k }) :
  wpAny (model prog w) A (call (.builtin "str.split") [.str x t,.str y u]) Q E s:=by
 have h2:(partsBetween x (occurrences x y 0 x.length (x.length+1)) y.length).length<=sizeLine:=by have:=StrLaws.occ_length_le x y 0 x.length (x.length+1);rw [length_partsBetween];omega
 by_cases c1:(decide (x.length<y.length) || decide (strKind x<strKind y))=true
 .exact call_meets F.slot_str_split (typeIs_str _ _ _) F.entry_str_split (F.args_str_split_2 _ _) (meets_str_split_cannot_occur x y t u c1) (h [(x,t)] s.toks (if_pos c1).symm)
 .have c1':(decide (x.length<y.length) || decide (strKind x<strKind y))=false:=by simpa using c1
  by_cases c2:(occurrences x y 0 x.length (x.length+1)).isEmpty=true
  .exact call_meets F.slot_str_split (typeIs_str _ _ _) F.entry_str_split (F.args_str_split_2 _ _) (meets_str_split_not_found x y t u c1' hy c2) (h [(x,t)] s.toks ((if_neg c1).trans (if_pos c2)).symm)
  .refine call_meets F.slot_str_split (typeIs_str _ _ _) F.entry_str_split (F.args_str_split_2 _ _) (meets_str_split_sep x y t u c1' hy (by simpa using c2) (by omega) h2) ?_;show wants Q E _ { s with toks:=_,heap:=s.heap.push { cls:=.type "list",data:=.seq (strsFrom s.toks (partsBetween x (occurrences x y 0 x.length (x.length+1)) y.length)).toArray } };rw [strsFrom_eq];exact h _ _ ((numbered_texts _ _).trans ((if_neg c1).trans (if_neg c2)).symm)
end
def yoC (z:Str):Txt.split z " " = yrq z:=by
 have e:(" ":Str)=⟨#[32]⟩:=by rfl'
 have h:=yhJ (Txt.split z " ") (fun q=>by have:=split_pos z " ";rw [q] at this;simp at this) (by rw [e];exact StrLaws.split_free z 32);rw [StrLaws.join_split] at h;exact h.symm
theorem ylK:∀ (l:List (Str×Tok)),Vals ((l.map (·.1)).map V.str) (strValues l)
 | []=>.nil
 | (_,t)::l=>.cons ⟨t,rfl⟩ (ylK l)
section
variable {X:Cx}{A:Nat->Addr}
def yuB:MtR X "str.split" yvX:=by
 intro pins s Z H x xs v us Q I rx rv h;obtain ⟨z,rfl,rfl,hz,q⟩:=h;obtain ⟨t,rfl⟩:=rx;obtain ⟨u,rfl,ru⟩:=vals1 rv;obtain ⟨t',rfl⟩:=ru;have hs:z.length+2<=sizeLine:=by simp only [PySem.sizeLine_eq];omega
 refine ypw (by decide) hs fun l k e=>?_
 have e2:l.map (·.1)=yrq z:=e.trans (yoC z);have e3:=split_le z " ";rw [yoC] at e3;refine ⟨.ref s.heap.objs.size,_,I.laid (t':=k) (o:=.lst ((yrq z).map V.str)) (fun b o e=>Heap.get?_push_of_some _ e) (Nat.le_refl _) ?_,rfl,q _ (I.hok.fresh (Nat.le_refl _))⟩;exact ⟨by rw [length_map];exact Nat.le_trans e3 hs,strValues l,0,e2 ▸ ylK l,Heap.get?_push_size _ rfl⟩
end
section
variable {X:Cx}{pins:List (Addr×Obj)}{Z:L2.St}{H:Hp}{s:Shared}{h':Heap}
def yrE {t':Nat}{fp:List Addr}(I:Inv X pins Z H s) (k:∀ b o,b∉fp->s.heap.get? b=some o->h'.get? b=some o) (hf:∀ b∈fp,ypO X pins H b):Inv X pins Z H { s with heap:=h',toks:=t' }:=by
 have nit:∀ b u,H b=some u->b∉fp:=fun b u e z=>by rw [(hf b z).1] at e;cases e
 refine I.step (g':=s.gens) (d':=s.drawn) (ch:=fp) (fun b hb=>?_) (fun b o _ _ hc e _=>k b o hc e) (fun b o _ _ hc e _=>⟨o.slots,k b o hc e⟩) (fun _ _ _ _ n=>n)
  (fun b o hc e=>⟨o,k b o hc e⟩) (fun _ _ e=>e) (fun _ _ _ e=>e) (fun b ps e=>⟨#[],by rw [e];simp⟩) (fun m hm=>?_) (fun b u e=>?_) I.bare
 .obtain ⟨f0,f1,f2,f3,f4,f5⟩:=hf b hb;exact ⟨f3,f1,f4,f5⟩
 .obtain ⟨o,es,ep,ho,r⟩:=hm;exact ⟨o,es,ep,k _ o (fun z=>(hf _ z).2.1 rfl) ho,r⟩
 .refine (I.hok b u e).stay (fun c v hc q=>k c v ?_ q) (fun _ q=>q) fun _ _ q=>q
  rcases hc with z|z
  .rw [z];exact nit b u e
  .exact nit c _ z
end
section
noncomputable def ZSt (n a b:Addr) (i:Nat) (h:Heap):Prop:=IsZip h (n+4) (n+2) (n+3) .none/\IsPair h (n+2) (.ref n) (.ref (n+1))/\(∃ c d,IsPair h (n+3) c d)/\h.IsListIter n a i/\h.IsListIter (n+1) b i
abbrev zfp (n:Addr):List Addr:=[n+4,n+2,n+3,n,n+1]
def apN (n:Nat):n+2≠n+4/\n+3≠n+4/\n≠n+4/\n+1≠n+4/\n+2≠n+3/\n+2≠n/\n+2≠n+1/\n+3≠n/\n+3≠n+1/\n≠n+1:=by omega
def ZSt.ap (st:ZSt n a b i h) (ha:h.IsList a xs) (hb:h.IsList b ys):ZipApart (n+4) (n+2) (n+3) n (n+1) a b:=by
 obtain ⟨z0,z1,⟨c,d,z2⟩,⟨o3,e3,c3,d3⟩,⟨o4,e4,c4,d4⟩⟩:=st;obtain ⟨oa,ea,ca,_⟩:=ha;obtain ⟨ob,eb,cb,_⟩:=hb;have ne:∀ {p q:Addr}{o o':Obj},h.get? p=some o->h.get? q=some o'->o.cls≠o'.cls->p≠q:=fun e e' c z=>by subst z;rw [e] at e';cases e';exact c rfl
 obtain ⟨p0,p1,p2,p3,p4,p5,p6,p7,p8,p9⟩:=apN n;exact ⟨p0,p1,p2,p3,p4,p5,p6,p7,p8,p9,
  ne ea z0 (by rw [ca];show Value.type "list"≠Value.type "zip";decide),ne ea z2 (by rw [ca];show Value.type "list"≠Value.type "tuple";decide),ne ea e3 (by rw [ca,c3];decide),ne ea e4 (by rw [ca,c4];decide),
  ne eb z0 (by rw [cb];show Value.type "list"≠Value.type "zip";decide),ne eb z2 (by rw [cb];show Value.type "list"≠Value.type "tuple";decide),ne eb e3 (by rw [cb,c3];decide),ne eb e4 (by rw [cb,c4];decide)⟩
def ZSt.keep {h h':Heap}(st:ZSt n a b i h) (k:∀ c∈zfp n,∀ o,h.get? c=some o->h'.get? c=some o):ZSt n a b i h':=by obtain ⟨z0,z1,⟨c,d,z2⟩,z3,z4⟩:=st;exact ⟨k _ (by simp) _ z0,k _ (by simp) _ z1,⟨c,d,k _ (by simp) _ z2⟩,z3.at fun o e=>k _ (by simp) o e,z4.at fun o e=>k _ (by simp) o e⟩
def yuC {P:Program}{w:World}{K:PySem.W.Frag}{elts:List Expr}{x1} {tp:Pos}(a b n:Addr):Turn P w K (.Tuple elts x1 tp) (Itz K a b) (zfp n) (n+4) (ZSt n a b) where
 mem:=by simp
 obj:=fun i h st c hc=>by
  obtain ⟨z0,z1,⟨c,d,z2⟩,⟨o3,e3,c3,d3⟩,⟨o4,e4,c4,d4⟩⟩:=st;simp only [zfp,mem_cons,not_mem_nil,or_false] at hc;rcases hc with rfl|rfl|rfl|rfl|rfl
  .exact ⟨_,z0,fun v z=>by have z':Data.fields _=Data.cell v:=z;cases z'⟩
  .exact ⟨_,z1,fun v z=>by have z':Data.seq _ _=Data.cell v:=z;cases z'⟩
  .exact ⟨_,z2,fun v z=>by have z':Data.seq _ _=Data.cell v:=z;cases z'⟩
  .exact ⟨_,e3,fun v z=>by rw [d3] at z;cases z⟩
  .exact ⟨_,e4,fun v z=>by rw [d4] at z;cases z⟩
 keep:=fun i h h' st k=>st.keep k
 item:=by
  intro X hP hw hK hc i pins s Z H E I hf st hg;subst hP hw hK;obtain ⟨xs,ys,x,y,hx,hy,ex,ey⟩:=hg;obtain ⟨its,rv,p,hz⟩:=I.list hx;obtain ⟨its',rv',p',hz'⟩:=I.list hy;obtain ⟨u,hu,ru⟩:=rv.get ex;obtain ⟨u',hu',ru'⟩:=rv'.get ey;have D:=st.ap p.isList p'.isList;obtain ⟨z0,z1,⟨c0,d0,z2⟩,z3,z4⟩:=st;refine wpAny_pyNext_zip_item D z0 z1 z2 z3 z4 p.isList p'.isList (x:=u) (y:=u') (by simpa using hu) (by simpa using hu') fun h' a1 a2 a3 a4 a5 a6 kk=>⟨_,rfl,?_⟩
  refine wpAny_letOwnedTupleGo_zip (s:={ s with heap:=h' }) a1 fun h'' d1 sb=>?_
  have fr:H s.heap.objs.size=none:=I.hok.fresh (Nat.le_refl _);have lts:∀ c∈zfp n,c≠s.heap.objs.size:=by
   intro c hc;simp only [zfp,mem_cons,not_mem_nil,or_false] at hc;rcases hc with rfl|rfl|rfl|rfl|rfl
   .exact ne_of_lt (Heap.lt_size z0)
   .exact ne_of_lt (Heap.lt_size z1)
   .exact ne_of_lt (Heap.lt_size z2)
   .obtain ⟨_,e,_⟩:=z3;exact ne_of_lt (Heap.lt_size e)
   .obtain ⟨_,e,_⟩:=z4;exact ne_of_lt (Heap.lt_size e)
  have I1:Inv X pins Z (upd H s.heap.objs.size (.tup [x,y])) { s with heap:=s.heap.push { cls:=.type "tuple",data:=.seq #[u,u'] } } :=
   I.laid (t':=s.toks) (fun b o e=>Heap.get?_push_of_some _ e) (Nat.le_refl _) ⟨le_of_lt (yhy (show [x,y].length<=1000 by simp)),[u,u'],.cons ru (.cons ru' .nil),⟨_,Heap.get?_push_size _ rfl,rfl,_,rfl⟩⟩
  have hf':∀ c∈zfp n,ypO X pins (upd H s.heap.objs.size (.tup [x,y])) c:=fun c hc=>⟨by rw [yK (lts c hc)];exact (hf c hc).1,(hf c hc).2⟩
  have n4:s.heap.objs.size≠n+4:=fun z=>lts (n+4) (by simp) z.symm
  have I2:Inv X pins Z (upd H s.heap.objs.size (.tup [x,y])) { s with heap:=h'' }:=yrE (s:={ s with heap:=s.heap.push { cls:=.type "tuple",data:=.seq #[u,u'] } }) (t':=s.toks) I1 (fun c o hc e=>by
   have hc':c≠n+4/\c≠n+2/\c≠n+3/\c≠n/\c≠n+1:=by simpa [zfp] using hc
   rw [sb.2 c hc'.1]
   by_cases q:c=s.heap.objs.size
   .subst q;rw [show (s.heap.push { cls:=.type "tuple",data:=.seq #[u,u'] }).get? s.heap.objs.size=_ from Heap.get?_push_size _ rfl] at e;cases e;exact a5
   .have hlt:=Heap.lt_size e;have hlt:c<s.heap.objs.size:=by have:c<(s.heap.push { cls:=.type "tuple",data:=.seq #[u,u'] }).objs.size:=hlt;rw [Heap.size_push] at this;exact Nat.lt_of_le_of_ne (Nat.le_of_lt_succ this) q
    refine kk c o hc'.1 hc'.2.2.1 hc'.2.2.2.1 hc'.2.2.2.2 ?_;obtain ⟨e1,e2⟩:=Heap.get?_some_iff.mp e;refine Heap.get?_some_iff.mpr ⟨?_,e2⟩;have hne:=ne_of_lt hlt;revert e1;cases hs:s.heap;rw [hs] at hne;simp [Heap.push,Array.getElem?_push,hne]) hf'
  have z1':IsPair h'' (n+2) (.ref n) (.ref (n+1)):=sb.extBut _ _ D.TIz (kk _ _ D.TIz D.TITO D.TIi1 D.TIi2 z1);exact ⟨.ref s.heap.objs.size,_,I2,rfl,⟨_,x,y,fr,rfl,rfl,fun zs hs=>by rw [I.list_inj hs hx];exact ex,fun zs hs=>by rw [I.list_inj hs hy];exact ey⟩,
   ⟨d1,z1',⟨_,_,sb.extBut _ _ D.TOz a2⟩,a3.extBut sb.extBut D.i1z,a4.extBut sb.extBut D.i2z⟩,fun c hc=>(hf' c hc).1⟩
 done:=by
  intro X hP hw hK hc i pins s Z H E I hf st hg;subst hP hw hK;obtain ⟨xs,ys,hx,hy,hl⟩:=hg;obtain ⟨its,rv,p,hz⟩:=I.list hx;obtain ⟨its',rv',p',hz'⟩:=I.list hy;have D:=st.ap p.isList p'.isList;obtain ⟨z0,z1,⟨c0,d0,z2⟩,z3,z4⟩:=st;have hl':=rv.length;exact wpAny_pyNext_zip_end (I.ok.hd hc) D z0 z1 z2 z3 z4 p.isList p'.isList (.inl (by simp;omega)) fun h' kk=>⟨rfl,yrE (t':=s.toks) I (fun c o hc e=>by
   have hc':c≠n+4/\c≠n+2/\c≠n+3/\c≠n/\c≠n+1:=by simpa [zfp] using hc
   exact kk c o hc'.1 hc'.2.2.1 hc'.2.2.2.1 hc'.2.2.2.2 e) hf⟩
 self:=fun _ _ _ _ _ st h=>wpAny_pyIter_zip st.1 h
def yBi:bootBuiltins "zip" = some (.type "zip"):=by rfl'
variable {X:Cx}{A:Nat->Addr}{elts:List Expr}{x1:Nat}{tp p pos:Pos}{a b:Expr}{aa:XA}{n:Nat}
def yBj (hg:Gl X "zip") (hm:X.mg "zip" = none) (ha:PA X [a,b] ta) (hs:starEach [a,b] X.env=[(false,eval a X.env),(false,eval b X.env)]) (hs2:starEach [b] X.env=[(false,eval b X.env)]) :
  PI X (.Tuple elts x1 tp) (.Call (.Name "zip" p) [a,b] [] pos) (yEW X.K ta):=by
 intro pins s Z H R I h;refine Call_ (yiM I hg hm yBi (PyProof.Rows.callWith_type1 (thn (ha pos pins s Z H _ I h) fun us s1 ⟨vs,H1,I1,r1,q1⟩=>?_) (by rw [hs,hs2]) (by rw [hs2];rfl)));obtain ⟨l1,l2,e,⟨xs,hx⟩,⟨ys,hy⟩,q⟩:=q1;subst e;cases r1 with
 | cons r rr =>
  cases rr with
  | cons r' rr =>
   cases rr;cases r;cases r';obtain ⟨its,rv,p,hz⟩:=I1.list hx;obtain ⟨its',rv',p',hz'⟩:=I1.list hy;refine call_zip_2 p.isList p'.isList fun h' c1 c2 c3 c4 c5 c6 kk=>?_
   have I2:Inv X pins Z H1 { s1 with heap:=h' }:=I1.kept (t':=s1.toks) kk;refine wpAny_pyIter_zip (s:={ s1 with heap:=h' }) c1 ⟨_,zfp s1.heap.objs.size,_,_,H1,rfl,I2,yuC l1 l2 _,⟨c1,c2,⟨_,_,c3⟩,c4,c5⟩,fun c hc=>?_,q⟩;have:s1.heap.objs.size<=c:=by
    simp only [zfp,mem_cons,not_mem_nil,or_false] at hc;rcases hc with rfl|rfl|rfl|rfl|rfl
    .exact le_add_right _ _
    .exact le_add_right _ _
    .exact le_add_right _ _
    .exact Nat.le_refl _
    .exact le_add_right _ _
   obtain ⟨f0,f1,f2,f3,f4,f5⟩:=I1.fpOk this (I1.hok.fresh this);exact ⟨f0,f1,f2,f3,f4,f5⟩
def yyj {rest:List Stmt}{s:XS}{y:XG}{q:Pos}(hm:X.mg "zip" = none) (ha:ZA X A [a,b] n aa) (hg:ZG X A (.Tuple elts x1 tp) y) (hb:ZSs X A rest s) (hp:PassesOwn (model X.prog X.w) X.A X.env X.xe:=by exact PassesOwn.never) (hc:X.calm=true:=by rfl) (hgl:Gl X "zip":=by rfl) (hs1:starEach [a,b] X.env=[(false,eval a X.env),(false,eval b X.env)]:=by rfl) (hs2:starEach [b] X.env=[(false,eval b X.env)]:=by rfl) (hs:∀ x,foldedSetIterable (.Call (.Name "zip" p) [a,b] [] pos) X.env x=pure x:=by exact fun _=>rfl):ZS X A (.For (.Tuple elts x1 tp) (.Call (.Name "zip" p) [a,b] [] pos) rest [] q) (yhm (xIZ aa) y s) :=
 wS (ynQ hp hc (yBj hgl hm ha.of hs1 hs2) hg.of hb.of hs) (yuq (K:=ckX X A) (yup sA) sG sS)
end
section
variable {X:Cx}{A:Nat->Addr}{pos:Pos}
end
section
variable {X:Cx}{A:Nat->Addr}{a:Expr}{es:List Expr}{p pos:Pos}{x:Str}{aa:XA}{n lv:Nat}{f:Addr}{fd:FuncData}{ps:List Str}{fn:Fn}
end
section
variable {X:Cx}{A:Nat->Addr}{tg a b c:Expr}{p pos:Pos}{aa:XA}{n:Nat}
end
section
variable {X:Cx}{A:Nat->Addr}{tg a:Expr}{p pos:Pos}{xa:XE}{x:Str}{es:List Expr}{aa:XA}{n:Nat}
def yrF (M:Mk X.K (A k) f) (F:FnOk X.prog X.w X.K X.mg X.base CX0 lv f fd ps (spE (ckX X A) (n+1+1) fn)) (hm:X.mg x=some (.ref (A k))) (hb:Binds X.K fd ps []) (ha:ZA X A (a::es) (n+1) aa) (hr:Room (lv+1) X.A:=by exact hr.mono (by omega)) (m:Nm x:=by exact ⟨by rfl',by rfl',by rfl'⟩) (hg:Gl X x:=by rfl) (he:starEach (a::es) X.env=(false,eval a X.env)::starEach es X.env:=by rfl) (hpl:(backTo pos (starEach es X.env)).any (·.1)=false:=by rfl):ZE X A (.Call (.Name x p) (a::es) [] pos) (yhK k fn aa) :=
 wE (yqn M F hr hg hm hb .nil ykW ha.of m.d he hpl) (yrt (K:=ckX X A) (k:=k) sA ha.len)
def yoD (hc:X.calm=true):yfz X (.builtin "any") yEX:=by
 intro pins s Z H xs us Q I r h;obtain ⟨p,bs,rfl,hp,q⟩:=h;obtain ⟨u,rfl,rx⟩:=vals1 r;cases rx;obtain ⟨its,n,rv,e,hz⟩:=I.lst hp;have eb:=yju rv;subst eb;have hl:s.heap.IsList p (bs.map Value.bool).toArray:=⟨_,e,rfl,n,rfl⟩
 have hlt:p<s.heap.objs.size:=Heap.lt_size e;refine call_any_walk (wpAny_pyIter_list hl ?_);refine ⟨s.heap.objs.size,[s.heap.objs.size,p],[s.heap.objs.size],(bs.map Value.bool).toArray.size,_,_,fun i=>(bs[i]?).getD false,rfl,Walks.list (A:=X.A.in1) (I.ok.hd hc) _ p (ne_of_lt hlt) _,
  ⟨⟨_,Heap.get?_push_size _ rfl,rfl,rfl⟩,hl.push _⟩,fun i v s' Q' E' hP hQ=>?_,fun h' tk hk=>?_⟩
 .have hP:(bs.map Value.bool)[i]?=some v:=by simpa using hP
  rw [getElem?_map] at hP;cases eb:bs[i]? with
  | none=>rw [eb] at hP;cases hP
  | some b =>
   rw [eb] at hP;cases hP;simp only [eb,Option.getD_some] at hQ;exact wpAny_truthy_bool hQ
 .have ea:((List.range (bs.map Value.bool).toArray.size).any fun i=>(bs[i]?).getD false)=bs.any id:=by rw [size_toArray,length_map];exact LSm.range_any bs
  rw [ea];exact ⟨.bl _,H,I.kept (t':=tk) fun b o eo=>hk b o (fun hm=>by rw [List.mem_singleton.mp hm] at eo;exact absurd (Heap.lt_size eo) (lt_irrefl _)) (Heap.get?_push_of_some _ eo),rfl,q⟩
def yhO {elt iter:Expr}{px:Pos}{scope:Scope}{cpos:Pos}{xe:XE}{ix:List Nat}(fr:List Str) (hi:ZE X A iter xa) (he:∀ (cl:List (Str×Addr)) (C:Addr) (s₃:Shared) (H₃:Hp) (fp:List Addr) (pins:List (Addr×Obj)),ZE (cxC X scope cl C (x::fr) s₃ H₃ fp pins) A elt xe) (hc:X.calm=true:=by rfl) (hfr:FrOk X scope ix fr:=by repeat' first|exact True.intro|exact rfl|refine And.intro ?_ ?_) (hnd:(x::fr).Nodup:=by rfl') (hkind:scope.kind=.function:=by rfl) (hcell:∀ y∈scope.names,y.2≠.cell:=by rfl') (hnames:∀ y∈scope.names,y.2=.local->scope.names.lookup y.1=some .local:=by rfl') (hfree0:∀ y∈scope.names,y.2=.free->y.1∈fr:=by rfl') (hx:scope.names.lookup x=some .local:=by rfl) (hs:∀ v,foldedSetIterable iter X.env v=pure v:=by exact fun _=>rfl):ZO X A (.ListComp elt [⟨.Name x px,iter,[],0⟩] scope cpos) (ydu xa ix xe) :=
 wO (yxX (yjX ix fr hc (yjp hi.of) hfr (te:=cE (ckX X A) xe) (fun cl C s₃ H₃ fp pins=>(he cl C s₃ H₃ fp pins).of) (fun _ _ _ _ _ _=>.nil) hnd hkind hcell hnames hfree0 hx hs)) (ylF (K:=ckX X A) ix sE sE)
end
open KasS PXS
section
variable {X:Cx}{A:Nat->Addr}{xa:XE}{x:Str}
def yyk {elt iter:Expr}{px:Pos}{scope:Scope}{cpos:Pos}{xe:XE}{ix:List Nat}(fr:List Str) (hi:ZE X A iter xa) (he:∀ (cl:List (Str×Addr)) (C:Addr) (s₃:Shared) (H₃:Hp) (fp:List Addr) (pins:List (Addr×Obj)),ZE (cxC X scope cl C (x::fr) s₃ H₃ fp pins) A elt xe) (hc:X.calm=true:=by rfl) (hfr:FrOk X scope ix fr:=by repeat' first|exact True.intro|exact rfl|refine And.intro ?_ ?_) (hnd:(x::fr).Nodup:=by rfl') (hkind:scope.kind=.function:=by rfl) (hcell:∀ y∈scope.names,y.2≠.cell:=by rfl') (hnames:∀ y∈scope.names,y.2=.local->scope.names.lookup y.1=some .local:=by rfl') (hfree0:∀ y∈scope.names,y.2=.free->y.1∈fr:=by rfl') (hx:scope.names.lookup x=some .local:=by rfl) (hs:∀ v,foldedSetIterable iter X.env v=pure v:=by exact fun _=>rfl):ZO X A (.ListComp elt [⟨.Name x px,iter,[],0⟩] scope cpos) (yjb xa ix xe):=by
 have pe:PE X (.ListComp elt [⟨.Name x px,iter,[],0⟩] scope cpos) (yvY (NF X) (cE (ckX X A) xa) ix (cE (ckX X A) xe)):=by
  intro pins s Z H Q I h;refine thn (yxX (yjX ix fr hc (yyf hi.of) hfr (te:=cE (ckX X A) xe) (fun cl C s₃ H₃ fp pins=>(he cl C s₃ H₃ fp pins).of) (fun _ _ _ _ _ _=>.nil) hnd hkind hcell hnames hfree0 hx hs) pins s Z H _ I h) fun v s1 ⟨y,H1,I1,r1,d,ob,kvs,nf,hd,q⟩=>?_
  exact ⟨y,_,yEY (u1:=.dK kvs) I1 hd (fun _ z=>by cases z) (fun _ z=>by cases z) (fun _ z=>by cases z) nf fun x=>x.2,r1,q⟩
 exact wO pe (yru (K:=ckX X A) ix sE sE)
end
end PX
namespace PX
open PySem L2 PySem.Spec PyProof.Rows
variable {X:Cx}{A:Nat->Addr}{x y:Str}{py spos:Pos}{iy:Nat}
def yrG {elt iter:Expr}{px:Pos}{scope:Scope}{cpos:Pos}{xa:XE}{xe:XE}{ix:List Nat}(fr:List Str) (hi:ZE X A iter xa) (he:∀ (cl:List (Str×Addr)) (C:Addr) (s₃:Shared) (H₃:Hp) (fp:List Addr) (pins:List (Addr×Obj)),ZE (cxC X scope cl C (x::fr) s₃ H₃ fp pins) A elt xe) (hc:X.calm=true:=by rfl) (hfr:FrOk X scope ix fr:=by repeat' first|exact True.intro|exact rfl|refine And.intro ?_ ?_) (hnd:(x::fr).Nodup:=by rfl') (hkind:scope.kind=.function:=by rfl) (hcell:∀ y∈scope.names,y.2≠.cell:=by rfl') (hnames:∀ y∈scope.names,y.2=.local->scope.names.lookup y.1=some .local:=by rfl') (hfree0:∀ y∈scope.names,y.2=.free->y.1∈fr:=by rfl') (hx:scope.names.lookup x=some .local:=by rfl) (hs:∀ v,foldedSetIterable iter X.env v=pure v:=by exact fun _=>rfl) (hN:X.N.Nodup:=by exact nd) (hyi:X.N[iy]?=some y:=by rfl) (hyx:Loc X.env.scope y:=by first|exact Or.inl rfl|exact Or.inr rfl) (hyf:X.fn y=true\/X.env.scope.names.lookup y=some .local:=by exact Or.inl rfl) (hsw:swapsWith (.ListComp elt [⟨.Name x px,iter,[],0⟩] scope cpos) (some (.Name y py)) spos.line X.env=pure true:=by rfl):ZS X A (.Assign [.Name y py] (.ListComp elt [⟨.Name x px,iter,[],0⟩] scope cpos) spos) (ybq (yfo (ydu xa ix xe)) (yn iy)) :=
 wS (yAW (yov ix fr hc (yjp hi.of) hfr (te:=cE (ckX X A) xe) (fun cl C s₃ H₃ fp pins=>(he cl C s₃ H₃ fp pins).of) (fun _ _ _ _ _ _=>.nil) hnd hkind hcell hnames hfree0 hx hs hN hyi hyx hyf hsw)) (ymZ (ymW (ylF (K:=ckX X A) ix sE sE)) (yfW iy))
end PX
namespace My
open PySem L2 PX
def yEZ:("":Str).length=0:=by rfl'
def yBk:(" ( let c ":Str).length=9:=by rfl'
def yBl:(" )":Str).length=2:=by rfl'
def yBm:(" ; ":Str).length=3:=by rfl'
def yBn:(" ; put a c":Str).length=10:=by rfl'
def yBo:(" ; put a h ; take b a ; throw x c ) on x e ( ":Str).length=45:=by rfl'
def yBp:(" ; take b a":Str).length=11:=by rfl'
def yBq:(" ; take b a ; if b ( ) else ( wait )":Str).length=36:=by rfl'
def yBr:(" ; take b a ; if b ( minus b b h ; put a b ; put d h ) else ( wait )":Str).length=68:=by rfl'
def yyl:(" ; take b a ; if b ( throw y b ) else ( )":Str).length=41:=by rfl'
def yym:(" ; take b a ; plus b b h ; put a b":Str).length=34:=by rfl'
def yyn:(" ; take b a ; put a h ; if b ( wait ) else ( ) ) or":Str).length=51:=by rfl'
def yyo:(" ; take b a ; take e d ; less f b e ; if f ( put a e ; put d b ) else ( )":Str).length=73:=by rfl'
def yyp:(" ; take f d )":Str).length=13:=by rfl'
def yyq:("abcdefgh":Str).length=8:=by rfl'
def yyr:("either ( ":Str).length=9:=by rfl'
def yDV:("let a ":Str).length=6:=by rfl'
def yys:("let c ":Str).length=6:=by rfl'
def yDW:("let d ":Str).length=6:=by rfl'
def yyt:("try ( ":Str).length=6:=by rfl'
section
def sl_ (s:String):Array (Lean.TSyntax `Lean.Parser.Tactic.simpLemma):=(s.splitOn " ").toArray.map fun s=>⟨Lean.mkNode `Lean.Parser.Tactic.simpLemma #[Lean.mkNullNode,Lean.mkNullNode,Lean.mkIdent s.toName]⟩
local macro_rules | `(tactic| simpa [$ls,*])=>`(tactic| simp only [$(sl_ "ybw yDc yxB yAw yAx x_c yDe yDf yFo yEO yxC yvO yAy yDg yFp yDh yFq ytQ yAz yDi yDj yzi yDk yDl x_call yFr yDm yAA yxD yAB yvP yjH ypn yDn yoe ynf yAC ytR yAD yAE yDo yDp yDq yDr yqW yDs yDt x_i yCp yjI ylu yDu yDv yDw yDx yDy yDz yAF yqX yjJ yDA yxE yDB yDC yAG yxF yDD yDE yAH ytS yqY yAI yAJ yqZ yxG yra yDd bind_some Option.bind_none List.set_cons_zero List.set_cons_succ length_cons length_nil decide_eq_true_eq Bool.not_eq_true' decide_eq_false_iff_not if_true if_false ite_true ite_false and_self Int.reducePow Int.reduceToNat Int.reduceLT Int.reduceLE Int.reduceNeg Int.reduceAdd Int.reduceSub Nat.reduceLT Nat.reduceLeDiff Nat.reduceAdd true_and and_true reduceIte Nat.reduceEqDiff eq_self yEQ yFu yDJ yDK yDL yDM Int.reduceEq Bool.not_true Bool.not_false yBk yBl yBm yBn yBo yBp yBq yBr yyl yym yyn yyo yyp yyq yyr yys yyt"),*,$ls,*])
local macro_rules | `(tactic| symm)=>`(tactic| simpa [ybw])
def tbO (cs:List Nat):List (Nat×Nat×Bool):=cs.flatMap fun i=>cs.map fun j=>(i,j,i == j)
def yfH:List (Nat×Nat×Bool):=tbO [1,2,3,4,5,6,7,8,9]
def yft:List PV->AH->Option (Nd×AH):=ymp 1 11 (yl (ycu [11] 0 "stack" (yfo (yec (yc (yfo (ypp)) (yh))))) (ycu [11] 0 "last_seen" (yfo (ypp))))
def yes:Fn:=ybl 4 (yl (ybq (xOp (ybM) (ybb [11] "stack" (ye 0)) (xUn yAj (xC (.int 1)))) (yn 3)) (yjQ (ye 3) (ye 1) (ye 2)))
def yed:Fn:=ybl 3 (yl (yjU true (ybb [11] "stack" (ye 0)) (yn 2) (ybN (yz (yzj false (ye 1) (ye 2))) (yO (yhF (ye 2) (ye 1))) (yS))) (yO (xC .non)))
def yet:Fn:=ybl 1 (yY (xBM yea (yeN) (ybb [11] "stack" (ye 0)) (yc (yfo (ypp)) (yh))))
def ydO:Fn:=ybl 3 (yl (ybq (xBM yea (ygY) (ybb [11] "stack" (ye 0)) (yh)) (yn 1)) (yl (ybq (xOp (ybM) (ybb [11] "stack" (ye 0)) (xUn yAj (xC (.int 1)))) (yn 2)) (yY (xBM yps (yzk) (ye 2) (yc (ye 1) (yh))))))
def yfe:Fn:=ybl 1 (yY (xBM yea (ygY) (ybb [11] "stack" (ye 0)) (yh)))
def ygc:Fn:=ybl 3 (yjQ (ybb [11] "last_seen" (ye 0)) (ye 1) (ye 2))
def yeP:Fn:=ybl 1 (yO (xFz (yiZ (ybb [11] "last_seen" (ye 0)))))
def yeu:Fn:=ybl 2 (yl (ybq (xOp (ybM) (ybb [11] "stack" (ye 0)) (xC (.int 0))) (yn 1)) (yO (xFz (yiZ (ye 1)))))
def yho:Fn:=ybl 3 (yl (ybN (yz (xOp (oEq) (ye 0) (xC (.str "plus")))) (yO (xOp oMod (xOp yfd (ye 1) (ye 2)) (xC (.int 18446744073709551616)))) (yS)) (yl (ybN (yz (xOp (oEq) (ye 0) (xC (.str "minus")))) (yO (xOp oMod (xOp yvM (ye 1) (ye 2)) (xC (.int 18446744073709551616)))) (yS)) (yl (ybN (yz (xOp (oEq) (ye 0) (xC (.str "times")))) (yO (xOp oMod (xOp yxu (ye 1) (ye 2)) (xC (.int 18446744073709551616)))) (yS)) (yl (ybN (yz (xOp (oEq) (ye 0) (xC (.str "less")))) (yO (xIf (yz (xOp (oLt) (ye 1) (ye 2))) (xC (.int 1)) (xC (.int 0)))) (yS)) (yO (xIf (yz (xOp (oEq) (ye 1) (ye 2))) (xC (.int 1)) (xC (.int 0))))))))
def yee:Fn:=ybl 1 (yO (yjA (xCB (ymq yfH) (yc (ye 0) (yc (xC (.ty "int")) (yh)))) (ywX (xCB (ymq yfH) (yc (ye 0) (yc (xC (.ty "bool")) (yh)))))))
def ycZ:Fn:=ybl 1 (yO (yjA (yW yee (yc (ye 0) (yh))) (yfn (oLe) (oLt) (xC (.int 0)) (ye 0) (xC (.int 18446744073709551616)))))
def ydh:Fn:=ybl 2 (yO (xCB (yvN) (yc (xFz (yfj (xIS (ye 0)) [1] (xOp (yCo) (ye 0) (ye 1)))) (yh))))
def yev:Fn:=ybl 2 (yl (ybN (xOr (ymo (yz (yfn (oLe) (oLe) (xC (.int 1)) (xCB (ynb) (yc (ye 0) (yh))) (xC (.int 20))))) (ymo (yz (yW ydh (yc (ye 0) (yc (xC (.str "0123456789")) (yh))))))) (yO (xC .non)) (yS)) (yl (ybN (yvH (yz (xOp (oEq) (xOp (yAn) (ye 0) (xC (.int 0))) (xC (.str "0")))) (yz (xOp (oNe) (ye 0) (xC (.str "0"))))) (yO (xC .non)) (yS)) (yl (ybq (xCB (yqT) (yc (ye 0) (yh))) (yn 1)) (yO (xIf (yz (xOp (oLt) (ye 1) (xC (.int 18446744073709551616)))) (ye 1) (xC .non))))))
def yhP:Fn:=ybl 1 (yO (xOp (yDH false) (ye 0) (xC (.tup [.str "plus",.str "minus",.str "times",.str "less",.str "same"]))))
def yhQ:Fn:=ybl 1 (yO (yjA (xOp (oEq) (xCB (ynb) (yc (ye 0) (yh))) (xC (.int 1))) (xOp (yCo) (ye 0) (xC (.str "abcdefgh")))))
def ydP:Fn:=ybl 1 (yO (xBM isStr (yne) (xC (.str "abcdefgh")) (yc (ye 0) (yh))))
def yhR:Fn:=ybl 1 (yO (yjA (yfn (oLe) (oLe) (xC (.int 1)) (xCB (ynb) (yc (ye 0) (yh))) (xC (.int 8))) (yW ydh (yc (ye 0) (yc (xC (.str "abcdefghijklmnopqrstuvwxyz")) (yh))))))
def yeQ:List PV->AH->Option (Nd×AH):=ymp 3 12 (yl (ycu [12] 0 "held" (yfo (yfc (yM) (yc (ye 1) (yh))))) (yl (ycu [12,14] 0 "width" (ye 2)) (ycu [12] 0 "log" (yfo (yfD yft (yh))))))
def ybc:Fn:=ybl 2 (yO (xOp (ybM) (ybb [12] "held" (ye 0)) (yW ydP (yc (ye 1) (yh)))))
def ybW:Fn:=ybl 3 (ygZ (ybb [12] "held" (ye 0)) (yW ydP (yc (ye 1) (yh))) (ye 2))
def ybI:Fn:=ybl 2 (yO (xOp oMod (yg 12 "held_in" ybc (ye 0) (yc (ye 1) (yh))) (ybb [12,14] "width" (ye 0))))
def ybZ:Fn:=ybl 5 (yY (yg 12 "hold" ybW (ye 0) (yc (ye 2) (yc (yW yho (yc (ye 1) (yc (yg 12 "held_in" ybc (ye 0) (yc (ye 3) (yh))) (yc (yg 12 "held_in" ybc (ye 0) (yc (ye 4) (yh))) (yh))))) (yh)))))
def ycO:Fn:=ybl 3 (yY (yg 11 "write" yes (ybb [12] "log" (ye 0)) (yc (yg 12 "box_at" ybI (ye 0) (yc (ye 1) (yh))) (yc (yg 12 "held_in" ybc (ye 0) (yc (ye 2) (yh))) (yh)))))
def ydf:Fn:=ybl 2 (yO (xOp (yxy) (yg 11 "own" yed (ybb [12] "log" (ye 0)) (yc (yg 12 "box_at" ybI (ye 0) (yc (ye 1) (yh))) (yh))) (xC .non)))
def yck:Fn:=ybl 3 (yY (yg 12 "hold" ybW (ye 0) (yc (ye 1) (yc (yg 11 "own" yed (ybb [12] "log" (ye 0)) (yc (yg 12 "box_at" ybI (ye 0) (yc (ye 2) (yh))) (yh))) (yh)))))
def ycC:Fn:=ybl 5 (yl (ybq (yg 12 "box_at" ybI (ye 0) (yc (ye 2) (yh))) (yn 4)) (yl (yY (yg 11 "see" ygc (ybb [12] "log" (ye 0)) (yc (ye 4) (yc (xOp (ybM) (ye 3) (ye 4)) (yh))))) (yY (yg 12 "hold" ybW (ye 0) (yc (ye 1) (yc (xOp (ybM) (ye 3) (ye 4)) (yh)))))))
def yhS:Fn:=ybl 2 (yl (ybN (yz (xOp (oEq) (xOp (ybx) (ye 1) (xC (.int 0))) (xC (.str "wait")))) (yO (xOp (oEq) (xOp (ybx) (ye 0) (xC (.int 0))) (xC (.str "either")))) (yS)) (yO (yjA (xOp (oEq) (xOp (ybx) (ye 0) (xC (.int 0))) (xC (.str "guard"))) (xOp (oEq) (xOp (ybx) (ye 0) (xC (.int 1))) (xOp (ybx) (ye 1) (xC (.int 1)))))))
def yeb:List PV->AH->Option (Nd×AH):=ymp 4 12 (yl (xBI 12 yeQ (yc (ye 2) (yc (ye 3) (yh)))) (yl (ycu [12] 0 "rows" (ye 1)) (yl (ycu [10,12] 0 "at" (xC (.int 0))) (yl (ycu [12] 0 "seen_stamps" (yfo (ypp))) (ycu [12] 0 "sides" (yfo (yec (yh))))))))
def ydA:Fn:=ybl 1 (yO (xOp (ybM) (ybb [12] "rows" (ye 0)) (ybb [10,12] "at" (ye 0))))
def ycz:Fn:=ybl 2 (yO (xCB (yur) (yc (xFz (yjb (ybb [12] "seen_stamps" (ye 0)) [1,0] (xOp (oNe) (xOp (ybM) (ye 1) (ye 0)) (yhF (ybb [12] "seen_stamps" (ye 2)) (ye 0))))) (yh))))
def ybe:Fn:=ybl 3 (yl (ybq (xCB (ybU) (yc (ybb [12] "sides" (ye 0)) (yh))) (yn 2)) (yl (yfp 1000 (yvH (yz (xOp (oGt) (ye 2) (xC (.int 0)))) (ymo (yz (yW yhS (yc (xOp (ybx) (xOp (ybM) (ybb [12] "sides" (ye 0)) (xOp yvM (ye 2) (xC (.int 1)))) (xC (.int 0))) (yc (ye 1) (yh))))))) (ybq (xOp yvM (ye 2) (xC (.int 1))) (yn 2))) (yO (ye 2))))
def loB:XS:=(yl (ybN (yz (xOp (oEq) (xOp (ybx) (ye 1) (xC (.int 0))) (xC (.str "take")))) (yO (yg 12 "sees_at" ydf (ye 0) (yc (xOp (ybx) (ye 1) (xC (.int 2))) (yh)))) (yS)) (yl (ybN (xOr (yz (xOp (oEq) (xOp (ybx) (ye 1) (xC (.int 0))) (xC (.str "wait")))) (yz (xOp (oEq) (xOp (ybx) (ye 1) (xC (.int 0))) (xC (.str "throw"))))) (yO (xOp (oEq) (yg 12 "taker_layer" ybe (ye 0) (yc (ye 1) (yh))) (xC (.int 0)))) (yS)) (yO (xOp (oEq) (xOp (ybx) (ye 1) (xC (.int 0))) (xC (.str "lay"))))))
def ybo:Fn:=ybl 2 (yl (ybq (yg 12 "row" ydA (ye 0) (yh)) (yn 1)) loB)
def ydg:Fn:=ybl 5 (yl (ybq (yg 12 "row" ydA (ye 0) (yh)) (yn 3)) (yl (ybq (yg 12 "box_at" ybI (ye 0) (yc (xOp (ybx) (ye 3) (xC (.int 2))) (yh))) (yn 4)) (yl (yjQ (ybb [12] "seen_stamps" (ye 0)) (ye 4) (xOp (ybM) (ye 2) (ye 4))) (yl (yY (yg 12 "take_seen" ycC (ye 0) (yc (xOp (ybx) (ye 3) (xC (.int 1))) (yc (xOp (ybx) (ye 3) (xC (.int 2))) (yc (ye 1) (yh)))))) (yl (ycX [10,12] "at" (ye 0) (xOp yfd (ybb [10,12] "at" (ye 0)) (xC (.int 1)))) (yO (ye 4)))))))
def yC:Fn:=ybl 2 (ybN (yz (xOp (oEq) (xOp (ybx) (ye 1) (xC (.int 0))) (xC (.str "let")))) (yY (yg 12 "hold" ybW (ye 0) (yc (xOp (ybx) (ye 1) (xC (.int 1))) (yc (xOp (ybx) (ye 1) (xC (.int 2))) (yh))))) (ybN (yz (xOp (oEq) (xOp (ybx) (ye 1) (xC (.int 0))) (xC (.str "take")))) (yY (yg 12 "take_own" yck (ye 0) (yc (xOp (ybx) (ye 1) (xC (.int 1))) (yc (xOp (ybx) (ye 1) (xC (.int 2))) (yh))))) (ybN (yz (xOp (oEq) (xOp (ybx) (ye 1) (xC (.int 0))) (xC (.str "put")))) (yY (yg 12 "do_put" ycO (ye 0) (yc (xOp (ybx) (ye 1) (xC (.int 1))) (yc (xOp (ybx) (ye 1) (xC (.int 2))) (yh))))) (yY (yg 12 "do_reckon" ybZ (ye 0) (yc (xOp (ybx) (ye 1) (xC (.int 0))) (yc (xOp (ybx) (ye 1) (xC (.int 1))) (yc (xOp (ybx) (ye 1) (xC (.int 2))) (yc (xOp (ybx) (ye 1) (xC (.int 3))) (yh))))))))))
def ybO:Fn:=ybl 2 (ybN (yz (xOp (oEq) (xOp (ybx) (ye 1) (xC (.int 0))) (xC (.str "jump")))) (ycX [10,12] "at" (ye 0) (xOp (ybx) (ye 1) (xC (.int 1)))) (ybN (yz (xOp (oEq) (yg 12 "held_in" ybc (ye 0) (yc (xOp (ybx) (ye 1) (xC (.int 1))) (yh))) (xC (.int 0)))) (ycX [10,12] "at" (ye 0) (xOp (ybx) (ye 1) (xC (.int 2)))) (yS)))
abbrev lvC:XT:=(yz (xOp (oGe) (xCB (ybU) (yc (ybb [12] "sides" (ye 0)) (yh))) (ye 2)))
abbrev lvB:XS:=(yl (yY (xBM yea (ygY) (ybb [12] "sides" (ye 0)) (yh))) (yY (yg 11 "drop" yfe (ybb [12] "log" (ye 0)) (yh))))
def ycl:Fn:=ybl 5 (yl (ybq (yg 12 "taker_layer" ybe (ye 0) (yc (ye 1) (yh))) (yn 2)) (yl (ybq (xOp (ybM) (ybb [12] "sides" (ye 0)) (xOp yvM (ye 2) (xC (.int 1)))) (yn 3)) (yl (yfp 1000 lvC lvB) (yl (ybq (xOp (ybx) (ye 3) (xC (.int 0))) (yn 4)) (yl (ycX [12] "held" (ye 0) (yfo (yfc (yM) (yc (xOp (ybx) (ye 3) (xC (.int 1))) (yh))))) (yl (ycX [10,12] "at" (ye 0) (xOp (ybx) (ye 4) (xUn yAj (xC (.int 1))))) (yO (ye 4))))))))
def ycF:Fn:=ybl 4 (yl (ybq (yg 12 "held_in" ybc (ye 0) (yc (xOp (ybx) (ye 1) (xC (.int 2))) (yh))) (yn 2)) (yl (ybq (yg 12 "leave" ycl (ye 0) (yc (ye 1) (yh))) (yn 3)) (yY (yg 12 "hold" ybW (ye 0) (yc (xOp (ybx) (ye 3) (xC (.int 2))) (yc (ye 2) (yh)))))))
def goS:XS:=(yl (yY (xBM yea (ygY) (ybb [12] "sides" (ye 0)) (yh))) (yY (yg 11 "settle" ydO (ybb [12] "log" (ye 0)) (yh))))
def goE:XS:=(yl (yY (xBM yea (yeN) (ybb [12] "sides" (ye 0)) (yc (yfC (yc (ye 1) (yc (xFz (yfc (yM) (yc (ybb [12] "held" (ye 0)) (yh)))) (yh)))) (yh)))) (yY (yg 11 "begin" yet (ybb [12] "log" (ye 0)) (yh))))
def goB:XS:=(ybN (yz (xOp (oEq) (xOp (ybx) (ye 1) (xC (.int 0))) (xC (.str "wait")))) (yY (yg 12 "leave" ycl (ye 0) (yc (ye 1) (yh)))) (ybN (yz (xOp (oEq) (xOp (ybx) (ye 1) (xC (.int 0))) (xC (.str "throw")))) (yY (yg 12 "throw" ycF (ye 0) (yc (ye 1) (yh)))) (ybN (xOr (yz (xOp (oEq) (xOp (ybx) (ye 1) (xC (.int 0))) (xC (.str "jump")))) (yz (xOp (oEq) (xOp (ybx) (ye 1) (xC (.int 0))) (xC (.str "unless"))))) (yY (yg 12 "lead" ybO (ye 0) (yc (ye 1) (yh)))) (ybN (xOr (yz (xOp (oEq) (xOp (ybx) (ye 1) (xC (.int 0))) (xC (.str "either")))) (yz (xOp (oEq) (xOp (ybx) (ye 1) (xC (.int 0))) (xC (.str "guard"))))) goE (ybN (yz (xOp (oEq) (xOp (ybx) (ye 1) (xC (.int 0))) (xC (.str "settle")))) goS (yY (yg 12 "go_plain" yC (ye 0) (yc (ye 1) (yh)))))))))
def ycf:Fn:=ybl 2 (yl (ybq (yg 12 "row" ydA (ye 0) (yh)) (yn 1)) (yl (ycX [10,12] "at" (ye 0) (xOp yfd (ybb [10,12] "at" (ye 0)) (xC (.int 1)))) goB))
def ycm:Fn:=ybl 1 (yl (ybN (yz (xOp (oEq) (ybb [14] "nth" (ye 0)) (xCB (ybU) (yc (ybb [14] "deeds" (ye 0)) (yh))))) (yO (xC (.str "ended"))) (yS)) (yO (xIf (yz (ybb [14] "sleeps" (ye 0))) (xC (.str "asleep")) (xC (.str "awake")))))
def yca:Fn:=ybl 2 (yl (ybq (xIf (yz (xOp (oLt) (ybb [14] "nth" (ye 0)) (xCB (ybU) (yc (ybb [14] "deeds" (ye 0)) (yh))))) (xOp (ybM) (ybb [14] "deeds" (ye 0)) (ybb [14] "nth" (ye 0))) (xFz (yec (yh)))) (yn 1)) (yO (yfo (yfD yeb (yc (ye 1) (yc (ybb [14] "before" (ye 0)) (yc (ybb [12,14] "width" (ye 0)) (yh))))))))
def ybP:Fn:=ybl 1 (yl (ycX [14] "sleeps" (ye 0) (xC (.bl false))) (ycX [14] "run" (ye 0) (yg 14 "new_run" yca (ye 0) (yh))))
def ycg:Fn:=ybl 1 (ycX [14] "sleeps" (ye 0) (xC (.bl true)))
def ydQ:Fn:=ybl 2 (yl (ycX [14] "nth" (ye 0) (xOp yfd (ybb [14] "nth" (ye 0)) (xC (.int 1)))) (yl (ycX [14] "before" (ye 0) (xFz (yfc (yM) (yc (ye 1) (yh))))) (ycX [14] "run" (ye 0) (yg 14 "new_run" yca (ye 0) (yh)))))
def ybz:Fn:=ybl 3 (yl (ycX [14] "deeds" (ye 0) (xFz (yfc (yM) (yc (ye 1) (yh))))) (yl (ycX [12,14] "width" (ye 0) (ye 2)) (yl (ycX [14] "nth" (ye 0) (xC (.int 0))) (yl (ycX [14] "sleeps" (ye 0) (xC (.bl false))) (yl (ycX [14] "before" (ye 0) (xFz (ypP yAp (xFz (yec (yc (xC (.int 0)) (yh)))) (xCB (ynb) (yc (xC (.str "abcdefgh")) (yh)))))) (ycX [14] "run" (ye 0) (yg 14 "new_run" yca (ye 0) (yh))))))))
def yfu:List PV->AH->Option (Nd×AH):=ymp 3 1 (yl (ycu [1,2,3,4,5,7,8] 0 "slot" (ye 1)) (ycu [1] 0 "number" (ye 2)))
def yef:List PV->AH->Option (Nd×AH):=ymp 5 2 (yl (ycu [2] 0 "word" (ye 1)) (yl (ycu [1,2,3,4,5,7,8] 0 "slot" (ye 2)) (yl (ycu [2] 0 "one" (ye 3)) (ycu [2] 0 "other" (ye 4)))))
def yeR:List PV->AH->Option (Nd×AH):=ymp 3 3 (yl (ycu [1,2,3,4,5,7,8] 0 "slot" (ye 1)) (ycu [3,4] 0 "place" (ye 2)))
def yfv:List PV->AH->Option (Nd×AH):=ymp 3 4 (yl (ycu [3,4] 0 "place" (ye 1)) (ycu [1,2,3,4,5,7,8] 0 "slot" (ye 2)))
def ygd:List PV->AH->Option (Nd×AH):=ymp 4 5 (yl (ycu [1,2,3,4,5,7,8] 0 "slot" (ye 1)) (yl (ycu [5,6,7] 0 "parts" (xFz (yfc (yM) (yc (ye 2) (yh))))) (ycu [5,6,7] 0 "others" (xFz (yfc (yM) (yc (ye 3) (yh)))))))
def yeg:List PV->AH->Option (Nd×AH):=ymp 3 6 (yl (ycu [5,6,7] 0 "parts" (xFz (yfc (yM) (yc (ye 1) (yh))))) (ycu [5,6,7] 0 "others" (xFz (yfc (yM) (yc (ye 2) (yh))))))
def yfw:List PV->AH->Option (Nd×AH):=ymp 5 7 (yl (ycu [5,6,7] 0 "parts" (xFz (yfc (yM) (yc (ye 1) (yh))))) (yl (ycu [7,8] 0 "name" (ye 2)) (yl (ycu [1,2,3,4,5,7,8] 0 "slot" (ye 3)) (ycu [5,6,7] 0 "others" (xFz (yfc (yM) (yc (ye 4) (yh))))))))
def yeE:List PV->AH->Option (Nd×AH):=ymp 3 8 (yl (ycu [7,8] 0 "name" (ye 1)) (ycu [1,2,3,4,5,7,8] 0 "slot" (ye 2)))
def yjc:Fn:=ybl 1 (yO (xC (.int 1)))
def yge:Fn:=ybl 1 (yO (xC (.int 1)))
def yhT:Fn:=ybl 1 (yO (xC (.int 1)))
def yjd:Fn:=ybl 1 (yO (xC (.int 1)))
def ygJ:Fn:=ybl 1 (yO (xC (.int 1)))
def yhU:Fn:=ybl 1 (yO (xC (.int 1)))
mutual
noncomputable def ylL:Nat->Nat->Fn
 | 0,_=>fun _ _=>none
 | n+1,k=>match k with|1=>yjc|2=>yge|3=>yhT|4=>yjd|5=>ylM n|6=>ygf n|7=>yje n|8=>ygJ|9=>yhU|_=>fun _ _=>none
noncomputable def ybA:Nat->Fn
 | 0=>fun _ _=>none
 | n+1=>ybl 1 (yO (xCB (yAs) (yc (xFz (yfj (xIL (ye 0)) [] (ypm "long" (ylL n) (ye 0)))) (yh))))
noncomputable def ylM:Nat->Fn
 | 0=>fun _ _=>none
 | n+1=>ybl 1 (yO (xOp yfd (xOp yfd (xC (.int 2)) (yW (ybA n) (yc (ybb [5,6,7] "parts" (ye 0)) (yh)))) (yW (ybA n) (yc (ybb [5,6,7] "others" (ye 0)) (yh)))))
noncomputable def ygf:Nat->Fn
 | 0=>fun _ _=>none
 | n+1=>ybl 1 (yO (xOp yfd (xOp yfd (xC (.int 3)) (yW (ybA n) (yc (ybb [5,6,7] "parts" (ye 0)) (yh)))) (yW (ybA n) (yc (ybb [5,6,7] "others" (ye 0)) (yh)))))
noncomputable def yje:Nat->Fn
 | 0=>fun _ _=>none
 | n+1=>ybl 1 (yO (xOp yfd (xOp yfd (xC (.int 3)) (yW (ybA n) (yc (ybb [5,6,7] "parts" (ye 0)) (yh)))) (yW (ybA n) (yc (ybb [5,6,7] "others" (ye 0)) (yh)))))
end
def ygK:Fn:=ybl 1 (yl (ybN (yz (xCB (ymq yfH) (yc (ye 0) (yc (xC (.cls 1)) (yh))))) (yO (xFz (yec (yc (yfC (yc (xC (.str "let")) (yc (ybb [1,2,3,4,5,7,8] "slot" (ye 0)) (yc (ybb [1] "number" (ye 0)) (yh))))) (yh))))) (yS)) (yl (ybN (yz (xCB (ymq yfH) (yc (ye 0) (yc (xC (.cls 2)) (yh))))) (yO (xFz (yec (yc (yfC (yc (ybb [2] "word" (ye 0)) (yc (ybb [1,2,3,4,5,7,8] "slot" (ye 0)) (yc (ybb [2] "one" (ye 0)) (yc (ybb [2] "other" (ye 0)) (yh)))))) (yh))))) (yS)) (yl (ybN (yz (xCB (ymq yfH) (yc (ye 0) (yc (xC (.cls 3)) (yh))))) (yO (xFz (yec (yc (yfC (yc (xC (.str "take")) (yc (ybb [1,2,3,4,5,7,8] "slot" (ye 0)) (yc (ybb [3,4] "place" (ye 0)) (yh))))) (yh))))) (yS)) (yl (ybN (yz (xCB (ymq yfH) (yc (ye 0) (yc (xC (.cls 4)) (yh))))) (yO (xFz (yec (yc (yfC (yc (xC (.str "put")) (yc (ybb [3,4] "place" (ye 0)) (yc (ybb [1,2,3,4,5,7,8] "slot" (ye 0)) (yh))))) (yh))))) (yS)) (yl (ybN (yz (xCB (ymq yfH) (yc (ye 0) (yc (xC (.cls 8)) (yh))))) (yO (xFz (yec (yc (yfC (yc (xC (.str "throw")) (yc (ybb [7,8] "name" (ye 0)) (yc (ybb [1,2,3,4,5,7,8] "slot" (ye 0)) (yh))))) (yh))))) (yS)) (yl (ybN (yz (xCB (ymq yfH) (yc (ye 0) (yc (xC (.cls 9)) (yh))))) (yO (xFz (yec (yc (yfC (yc (xC (.str "wait")) (yh))) (yh))))) (yS)) (yO (xFz (yec (yh))))))))))
def yhV:Fn:=ybl 2 (yl (ybN (yz (xCB (ymq yfH) (yc (ye 0) (yc (xC (.cls 5)) (yh))))) (yO (yfC (yc (xC (.str "unless")) (yc (ybb [1,2,3,4,5,7,8] "slot" (ye 0)) (yc (ye 1) (yh)))))) (yS)) (yl (ybN (yz (xCB (ymq yfH) (yc (ye 0) (yc (xC (.cls 6)) (yh))))) (yO (yfC (yc (xC (.str "either")) (yc (ye 1) (yh))))) (yS)) (yO (yfC (yc (xC (.str "guard")) (yc (ybb [7,8] "name" (ye 0)) (yc (ybb [1,2,3,4,5,7,8] "slot" (ye 0)) (yc (ye 1) (yh)))))))))
def yfx:Fn:=ybl 2 (yl (ybN (yz (xCB (ymq yfH) (yc (ye 0) (yc (xC (.cls 5)) (yh))))) (yO (xFz (yec (yc (yfC (yc (xC (.str "jump")) (yc (ye 1) (yh)))) (yh))))) (yS)) (yO (xFz (yec (yc (yfC (yc (xC (.str "settle")) (yh))) (yc (yfC (yc (xC (.str "jump")) (yc (ye 1) (yh)))) (yh)))))))
mutual
noncomputable def yda:Nat->Fn
 | 0=>fun _ _=>none
 | n+1=>ybl 4 (yl (ygV (yec (yh)) 2) (yl (yhm (xIL (ye 0)) (yn 3) (ynk 2 (yW (ydB n) (yc (ye 3) (yc (xOp yfd (ye 1) (ypq 2)) (yh)))))) (yqG 2 (yO (ye 2)))))
noncomputable def ydB:Nat->Fn
 | 0=>fun _ _=>none
 | n+1=>ybl 2 (yl (ybN (xOr (yz (xCB (ymq yfH) (yc (ye 0) (yc (xC (.cls 5)) (yh))))) (xOr (yz (xCB (ymq yfH) (yc (ye 0) (yc (xC (.cls 6)) (yh))))) (yz (xCB (ymq yfH) (yc (ye 0) (yc (xC (.cls 7)) (yh))))))) (yO (yW (ygL n) (yc (ye 0) (yc (ye 1) (yh))))) (yS)) (yO (yW ygK (yc (ye 0) (yh)))))
noncomputable def ygL:Nat->Fn
 | 0=>fun _ _=>none
 | n+1=>ybl 6 (yl (ybq (xOp yfd (ye 1) (ypm "long" (ylL 45) (ye 0))) (yn 2)) (yl (ybq (xOp yvM (ye 2) (yW (ybA 45) (yc (ybb [5,6,7] "others" (ye 0)) (yh)))) (yn 3)) (yl (ybq (yW (yda n) (yc (ybb [5,6,7] "parts" (ye 0)) (yc (xOp yfd (ye 1) (xC (.int 1))) (yh)))) (yn 4)) (yl (ybq (yW (yda n) (yc (ybb [5,6,7] "others" (ye 0)) (yc (ye 3) (yh)))) (yn 5)) (yO (xFz (ypP yqQ (xFz (ypP yqQ (xFz (ypP yqQ (xFz (yec (yc (yW yhV (yc (ye 0) (yc (ye 3) (yh)))) (yh)))) (ye 4))) (yW yfx (yc (ye 0) (yc (ye 2) (yh)))))) (ye 5))))))))
end
def yeh:Fn:=ybl 1 (yO (xFz (ypP yqQ (yW (yda 45) (yc (ye 0) (yc (xC (.int 0)) (yh)))) (xFz (yec (yc (yfC (yc (xC (.str "lay")) (yh))) (yh)))))))
def ydb:List PV->AH->Option (Nd×AH):=ymp 2 10 (yl (ycu [10] 0 "words" (xFz (yfc (yM) (yc (ye 1) (yh))))) (ycu [10,12] 0 "at" (xC (.int 0))))
def yff:Fn:=ybl 1 (yl (ybN (yz (xOp (oEq) (ye 0) (xC (.str "")))) (yO (xFz (yec (yh)))) (yS)) (yO (xBM isStr (ylE) (ye 0) (yc (xC (.str " ")) (yh)))))
def ybs:Fn:=ybl 1 (yl (ybN (yz (xOp (oLt) (ybb [10,12] "at" (ye 0)) (xCB (ybU) (yc (ybb [10] "words" (ye 0)) (yh))))) (yO (xOp (ybM) (ybb [10] "words" (ye 0)) (ybb [10,12] "at" (ye 0)))) (yS)) (yO (xC .non)))
def ybt:Fn:=ybl 2 (yl (ybq (yg 10 "ahead" ybs (ye 0) (yh)) (yn 1)) (yl (ybN (yz (xOp (yxy) (ye 1) (xC .non))) (yfk) (yS)) (yl (ycX [10,12] "at" (ye 0) (xOp yfd (ybb [10,12] "at" (ye 0)) (xC (.int 1)))) (yO (ye 1)))))
def yL:Fn:=ybl 3 (yl (ybq (yg 10 "taken" ybt (ye 0) (yh)) (yn 2)) (ybN (yz (xOp (oNe) (ye 2) (ye 1))) (yfk) (yS)))
def yu:Fn:=ybl 2 (yl (ybq (yg 10 "taken" ybt (ye 0) (yh)) (yn 1)) (yl (ybN (ymo (yz (yW yhQ (yc (ye 1) (yh))))) (yfk) (yS)) (yO (ye 1))))
def ybB:Fn:=ybl 2 (yl (ybq (yg 10 "taken" ybt (ye 0) (yh)) (yn 1)) (yl (ybN (ymo (yz (yW yhR (yc (ye 1) (yh))))) (yfk) (yS)) (yO (ye 1))))
def ybJ:Fn:=ybl 3 (yl (ybq (yg 10 "taken" ybt (ye 0) (yh)) (yn 1)) (yl (ybq (yW yev (yc (ye 1) (yh))) (yn 2)) (yl (ybN (yz (xOp (yxy) (ye 2) (xC .non))) (yfk) (yS)) (yO (ye 2)))))
def ybK:Fn:=ybl 5 (yl (ybq (yg 10 "slot_taken" yu (ye 0) (yh)) (yn 2)) (yl (ybq (yg 10 "slot_taken" yu (ye 0) (yh)) (yn 3)) (yl (ybq (yg 10 "slot_taken" yu (ye 0) (yh)) (yn 4)) (yO (xFz (yfD yef (yc (ye 1) (yc (ye 2) (yc (ye 3) (yc (ye 4) (yh)))))))))))
def yv:Fn:=ybl 5 (yl (ybN (yz (xOp (oEq) (ye 1) (xC (.str "let")))) (yl (ybq (yg 10 "slot_taken" yu (ye 0) (yh)) (yn 2)) (yO (xFz (yfD yfu (yc (ye 2) (yc (yg 10 "number_taken" ybJ (ye 0) (yh)) (yh))))))) (yS)) (yl (ybN (yz (xOp (oEq) (ye 1) (xC (.str "take")))) (yl (ybq (yg 10 "slot_taken" yu (ye 0) (yh)) (yn 2)) (yO (xFz (yfD yeR (yc (ye 2) (yc (yg 10 "slot_taken" yu (ye 0) (yh)) (yh))))))) (yS)) (yl (ybN (yz (xOp (oEq) (ye 1) (xC (.str "put")))) (yl (ybq (yg 10 "slot_taken" yu (ye 0) (yh)) (yn 3)) (yO (xFz (yfD yfv (yc (ye 3) (yc (yg 10 "slot_taken" yu (ye 0) (yh)) (yh))))))) (yS)) (yl (ybN (yz (xOp (oEq) (ye 1) (xC (.str "throw")))) (yl (ybq (yg 10 "name_taken" ybB (ye 0) (yh)) (yn 4)) (yO (xFz (yfD yeE (yc (ye 4) (yc (yg 10 "slot_taken" yu (ye 0) (yh)) (yh))))))) (yS)) (yl (ybN (yz (xOp (oEq) (ye 1) (xC (.str "wait")))) (yO (xFz (yqU 9))) (yS)) (yl (ybN (yz (yW yhP (yc (ye 1) (yh)))) (yO (yg 10 "reckon_taken" ybK (ye 0) (yc (ye 1) (yh)))) (yS)) (yfk)))))))
def ykb:XT:=yz (xOp (oEq) (yg 10 "ahead" ybs (ye 0) (yh)) (xC (.str ";")))
mutual
noncomputable def ybC:Nat->Fn
 | 0=>fun _ _=>none
 | n+1=>ybl 3 (yl (ybN (xOr (yz (xOp (yxy) (yg 10 "ahead" ybs (ye 0) (yh)) (xC .non))) (yz (xOp (oEq) (yg 10 "ahead" ybs (ye 0) (yh)) (xC (.str ")"))))) (yO (xFz (yec (yh)))) (yS)) (yl (ygV (yec (yc (yg 10 "part_taken" (yD n) (ye 0) (yc (ye 1) (yh))) (yh))) 2) (yl (yfp 100 (ykb) (yl (yY (yg 10 "pass_over" yL (ye 0) (yc (xC (.str ";")) (yh)))) (yfi 2 (yg 10 "part_taken" (yD n) (ye 0) (yc (ye 1) (yh)))))) (yqG 2 (yO (ye 2))))))
noncomputable def yq:Nat->Fn
 | 0=>fun _ _=>none
 | n+1=>ybl 3 (yl (yY (yg 10 "pass_over" yL (ye 0) (yc (xC (.str "(")) (yh)))) (yl (ybq (yg 10 "list_taken" (ybC n) (ye 0) (yc (ye 1) (yh))) (yn 2)) (yl (yY (yg 10 "pass_over" yL (ye 0) (yc (xC (.str ")")) (yh)))) (yO (ye 2)))))
noncomputable def yD:Nat->Fn
 | 0=>fun _ _=>none
 | n+1=>ybl 3 (yl (ybN (yz (xOp (oGt) (ye 1) (xC (.int 8)))) (yfk) (yS)) (yl (ybq (yg 10 "taken" ybt (ye 0) (yh)) (yn 2)) (yl (ybN (yz (xOp (oEq) (ye 2) (xC (.str "if")))) (yO (yg 10 "if_taken" (ybQ n) (ye 0) (yc (xOp yfd (ye 1) (xC (.int 1))) (yh)))) (yS)) (yl (ybN (yz (xOp (oEq) (ye 2) (xC (.str "either")))) (yO (yg 10 "either_taken" (ybj n) (ye 0) (yc (xOp yfd (ye 1) (xC (.int 1))) (yh)))) (yS)) (yl (ybN (yz (xOp (oEq) (ye 2) (xC (.str "try")))) (yO (yg 10 "try_taken" (ybL n) (ye 0) (yc (xOp yfd (ye 1) (xC (.int 1))) (yh)))) (yS)) (yO (yg 10 "plain_taken" yv (ye 0) (yc (ye 2) (yh)))))))))
noncomputable def ybQ:Nat->Fn
 | 0=>fun _ _=>none
 | n+1=>ybl 5 (yl (ybq (yg 10 "slot_taken" yu (ye 0) (yh)) (yn 2)) (yl (ybq (yg 10 "side_taken" (yq n) (ye 0) (yc (ye 1) (yh))) (yn 3)) (yl (yY (yg 10 "pass_over" yL (ye 0) (yc (xC (.str "else")) (yh)))) (yl (ybq (yg 10 "side_taken" (yq n) (ye 0) (yc (ye 1) (yh))) (yn 4)) (yO (xFz (yfD ygd (yc (ye 2) (yc (ye 3) (yc (ye 4) (yh)))))))))))
noncomputable def ybj:Nat->Fn
 | 0=>fun _ _=>none
 | n+1=>ybl 4 (yl (ybq (yg 10 "side_taken" (yq n) (ye 0) (yc (ye 1) (yh))) (yn 2)) (yl (yY (yg 10 "pass_over" yL (ye 0) (yc (xC (.str "or")) (yh)))) (yl (ybq (yg 10 "side_taken" (yq n) (ye 0) (yc (ye 1) (yh))) (yn 3)) (yO (xFz (yfD yeg (yc (ye 2) (yc (ye 3) (yh)))))))))
noncomputable def ybL:Nat->Fn
 | 0=>fun _ _=>none
 | n+1=>ybl 6 (yl (ybq (yg 10 "side_taken" (yq n) (ye 0) (yc (ye 1) (yh))) (yn 2)) (yl (yY (yg 10 "pass_over" yL (ye 0) (yc (xC (.str "on")) (yh)))) (yl (ybq (yg 10 "name_taken" ybB (ye 0) (yh)) (yn 3)) (yl (ybq (yg 10 "slot_taken" yu (ye 0) (yh)) (yn 4)) (yl (ybq (yg 10 "side_taken" (yq n) (ye 0) (yc (ye 1) (yh))) (yn 5)) (yO (xFz (yfD yfw (yc (ye 2) (yc (ye 3) (yc (ye 4) (yc (ye 5) (yh)))))))))))))
end
def ylN:Fn:=ybl 3 (yl (ybq (yfo (yfD ydb (yc (yW yff (yc (ye 0) (yh))) (yh)))) (yn 1)) (yl (ybq (yg 10 "list_taken" (ybC 45) (ye 1) (yc (xC (.int 0)) (yh))) (yn 2)) (yl (ybN (yz (xOp (ytJ) (yg 10 "ahead" ybs (ye 1) (yh)) (xC .non))) (yfk) (yS)) (yl (ybN (yz (xOp (oGt) (xOp yfd (yW (ybA 45) (yc (ye 2) (yh))) (xC (.int 1))) (xC (.int 80)))) (yfk) (yS)) (yO (ye 2))))))
def ydx:Fn:=ybl 1 (yl (ybN (ymo (yz (yfn (oLe) (oLe) (xC (.int 1)) (xCB (ybU) (yc (ye 0) (yh))) (xC (.int 16))))) (yfk) (yS)) (ybN (ymo (yz (xCB (yvN) (yc (xFz (ydu (ye 0) [] (yW ycZ (yc (ye 0) (yh))))) (yh))))) (yfk) (yS)))
def ycn:Fn:=ybl 1 (yO (xFz (ydu (ye 0) [] (yW yeh (yc (yW ylN (yc (ye 0) (yh))) (yh))))))
def yco:Fn:=ybl 1 (yl (ybN (ymo (yz (yfn (oLe) (oLe) (xC (.int 1)) (xCB (ybU) (yc (ye 0) (yh))) (xC (.int 8))))) (yfk) (yS)) (yl (ybN (yz (xCB (yur) (yc (xFz (ydu (ye 0) [] (xOp (oGt) (xCB (ybU) (yc (ye 0) (yh))) (xC (.int 6))))) (yh)))) (yfk) (yS)) (yO (xFz (ydu (ye 0) [] (yW ycn (yc (ye 0) (yh))))))))
def ycP:Fn:=ybl 3 (yl (yY (yW ydx (yc (ye 1) (yh)))) (yl (ycX [15] "numbers" (ye 0) (yfo (yfc (yM) (yc (ye 1) (yh))))) (yl (ycX [15] "marks" (ye 0) (yfo (ypP yAp (xFz (yec (yc (xC (.int 0)) (yh)))) (xCB (ybU) (yc (ye 1) (yh)))))) (yl (ycX [15] "crew" (ye 0) (yfo (yfj (xIL (yW yco (yc (ye 2) (yh)))) [1] (yhK 14 ybz (yc (ye 0) (yc (xCB (ybU) (yc (ye 1) (yh))) (yh))))))) (ycX [15] "entries" (ye 0) (yfo (yec (yh))))))))
def ybT:Fn:=ybl 1 (yO (xFz (yfc (yM) (yc (ybb [15] "numbers" (ye 0)) (yh)))))
def ybX:Fn:=ybl 1 (yO (xFz (yfc (yM) (yc (ybb [15] "marks" (ye 0)) (yh)))))
def ybi:Fn:=ybl 2 (yl (ybN (xOr (ymo (yz (yW yee (yc (ye 1) (yh))))) (ymo (yz (yfn (oLe) (oLt) (xC (.int 0)) (ye 1) (xCB (ybU) (yc (ybb [15] "crew" (ye 0)) (yh))))))) (yfk) (yS)) (yO (xOp (ybM) (ybb [15] "crew" (ye 0)) (ye 1))))
def ydi:Fn:=ybl 2 (yO (yg 14 "state" ycm (yg 15 "hand_at" ybi (ye 0) (yc (ye 1) (yh))) (yh)))
def ydj:Fn:=ybl 2 (yO (ybb [14] "nth" (yg 15 "hand_at" ybi (ye 0) (yc (ye 1) (yh)))))
def ydk:Fn:=ybl 2 (yO (xFz (yfc (yM) (yc (ybb [12] "held" (ybb [14] "run" (yg 15 "hand_at" ybi (ye 0) (yc (ye 1) (yh))))) (yh)))))
def yei:Fn:=ybl 2 (yO (yg 11 "saw" yeP (ybb [12] "log" (ybb [14] "run" (yg 15 "hand_at" ybi (ye 0) (yc (ye 1) (yh))))) (yh)))
def yV:Fn:=ybl 1 (yO (xFz (ydu (ybb [15] "entries" (ye 0)) [] (yfC (yc (xOp (ybx) (ye 0) (xC (.int 0))) (yc (xOp (ybx) (ye 0) (xC (.int 1))) (yc (xOp (ybx) (ye 0) (xC (.int 2))) (yc (xFz (yfc (yM) (yc (xOp (ybx) (ye 0) (xC (.int 3))) (yh)))) (yc (xFz (yfc (yM) (yc (xOp (ybx) (ye 0) (xC (.int 4))) (yh)))) (yc (xFz (yfc (yM) (yc (xOp (ybx) (ye 0) (xC (.int 5))) (yh)))) (yh)))))))))))
def wkB:XS:=(ybN (yvH (yz (xOp (oEq) (yg 14 "state" ycm (ye 1) (yh)) (xC (.str "asleep")))) (yz (yg 12 "is_stale" ycz (ybb [14] "run" (ye 1)) (yc (ybb [15] "marks" (ye 0)) (yh))))) (yY (yg 14 "begin_anew" ybP (ye 1) (yh))) (yS))
def ybv:Fn:=ybl 2 (yjU false (ybb [15] "crew" (ye 0)) (yn 1) wkB)
def ycp:Fn:=ybl 6 (yl (ybq (xOp (ybM) (ybb [15] "crew" (ye 0)) (ye 1)) (yn 5)) (yl (yY (xBM yea (yeN) (ybb [15] "entries" (ye 0)) (yc (yfC (yc (ye 1) (yc (ybb [14] "nth" (ye 5)) (yc (ye 2) (yc (yg 11 "saw" yeP (ybb [12] "log" (ybb [14] "run" (ye 5))) (yh)) (yc (ye 3) (yc (xFz (yfc (yM) (yc (ye 4) (yh)))) (yh)))))))) (yh)))) (yY (yg 14 "go_on" ydQ (ye 5) (yc (ye 4) (yh))))))
def ldB:XS:=(yl (ybq (xOp (ybx) (ye 4) (xC (.int 0))) (yn 5)) (yl (ygZ (ybb [15] "numbers" (ye 0)) (ye 5) (xOp (ybx) (ye 4) (xC (.int 1)))) (ygZ (ybb [15] "marks" (ye 0)) (ye 5) (xOp yfd (xOp (ybM) (ybb [15] "marks" (ye 0)) (ye 5)) (xC (.int 1))))))
def ycQ:Fn:=ybl 6 (yl (ybq (ybb [14] "run" (xOp (ybM) (ybb [15] "crew" (ye 0)) (ye 1))) (yn 2)) (yl (ybq (yg 11 "wrote" yeu (ybb [12] "log" (ye 2)) (yh)) (yn 3)) (yl (yhm (xIL (ye 3)) (yn 4) ldB) (yl (yY (yg 15 "end_deed" ycp (ye 0) (yc (ye 1) (yc (yfC (yc (xC (.str "done")) (yh))) (yc (ye 3) (yc (ybb [12] "held" (ye 2)) (yh))))))) (yY (yg 15 "wake_stale" ybv (ye 0) (yh)))))))
def yN:Fn:=ybl 6 (yl (ybq (xOp (ybM) (ybb [15] "crew" (ye 0)) (ye 1)) (yn 3)) (yl (ybq (yg 12 "row" ydA (ybb [14] "run" (ye 3)) (yh)) (yn 4)) (yl (ybN (yz (xOp (oEq) (xOp (ybx) (ye 4) (xC (.int 0))) (xC (.str "take")))) (yl (ybq (yg 12 "see_next" ydg (ybb [14] "run" (ye 3)) (yc (ybb [15] "numbers" (ye 0)) (yc (ybb [15] "marks" (ye 0)) (yh)))) (yn 5)) (yO (yfC (yc (xC (.str "seen")) (yc (ye 2) (yc (ye 5) (yc (xOp (ybM) (ybb [15] "numbers" (ye 0)) (ye 5)) (yh)))))))) (yS)) (yl (ybN (yz (xOp (oEq) (xOp (ybx) (ye 4) (xC (.int 0))) (xC (.str "wait")))) (yl (yY (yg 14 "fall_asleep" ycg (ye 3) (yh))) (yO (yfC (yc (xC (.str "asleep")) (yc (ye 2) (yh)))))) (yS)) (yl (ybN (yz (xOp (oEq) (xOp (ybx) (ye 4) (xC (.int 0))) (xC (.str "throw")))) (yl (yY (yg 15 "end_deed" ycp (ye 0) (yc (ye 1) (yc (yfC (yc (xC (.str "fell")) (yc (xOp (ybx) (ye 4) (xC (.int 1))) (yc (yg 12 "held_in" ybc (ybb [14] "run" (ye 3)) (yc (xOp (ybx) (ye 4) (xC (.int 2))) (yh))) (yh))))) (yc (xFz (yec (yh))) (yc (ybb [14] "before" (ye 3)) (yh))))))) (yO (yfC (yc (xC (.str "fell")) (yc (ye 2) (yh)))))) (yS)) (yl (yY (yg 15 "lay_down" ycQ (ye 0) (yc (ye 1) (yh)))) (yO (yfC (yc (xC (.str "done")) (yc (ye 2) (yh)))))))))))
def yw:Fn:=ybl 4 (yl (ybq (yg 15 "hand_at" ybi (ye 0) (yc (ye 1) (yh))) (yn 2)) (yl (ybN (yz (xOp (oNe) (yg 14 "state" ycm (ye 2) (yh)) (xC (.str "awake")))) (yO (yfC (yc (xC (.str "idle")) (yh)))) (yS)) (yl (ybq (ybb [10,12] "at" (ybb [14] "run" (ye 2))) (yn 3)) (yl (ybN (ymo (yz (yg 12 "is_looked_over" ybo (ybb [14] "run" (ye 2)) (yh)))) (yl (yY (yg 12 "go" ycf (ybb [14] "run" (ye 2)) (yh))) (yO (yfC (yc (xC (.str "gone")) (yc (ye 3) (yh)))))) (yS)) (yl (ybN (yz (yg 12 "is_stale" ycz (ybb [14] "run" (ye 2)) (yc (ybb [15] "marks" (ye 0)) (yh)))) (yl (yY (yg 14 "begin_anew" ybP (ye 2) (yh))) (yO (yfC (yc (xC (.str "anew")) (yc (ye 3) (yh)))))) (yS)) (yO (yg 15 "looked_over_told" yN (ye 0) (yc (ye 1) (yc (ye 3) (yh))))))))))
def ycA:Fn:=ybl 2 (yl (ybN (yz (xOp (oLt) (ye 1) (xCB (ybU) (yc (ye 0) (yh))))) (yO (xOp (ybM) (ye 0) (ye 1))) (yS)) (yO (xC (.int 0))))
def ycH:Fn:=ybl 7 (yl (ybq (xOp oMod (xOp yxu (ye 0) (xC (.int 48271))) (xC (.int 999999999989))) (yn 1)) (yl (ybq (xOp ycV (xC (.str "let a ")) (xCB (yix) (yc (xOp oMod (xOp oDiv (ye 1) (xC (.int 10))) (xC (.int 4))) (yh)))) (yn 2)) (yl (ybq (xOp ycV (xC (.str "let d ")) (xCB (yix) (yc (xOp oMod (xOp oDiv (ye 1) (xC (.int 40))) (xC (.int 4))) (yh)))) (yn 3)) (yl (ybq (xCB (yix) (yc (xOp (ybM) (xFz (yec (yc (xC (.int 0)) (yc (xC (.int 1)) (yc (xOp oMod (xOp oDiv (ye 1) (xC (.int 160))) (xC (.int 5))) (yc (xOp oMod (ye 0) (xOp yCm (xC (.int 2)) (xC (.int 64)))) (yh))))))) (xOp oMod (xOp oDiv (ye 1) (xC (.int 800))) (xC (.int 4)))) (yh))) (yn 4)) (yl (ygV (yec (yc (xOp ycV (ye 2) (xC (.str " ; take b a ; plus b b h ; put a b"))) (yc (xOp ycV (xC (.str "let c ")) (ye 4)) (yc (xOp ycV (ye 2) (xC (.str " ; take b a"))) (yh))))) 5) (yqG 5 (yl (ygV (ypP yqQ (ye 5) (xFz (yec (yc (xOp ycV (ye 2) (xC (.str " ; put a c"))) (yc (xOp ycV (ye 2) (xC (.str " ; take b a ; if b ( ) else ( wait )"))) (yh)))))) 5) (yl (ybq (xOp ycV (xOp ycV (xC (.str "either ( ")) (ye 2)) (xC (.str " ; take b a ; put a h ; if b ( wait ) else ( ) ) or"))) (yn 6)) (yl (yfi 5 (xOp ycV (xOp ycV (xOp ycV (ye 6) (xC (.str " ( let c "))) (ye 4)) (xC (.str " )")))) (yl (ybq (xOp ycV (xOp ycV (xC (.str "try ( ")) (ye 2)) (xC (.str " ; put a h ; take b a ; throw x c ) on x e ( "))) (yn 6)) (yl (yfi 5 (xOp ycV (xOp ycV (ye 6) (ye 3)) (xC (.str " ; take f d )")))) (yl (yfi 5 (xOp ycV (ye 2) (xC (.str " ; take b a ; if b ( throw y b ) else ( )")))) (yl (ybq (xOp ycV (xOp ycV (ye 2) (xC (.str " ; "))) (ye 3)) (yn 3)) (yl (yfi 5 (xOp ycV (ye 3) (xC (.str " ; take b a ; take e d ; less f b e ; if f ( put a e ; put d b ) else ( )")))) (yl (yfi 5 (xOp ycV (ye 3) (xC (.str " ; take b a ; if b ( minus b b h ; put a b ; put d h ) else ( wait )")))) (yqG 5 (yO (xOp (ybM) (ye 5) (xOp oMod (ye 1) (xC (.int 10)))))))))))))))))))))
def yew:Fn:=ybl 2 (yl (ybq (xFz (yec (yc (ye 0) (yc (xOp oMod (xOp yxu (ye 0) (xC (.int 69621))) (xC (.int 2147483629))) (yc (xOp oMod (xOp yxu (ye 0) (xC (.int 40692))) (xC (.int 2147483399))) (yh)))))) (yn 1)) (yO (xBM isStr (ynd) (xC (.str " ; ")) (yc (xFz (ypP yqQ (xFz (yec (yc (xC (.str "let h 1")) (yh)))) (xFz (yfj (xIL (xFz (yjB yiw (ye 1) (yci) (yen (xOp yfd (xC (.int 1)) (xOp oMod (ye 0) (xC (.int 3)))))))) [] (yW ycH (yc (ye 0) (yh))))))) (yh)))))
def ydR:Fn:=ybl 1 (yO (yfo (yfj (yis (yc (xOp yfd (xC (.int 2)) (xOp oMod (ye 0) (xC (.int 2)))) (yh))) [0] (xOp oMod (xOp oDiv (xOp oDiv (ye 1) (xC (.int 12))) (xOp yfd (ye 0) (xC (.int 1)))) (xC (.int 3))))))
def haB:XS:=yY (xBM yea (yeN) (xOp (ybM) (ye 2) (xOp oMod (ye 4) (xCB (ybU) (yc (ye 2) (yh))))) (yc (yW yew (yc (xOp oMod (xOp (ybM) (ye 3) (ye 4)) (xOp yCm (xC (.int 10)) (xC (.int 40)))) (yh))) (yh)))
def ydS:Fn:=ybl 5 (yl (ybq (yfo (yfj (yis (yc (xOp yfd (xC (.int 2)) (xOp oMod (xOp oDiv (ye 1) (xC (.int 2))) (xC (.int 3)))) (yh))) [] (yfo (yec (yh))))) (yn 2)) (yl (ybq (xFz (yjB yiw (ye 0) (yen (xC (.int 1))) (yen (xC (.int 13))))) (yn 3)) (yl (yhm (yis (yc (xCB (ybU) (yc (ye 3) (yh))) (yh))) (yn 4) (haB)) (yO (ye 2)))))
def tuB:XS:=yl (yfi 2 (xOp oMod (ye 4) (ye 1))) (ybN (ymo (yz (ye 5))) (ybq (xOp oDiv (ye 4) (ye 1)) (yn 4)) (yS))
def ydT:Fn:=ybl 7 (yl (ygV (yec (yh)) 2) (yl (yhm (xIL (xFz (yjB yiw (ye 0) (yci) (yen (xC (.int 60)))))) (yn 3) (yl (ybq (xOp oMod (xOp yxu (ye 3) (xC (.int 16807))) (xC (.int 2147483587))) (yn 4)) (yl (ybq (xOp (oEq) (xOp oMod (ye 4) (xC (.int 5))) (xC (.int 0))) (yn 5)) (yl (ybq (xOp oDiv (ye 4) (xC (.int 5))) (yn 4)) (yhm (yis (yc (xC (.int 6)) (yh))) (yn 6) (tuB)))))) (yqG 2 (yO (ye 2)))))
def ydC:Fn:=ybl 1 (yO (xFz (yfj (xIL (ye 0)) [] (yfC (yc (xOp (ybx) (ye 0) (xC (.int 0))) (yc (xOp (ybx) (ye 0) (xC (.int 1))) (yc (xOp (ybx) (ye 0) (xC (.int 2))) (yc (xFz (yfc (yM) (yc (xOp (ybx) (ye 0) (xC (.int 3))) (yh)))) (yc (xFz (yfc (yM) (yc (xOp (ybx) (ye 0) (xC (.int 4))) (yh)))) (yc (xFz (yfc (yM) (yc (xOp (ybx) (ye 0) (xC (.int 5))) (yh)))) (yh)))))))))))
def ycI:Fn:=ybl 6 (yl (ygV (yec (yc (yg 15 "boxes" ybT (ye 0) (yh)) (yc (yg 15 "stamps" ybX (ye 0) (yh)) (yc (yg 15 "journal" yV (ye 0) (yh)) (yh))))) 3) (yl (ybN (yz (ye 2)) (yl (ybq (yg 15 "journal" yV (ye 0) (yh)) (yn 4)) (ygV (yec (yc (yg 15 "boxes" ybT (ye 0) (yh)) (yc (yg 15 "stamps" ybX (ye 0) (yh)) (yc (ye 4) (yh))))) 3)) (yS)) (yl (yhm (yis (yc (ye 1) (yh))) (yn 5) (yfi 3 (xFz (yec (yc (yg 15 "state" ydi (ye 0) (yc (ye 5) (yh))) (yc (yg 15 "which" ydj (ye 0) (yc (ye 5) (yh))) (yc (yg 15 "slots" ydk (ye 0) (yc (ye 5) (yh))) (yc (yg 15 "saw" yei (ye 0) (yc (ye 5) (yh))) (yh))))))))) (yqG 3 (yO (ye 3))))))
def ybk:Fn:=ybl 2 (yO (xFz (yfj (xIL (ye 1)) [0] (yg 15 "turn" yw (ye 1) (yc (ye 0) (yh))))))
def zpB:XS:=ybN (yvH (yz (xOp (yiy) (ye 14) (yfC (yc (xC (.str "idle")) (yh))))) (yz (xOp (yiy) (yg 15 "turn" yw (xOp (ybM) (ye 3) (xC (.int 2))) (yc (ye 13) (yh))) (ye 14)))) (yO (xC (.bl false))) (yS)
def mkB:XS:=yl (ybq (yW ydR (yc (ye 1) (yh))) (yn 5)) (yl (ybq (yfo (ydu (ye 2) [] (yfo (yfc (yM) (yc (ye 0) (yh)))))) (yn 6)) (yl (yY (xBM yea (yeN) (ye 3) (yc (yhK 15 ycP (yc (ye 5) (yc (ye 6) (yh)))) (yh)))) (yl (yY (xBM yea (yeN) (ye 5) (yc (xC (.int 3)) (yh)))) (yl (ygZ (ye 5) (xC (.int 0)) (xC (.int 9))) (yl (yY (xBM yea (yhD) (xOp (ybM) (ye 6) (xC (.int 0))) (yh))) (yY (xBM yea (yeN) (ye 6) (yc (xFz (yec (yc (xC (.str "")) (yh)))) (yh)))))))))
def lqD:XS:=yl (ybq (yW ycI (yc (xOp (ybM) (ye 3) (xC (.int 0))) (yc (xCB (ybU) (yc (ye 2) (yh))) (yc (xC (.bl false)) (yh))))) (yn 15)) (yl (ybN (xOr (yz (xOp (yiy) (yW ycI (yc (xOp (ybM) (ye 3) (xC (.int 1))) (yc (xCB (ybU) (yc (ye 2) (yh))) (yc (xC (.bl true)) (yh))))) (ye 15))) (yz (xOp (yiy) (yW ycI (yc (xOp (ybM) (ye 3) (xC (.int 2))) (yc (xCB (ybU) (yc (ye 2) (yh))) (yc (xOp (oEq) (xOp oMod (ye 1) (xC (.int 2))) (xC (.int 0))) (yh))))) (ye 15)))) (yO (xC (.bl false))) (yS)) (yO (yjA (xOp (yxP) (ye 10) (ye 11)) (xOp (yxP) (yg 15 "boxes" ybT (xOp (ybM) (ye 3) (xC (.int 0))) (yh)) (xOp (ybM) (ye 15) (xC (.int 0)))))))
def yuD:Fn:=ybl 16 (yl (ybq (xOp oMod (yW ycA (yc (ye 0) (yc (xC (.int 0)) (yh)))) (xOp yCm (xC (.int 10)) (xC (.int 30)))) (yn 1)) (yl (ybq (yW ydS (yc (ye 0) (yc (ye 1) (yh)))) (yn 2)) (yl (ybq (yfo (yec (yh))) (yn 3)) (yl (yhm (yis (yc (xC (.int 3)) (yh))) (yn 4) (mkB)) (yl (ybq (yW ydT (yc (ye 0) (yc (xCB (ybU) (yc (ye 2) (yh))) (yh)))) (yn 7)) (yl (ybq (xOp oMod (xOp oDiv (ye 1) (xC (.int 1009))) (xOp yfd (xCB (ybU) (yc (ye 7) (yh))) (xC (.int 1)))) (yn 8)) (yl (ybq (yW ybk (yc (xOp (ybM) (ye 3) (xC (.int 0))) (yc (ye 7) (yh)))) (yn 9)) (yl (ybN (yz (xOp (yiy) (yW ybk (yc (xOp (ybM) (ye 3) (xC (.int 1))) (yc (xFz (yjB yiw (ye 7) (yci) (yen (ye 8)))) (yh)))) (xFz (yjB yiw (ye 9) (yci) (yen (ye 8)))))) (yO (xC (.bl false))) (yS)) (yl (ybq (yg 15 "journal" yV (xOp (ybM) (ye 3) (xC (.int 1))) (yh)) (yn 10)) (yl (ybq (yW ydC (yc (ye 10) (yh))) (yn 11)) (yl (ybq (yg 15 "journal" yV (xOp (ybM) (ye 3) (xC (.int 0))) (yh)) (yn 12)) (yl (ybN (xOr (yz (xOp (oGt) (xCB (ybU) (yc (ye 10) (yh))) (xCB (ybU) (yc (ye 12) (yh))))) (yz (xOp (yiy) (ye 10) (xFz (yjB yiw (ye 12) (yci) (yen (xCB (ybU) (yc (ye 10) (yh))))))))) (yO (xC (.bl false))) (yS)) (yl (ybN (yz (xOp (yiy) (yW ybk (yc (xOp (ybM) (ye 3) (xC (.int 1))) (yc (xFz (yjB yiw (ye 7) (yen (ye 8)) (yci))) (yh)))) (xFz (yjB yiw (ye 9) (yen (ye 8)) (yci))))) (yO (xC (.bl false))) (yS)) (yl (yhm (xIZ (yc (ye 7) (yc (ye 9) (yh)))) (yvL 2 (ygU (yn 13) (ygU (yn 14) (yxk)))) (zpB)) (lqD)))))))))))))))
abbrev tI (n:Int):Str:=Str.ofString (toString n)
abbrev B64:Int:=18446744073709551616
def ywd:("":Str).length=0:=by rfl'
def ydD (a b:Str):(a++b).length=a.length+b.length:=by show (a.cps++b.cps).size=_;simp [Str.length]
def ylO (a b c:Str):a++b++c=a++(b++c):=by
 show (⟨(a.cps++b.cps)++c.cps⟩:Str)=⟨a.cps++(b.cps++c.cps)⟩
 rw [Array.append_assoc]
def yrH (a:Int) (h:0<b):0<=a%b/\a%b<b:=⟨Int.emod_nonneg a (by omega),Int.emod_lt_of_pos a h⟩
def yrI:B64<10 ^ 20:=by decide
def yuE (sep x:Str) (r:List Str) (h:1<=x.length):1<=(Str.join sep (x::r)).length:=by
 cases r with
 | nil=>exact h
 | cons y r =>
  show 1<=(x++sep++Str.join sep (y::r)).length;rw [ydD,ydD];omega
def yrJ (m:Nat):List Nat:=(Nat.toDigits 10 m).map Char.toNat
def yBs:∀ d:Nat,d<10->(Nat.digitChar d).toNat=48+d:=by
 intro d h;have:d=0\/d=1\/d=2\/d=3\/d=4\/d=5\/d=6\/d=7\/d=8\/d=9:=by omega
 rcases this with rfl|rfl|rfl|rfl|rfl|rfl|rfl|rfl|rfl|rfl
 all_goals decide
def yuF (cs:List Nat) (c:Nat):ywS (cs++[c])=ywS cs*10+((c:Int)-48):=by unfold ywS;rw [List.foldl_append];rfl
def yrK:∀ m:Nat,yrJ m≠[]/\(∀ c∈yrJ m,48<=c/\c<=57)/\ywS (yrJ m)=m/\(m≠0->(yrJ m)[0]?≠some 48):=by
 intro m
 induction m using Nat.strongRecOn with
 | ind m ih =>
  unfold yrJ at *
  by_cases h:m<10
  .rw [Nat.toDigits_of_lt_base h,List.map_singleton,yBs m h];refine ⟨by simp,fun c hc=>?_,?_,fun hm e=>?_⟩
   .rw [List.mem_singleton.mp hc];omega
   .show (0:Int)*10+(((48+m:Nat):Int)-48)=m;omega
   .have:48+m=48:=by simpa using e
    omega
  .rw [Nat.toDigits_of_base_le (by decide) (by omega),map_append,List.map_singleton,yBs (m%10) (by omega)];obtain ⟨h1,h2,h3,h4⟩:=ih (m/10) (by omega);refine ⟨by simp,fun c hc=>?_,?_,fun _ e=>?_⟩
   .rcases List.mem_append.mp hc with hc|hc
    .exact h2 c hc
    .rw [List.mem_singleton.mp hc];omega
   .rw [yuF,h3];omega
   .refine h4 (by omega) ?_;generalize (Nat.toDigits 10 (m/10)).map Char.toNat=l at *;cases l with
    | nil=>exact absurd rfl h1
    | cons a l=>simpa using e
def yrL {n:Int}(h:0<=n):(Str.ofString (toString n)).cps.toList=yrJ n.toNat:=by
 obtain ⟨m,rfl⟩:∃ m:Nat,n=m:=⟨n.toNat,by omega⟩
 rw [Str.ofString_eq_toList];show (toString m).toList.map Char.toNat=_;rw [Int.toNat_natCast,show (toString m)=m.repr from rfl,Nat.toList_repr];rfl
theorem yhp:∀ {a b:List Str},a≠[]->b≠[]->Str.join sep (a++b)=Str.join sep a++sep++Str.join sep b
 | [],_,h,_=>absurd rfl h
 | [x],[],_,h=>absurd rfl h
 | [x],y::b,_,_=>rfl
 | x::y::a,b,_,hb=>by have ih:=yhp (sep:=sep) (a:=y::a) (b:=b) (fun z=>by cases z) hb;show x++sep++Str.join sep ((y::a)++b)=x++sep++Str.join sep (y::a)++sep++Str.join sep b;rw [ih];simp only [ylO]
def yrM (h:b≠[]):Str.join sep (x::b)=x++sep++Str.join sep b:=yhp (a:=[x]) (fun z=>by cases z) h
def yBt:(" ; ":Str) = " "++";"++" ":=by rfl'
def fr (w:Str):Prop:=32∉w.cps.toList/\w.length≠0/\w.length<=20
def ywe (h:0<=n) (h2:n<B64):fr (toString n:String):=by
 have e:=yrL h;obtain ⟨h3,h4,_⟩:=yrK n.toNat;refine ⟨fun z=>?_,fun z=>h3 ?_,str_len h (by decide) (Int.lt_trans h2 yrI)⟩
 .rw [e] at z;have:=h4 _ z;omega
 .rw [<- e];have:(Str.ofString (toString n)).cps.size=0:=z;exact List.eq_nil_of_length_eq_zero (by simpa using this)
def yhb (s:Str) (h:decide (32∉s.cps.toList/\s.length≠0/\s.length<=20)=true):fr s:=(show 32∉s.cps.toList/\s.length≠0/\s.length<=20 from of_decide_eq_true h)
def frs (l:List Str):Prop:=∀ w∈l,fr w
def yeS (h:frs a) (k:frs b):frs (a++b):=fun x hx=>(List.mem_append.mp hx).elim (h x) (k x)
def yyu (h:frs l) (hl:l≠[]):Str.join sep l≠"":=by
 cases l with
 | nil=>exact absurd rfl hl
 | cons x r =>
  intro e;have h1:=(h x mem_cons_self).2.1;have:=yuE sep x r (by omega);rw [e,ywd] at this;omega
theorem ykc (sep:Str) (hs:sep.length<=3):∀ l:List Str,frs l->(Str.join sep l).length<=23*l.length
 | [],_=>by show ("":Str).length<=_;rw [ywd];omega
 | [x],f=>by have:=(f x mem_cons_self).2.2;show x.length<=23*1;omega
 | x::y::r,f=>by
  have h1:=(f x mem_cons_self).2.2;have h2:=ykc sep hs (y::r) fun w hw=>f w (mem_cons_of_mem _ hw)
  show (x++sep++Str.join sep (y::r)).length<=23*((y::r).length+1);rw [ydD,ydD];omega
def ylP:(("throw":Str) = "take")=False:=eq_false (by rfl')
def ygM:(("throw":Str) = "wait")=False:=eq_false (by rfl')
def yns:(("wait":Str) = "take")=False:=eq_false (by rfl')
section
variable {h:AH}
def yrN (e:ye i Y h=some (.lst xs,h)):xIL (ye i) Y h=some (xs,h):=yFs e
def yDX (e:ye i Y h=some (.str z,h)) (hl:z.length<=100000):xIS (ye i) Y h=some (z.cps.toList.map sgn,h):=by unfold xIS;rw [e,ybw];exact if_pos hl
def ypx {x y:Str}(hl:x.length<=1000):ydh [.str x,.str y] h=some (.bl (x.cps.toList.all fun c=>decide (c∈y.cps.toList)),h):=by
 unfold ydh;rw [yo];show ob (yO _ [.val (.str x),.val (.str y)] h) fnK=_;have hz:x.cps.toList.length=x.length:=by simp [Str.length]
 symm;rw [yDX rfl (by omega),ybw];rw [if_pos (by rw [length_map];omega)];rw [yfF (f:=sgn) (g:=fun c=>.bl (decide (c∈y.cps.toList))) fun c _=>rfl];symm;show ob (yvN [.lst (x.cps.toList.map fun c=>PV.bl (decide (c∈y.cps.toList)))] h) _=_;unfold yvN ybH;rw [show (x.cps.toList.map fun c=>PV.bl (decide (c∈y.cps.toList)))=(x.cps.toList.map fun c=>decide (c∈y.cps.toList)).map PV.bl by rw [map_map];rfl];simp only [ylt,List.all_map];rfl
def yuG (h1:48<=c) (h2:c<=57):c∈("0123456789":Str).cps.toList:=by rw [show ("0123456789":Str).cps.toList=(List.range 10).map (· + 48) by rfl'];exact List.mem_map.mpr ⟨c-48,List.mem_range.mpr (by omega),by omega⟩
def ylQ (h0:0<=n) (h1:n<B64):yev [.str (toString n:String)] h=some (.int n,h):=by
 obtain ⟨d1,d2,d3,d4⟩:=yrK n.toNat;have hl:=str_len h0 (k:=20) (by decide) (Int.lt_trans h1 yrI);have hn:(Str.ofString (toString n)).length≠0:=(ywe h0 h1).2.1;have e:=yrL h0;have hz:n=0->Str.ofString (toString n) = "0":=fun z=>by subst z;rfl'
 have hat:atI (Str.ofString (toString n)).cps.toList 0=some ((yrJ n.toNat).headD 0):=by
  rw [e];cases q:yrJ n.toNat with
  | nil=>exact absurd q d1
  | cons a l=>exact yEQ
 have hh:(yrJ n.toNat).headD 0=48->n=0:=fun q=>Classical.byContradiction fun z=>d4 (by omega) (by
  cases q2:yrJ n.toNat with
  | nil=>exact absurd q2 d1
  | cons a l=>rw [q2] at q;simpa using q)
 generalize hs:Str.ofString (toString n)=z at *;unfold yev;rw [yo];show ob (yl _ _ [.val (.str z),.no] h) fnK=_;have ml:z.cps.toList.all (fun c=>decide (c∈("0123456789":Str).cps.toList))=true:=List.all_eq_true.mpr fun c hc=>decide_eq_true (yuG (d2 c (e ▸ hc)).1 (d2 c (e ▸ hc)).2)
 symm;rw [if_pos (by omega:z.length<=100000)];simp only [show (1:Int)<=z.length by omega,show (z.length:Int)<=20 by omega];symm;rw [ypx (by omega),ml];symm;rw [hat];symm;have hb:∀ h:AH,yqT [.str z] h=some (.int n,h):=fun h=>by unfold yqT;show (if _ then _ else _)=_;rw [if_pos ⟨by rw [e];exact d1,by rw [e];exact d2,by omega⟩,e,d3,Int.toNat_of_nonneg h0]
 rw [if_neg (not_not_intro trivial),if_pos (by omega)];simp only [sgn,hb];symm;rw [if_pos h1];split
 .rename_i q;have q:(yrJ n.toNat).headD 0=48:=by have q2:=congrArg (fun s:Str=>s.cps.toList) q;rw [show ("0":Str).cps.toList=[48] by rfl'] at q2;simpa using q2
  rw [if_neg (not_not_intro (hz (hh q)))]
 .rfl
def yBu {sep:Str}(e:strsOf xs=some ts) (hs:sep.length<=16) (hl:(ts.map (·.length)).sum+ts.length<=1048576):ynd (.str sep) [.lst xs] h=some (.str (Str.join sep ts),h):=by unfold ynd ybH;simp only [e];exact if_pos ⟨hs,hl⟩
end
def ykd:(("minus":Str) = "plus")=False:=eq_false (by rfl')
def yke:(("plus":Str) = "minus")=False:=eq_false (by rfl')
def ykf:(("times":Str) = "plus")=False:=eq_false (by rfl')
def ykg:(("plus":Str) = "times")=False:=eq_false (by rfl')
def yiB:(("times":Str) = "minus")=False:=eq_false (by rfl')
def yiC:(("minus":Str) = "times")=False:=eq_false (by rfl')
def ylR:(("less":Str) = "plus")=False:=eq_false (by rfl')
def ylS:(("plus":Str) = "less")=False:=eq_false (by rfl')
def ykh:(("less":Str) = "minus")=False:=eq_false (by rfl')
def yki:(("minus":Str) = "less")=False:=eq_false (by rfl')
def ykj:(("less":Str) = "times")=False:=eq_false (by rfl')
def ykk:(("times":Str) = "less")=False:=eq_false (by rfl')
def ylT:(("same":Str) = "plus")=False:=eq_false (by rfl')
def ykl:(("same":Str) = "minus")=False:=eq_false (by rfl')
def ykm:(("same":Str) = "times")=False:=eq_false (by rfl')
def ylU:(("same":Str) = "less")=False:=eq_false (by rfl')
section
variable {h:AH}
noncomputable def Stk (h:AH):List Nat->List (List Key×List PV)->Prop
 | [],[]=>True
 | l::ls,d::ds=>h[l]?=some (.dct d.1 d.2)/\Stk h ls ds
 | _,_=>False
theorem Stk.get {h:AH}:∀ {ls:List Nat}{ds:List (List Key×List PV)}(k:Nat),Stk h ls ds->k<ls.length->∃ l d,ls[k]?=some l/\ds[k]?=some d/\h[l]?=some (.dct d.1 d.2)
 | l::ls,d::ds,0,s,_=>⟨l,d,rfl,rfl,s.1⟩
 | l::ls,d::ds,k+1,s,hk=>by obtain ⟨l',d',e1,e2,e3⟩:=Stk.get k s.2 (by simpa using hk);exact ⟨l',d',by simpa using e1,by simpa using e2,e3⟩
 | [],[],_,_,hk=>by simp at hk
 | [],_::_,_,s,_=>s.elim
 | _::_,[],_,s,_=>s.elim
noncomputable def ywf (ds:List (List Key×List PV)) (j:Key):Nat->PV
 | 0=>.non
 | k+1=>match ds[k]? with|some d=>(match yjN d.1 d.2 j with|some x=>x|none=>ywf ds j k)|none=>.non
structure LG (h:AH) (o s b:Nat) (ls:List Nat) (ds:List (List Key×List PV)) (ks:List Key) (xs:List PV):Prop where
 ob:h[o]?=some (.ins 11 ["stack","last_seen"] [.loc s,.loc b])
 st:h[s]?=some (.lst (ls.map .loc))
 sn:h[b]?=some (.dct ks xs)
 dl:Stk h ls ds
def yfI (e:h[o]?=some (.ins 11 ["stack","last_seen"] [.loc s,.loc b])):yfT [11] "stack" (.loc o) h=some (.loc s,h):=by unfold yfT ygX;simp only [e];rw [if_pos (by rfl'),show idxOf ("stack":Str) ["stack","last_seen"]=0 by rfl'];rfl
def yrO (e:h[o]?=some (.ins 11 ["stack","last_seen"] [.loc s,.loc b])):yfT [11] "last_seen" (.loc o) h=some (.loc b,h):=by unfold yfT ygX;simp only [e];rw [if_pos (by rfl'),show idxOf ("last_seen":Str) ["stack","last_seen"]=1 by rfl'];rfl
def yrP (e:h[n]?=some (.lst ((l++[t]).map PV.loc))):ybM (.loc n) (.int (-1)) h=some (.loc t,h):=by
 unfold ybM;simp only [e];have:atI ((l++[t]).map PV.loc) (-1)=some (.loc t):=by unfold atI ixN;simp;rw [if_pos (by omega),bind_some,show (-1+((l.length:Int)+1)).toNat=l.length by omega];simp
 rw [this]
def yyv (ek':ek Y h=some (.int i,h)) (ed':ed Y h=some (.loc n,h)) (e:h[n]?=some (.dct ks xs)):yzj false ek ed Y h=some (.bl (yjN ks xs (.inl i)).isSome,h):=by unfold yzj;rw [ek',ybw,ed',ybw];unfold yxL;simp only [e,keyOf];rfl
def yuH (ed':ed Y h=some (.loc n,h)) (ek':ek Y h=some (.int i,h)) (e:h[n]?=some (.dct ks xs)) (hx:yjN ks xs (.inl i)=some x):yhF ed ek Y h=some (x,h):=by unfold yhF;rw [ed',ybw,ek',ybw];unfold yxL;simp only [e,keyOf,hx]
def ykn (ev':ev Y h=some (x,h)) (ed':ed Y h=some (.loc n,h)) (ek':ek Y h=some (.int i,h)) (e:h[n]?=some (.dct ks xs)) (hl:ks.length<1000) :
  yjQ ed ek ev Y h=some (.nx Y,h.set n (.dct (ycM ks xs (.inl i) x).1 (ycM ks xs (.inl i) x).2)):=by
 unfold yjQ;rw [ev',ybw,ed',ybw,ek',ybw];simp only [e,keyOf];rw [if_pos hl]
end
section
variable {h:AH}{o s b:Nat}{ls:List Nat}{ds:List (List Key×List PV)}{ks:List Key}{xs:List PV}
def yuI (g:LG h o s b ls ds ks xs):∀ (k:Nat),k<=ls.length->∀ c:PVar,
  ob (yms s true (yn 2) (ybN (yz (yzj false (ye 1) (ye 2))) (yO (yhF (ye 2) (ye 1))) (yS)) k (ls.length-k) [.val (.loc o),.val (.int i),c] h) (fun o h1=>ob (sqK (yO (xC .non)) o h1) fnK)=some (ywf ds (.inl i) k,h):=by
 intro k
 induction k with
 | zero =>
  intro _ c;unfold yms;simp only [g.st];rw [if_pos (by simp),ybw,ypn];rfl
 | succ k ih =>
  intro hk c;unfold yms;simp only [g.st];obtain ⟨l,d,e1,e2,e3⟩:=g.dl.get k (by omega);have e4:(ls.map PV.loc)[k]?=some (.loc l):=by rw [getElem?_map,e1];rfl
  simp only [if_true,e4];have er:yn 2 (.loc l) [.val (.loc o),.val (.int i),c]=some [.val (.loc o),.val (.int i),.val (.loc l)]:=rfl;rw [er,bind_some,yAC,yvO,yyv (n:=l) rfl rfl e3,ybw,yEO,ybw];have ek:ls.length-(k+1)+1=ls.length-k:=by omega
  unfold ywf;simp only [e2];cases hg:yjN d.1 d.2 (.inl i) with
  | none =>
   rw [if_neg (by simp),yvP,ybw];dsimp only;rw [ek];exact ih (by omega) _
  | some x =>
   rw [if_pos (show (some x).isSome=true from rfl),ynf,yuH (n:=l) rfl rfl e3 hg,ybw,ybw];rfl
def yBv (g:LG h o s b ls ds ks xs):yed [.loc o,.int i] h=some (ywf ds (.inl i) ls.length,h):=by unfold yed;rw [yo];show ob (yl _ _ [.val (.loc o),.val (.int i),.no] h) fnK=_;rw [yjH];have:=yuI (i:=i) g ls.length (Nat.le_refl _) .no;rw [sub_self] at this;rw [yxB,<- this];unfold yjU;rw [yjI,show ye 0 [PVar.val (.loc o),.val (.int i),.no] h=some (.loc o,h) from rfl,ybw,yfI g.ob,ybw];simp only [g.st,length_map]
def yuJ {d:List Key×List PV}(g:LG h o s b (ls++[t]) ds ks xs) (ht:h[t]?=some (.dct d.1 d.2)) (hl:d.1.length<1000):yes [.loc o,.int i,v] h=some (.non,h.set t (.dct (ycM d.1 d.2 (.inl i) v).1 (ycM d.1 d.2 (.inl i) v).2)):=by unfold yes;rw [yo,yjH,ytR,yDe,yjI,show ye 0 ([PV.loc o,.int i,v].map .val++replicate (4-[PV.loc o,.int i,v].length) .no) h=some (.loc o,h) from rfl,ybw,yfI g.ob,ybw];show ob (ob (ob (ybM (.loc s) (.int (-1)) h) _) _) _=_;rw [yrP g.st,ybw];show ob (yjQ (ye 3) (ye 1) (ye 2) [.val (.loc o),.val (.int i),.val v,.val (.loc t)] h) fnK=_;rw [ykn (n:=t) (i:=i) (x:=v) rfl rfl rfl ht hl,ybw];rfl
def yuK (g:LG h o s b ls ds ks xs) (hl:ls.length<1000):yet [.loc o] h=some (.non,(h++[Nd.dct [] []]).set s (.lst ((ls++[h.length]).map .loc))):=by
 have hs:(h++[Nd.dct [] []])[s]?=some (.lst (ls.map .loc)):=by rw [getElem?_append_left (List.getElem?_eq_some_iff.mp g.st).1];exact g.st
 unfold yet;rw [yo,yoe,yAA,yjI,show ye 0 ([PV.loc o].map .val++replicate (1-[PV.loc o].length) .no) h=some (.loc o,h) from rfl,ybw,yfI g.ob,ybw,if_pos (ycN g.st)];show ob (ob (yeN (.loc s) [.loc h.length] (h++[Nd.dct [] []])) _) fnK=_;rw [ynj hs (by rw [length_map];omega),ybw,ybw,map_append];rfl
def yrQ (e:h[n]?=some (.lst ((l++[t]).map PV.loc))):ygY (.loc n) [] h=some (.loc t,h.set n (.lst (l.map .loc))):=by
 unfold ygY;simp only [e];have:((l++[t]).map PV.loc)[((l++[t]).map PV.loc).length-1]?=some (.loc t):=by simp
 rw [this];simp
def yyw (g:LG h o s b (ls++[t]) ds ks xs):yfe [.loc o] h=some (.non,h.set s (.lst (ls.map .loc))):=by unfold yfe;rw [yo,yoe,yAA,yjI,show ye 0 ([PV.loc o].map .val++replicate (1-[PV.loc o].length) .no) h=some (.loc o,h) from rfl,ybw,yfI g.ob,ybw,if_pos (ycN g.st),ytQ,ybw,yrQ g.st,ybw,ybw];rfl
end
section
variable {h:AH}{o s b:Nat}{ls:List Nat}{ds:List (List Key×List PV)}{ks:List Key}{xs:List PV}
def yrR {dt du:List Key×List PV}(g:LG h o s b (ls++[u]++[t]) ds ks xs) (ho:o≠s) (hus:u≠s) (hts:t≠s) (hut:u≠t) (eu:h[u]?=some (.dct du.1 du.2)) (et:h[t]?=some (.dct dt.1 dt.2)) (hl:du.1.length+dt.1.length<1000) :
  ydO [.loc o] h=some (.non,(h.set s (.lst ((ls++[u]).map .loc))).set u (.dct (yit dt.1 dt.2 du.1 du.2).1 (yit dt.1 dt.2 du.1 du.2).2)):=by
 have hs:s<h.length:=(List.getElem?_eq_some_iff.mp g.st).1;have e1:(h.set s (.lst ((ls++[u]).map PV.loc)))[s]?=some (.lst ((ls++[u]).map PV.loc)):=getElem?_set_self hs;have e2:(h.set s (.lst ((ls++[u]).map PV.loc)))[o]?=some (.ins 11 ["stack","last_seen"] [.loc s,.loc b]):=(getElem?_set_ne (Ne.symm ho)).trans g.ob;have e3:(h.set s (.lst ((ls++[u]).map PV.loc)))[u]?=some (.dct du.1 du.2):=(getElem?_set_ne (Ne.symm hus)).trans eu;have e4:(h.set s (.lst ((ls++[u]).map PV.loc)))[t]?=some (.dct dt.1 dt.2):=(getElem?_set_ne (Ne.symm hts)).trans et;unfold ydO;rw [yo,yjH,ytR,yAA,yjI,show ye 0 ([PV.loc o].map .val++replicate (3-[PV.loc o].length) .no) h=some (.loc o,h) from rfl,ybw,yfI g.ob,ybw,if_pos (ycN g.st),ytQ,ybw,yrQ g.st,ybw];generalize hh:h.set s (.lst ((ls++[u]).map PV.loc))=h1 at *;show ob (yl _ _ [.val (.loc o),.val (.loc t),.no] h1) fnK=_;rw [yjH,ytR,yDe,yjI,show ye 0 [PVar.val (.loc o),.val (.loc t),.no] h1=some (.loc o,h1) from rfl,ybw,yfI e2,ybw];show ob (ob (ob (ybM (.loc s) (.int (-1)) h1) _) _) _=_;rw [yrP e1,ybw];show ob (yY (xBM yps yzk (ye 2) (yc (ye 1) yh)) [.val (.loc o),.val (.loc t),.val (.loc u)] h1) fnK=_;rw [yoe,yAA];show ob (ob (if yps (.loc u) h1=true then yzk (.loc u) [.loc t] h1 else none) _) fnK=_;rw [if_pos (by unfold yps ylx;simp only [e3];rfl)];unfold yzk;simp only [e3,e4];rw [if_pos ⟨hut,hl⟩,ybw,ybw];rfl
end
def At (h:AH) (m:List (Nat×Nd)):Prop:=(m.map (·.1)).Nodup/\∀ p∈m,h[p.1]?=some p.2
section
variable {h:AH}{m a b:List (Nat×Nd)}
def At.get (A:At h m) (i:Nat) (e:m[i]?=some (n,d)):h[n]?=some d:=A.2 _ (mem_of_getElem? e)
def At.lt (A:At h m) (hp:p∈m):p.1<h.length:=(List.getElem?_eq_some_iff.mp (A.2 p hp)).1
def At.upd (d':Nd) (A:At h (a++(n,d)::b)):At (h.set n d') (a++(n,d')::b):=by
 have hn:n<h.length:=A.lt (p:=(n,d)) (by simp);refine ⟨by have:=A.1;simpa using this,fun p hp=>?_⟩
 by_cases q:p.1=n
 .have:p=(n,d'):=by
   have nd:=A.1;rw [map_append,map_cons,List.nodup_append] at nd;rcases List.mem_append.mp hp with z|z
   .exact absurd q (nd.2.2 _ (List.mem_map_of_mem z) _ mem_cons_self)
   .rcases mem_cons.mp z with z|z
    .exact z
    .exact absurd (show n∈b.map (·.1) by rw [<- q];exact List.mem_map_of_mem z) (List.nodup_cons.mp nd.2.1).1
  rw [this,getElem?_set_self hn]
 .rw [getElem?_set_ne (fun z=>q z.symm)];refine A.2 p ?_;rcases List.mem_append.mp hp with z|z
  .exact mem_append_left _ z
  .rcases mem_cons.mp z with z|z
   .exact absurd (by rw [z]) q
   .exact mem_append_right _ (mem_cons_of_mem _ z)
def At.new (d:Nd) (A:At h (a++b)):At (h++[d]) (a++(h.length,d)::b):=by
 have lt:∀ p∈a++b,p.1<h.length:=fun p hp=>A.lt hp
 refine ⟨?_,fun p hp=>?_⟩
 .have nd:=A.1;rw [map_append,List.nodup_append] at nd;rw [map_append,map_cons,List.nodup_append];refine ⟨nd.1,List.nodup_cons.mpr ⟨fun z=>?_,nd.2.1⟩,fun x hx y hy=>?_⟩
  .obtain ⟨p,hp,e⟩:=List.mem_map.mp z;have:=lt p (mem_append_right _ hp);omega
  .rcases mem_cons.mp hy with rfl|hy
   .obtain ⟨p,hp,e⟩:=List.mem_map.mp hx;have:=lt p (mem_append_left _ hp);omega
   .exact nd.2.2 x hx y hy
 .rcases List.mem_append.mp hp with z|z
  .rw [getElem?_append_left (lt p (mem_append_left _ z))];exact A.2 p (mem_append_left _ z)
  .rcases mem_cons.mp z with z|z
   .rw [z];simp
   .rw [getElem?_append_left (lt p (mem_append_right _ z))];exact A.2 p (mem_append_right _ z)
def At.sub {m':List (Nat×Nd)}(A:At h m) (s:m'.Sublist m):At h m':=⟨(s.map _).nodup A.1,fun p hp=>A.2 p (s.subset hp)⟩
def At.perm {m':List (Nat×Nd)}(A:At h m) (s:m'.Perm m):At h m':=⟨(s.map _).nodup_iff.mpr A.1,fun p hp=>A.2 p (s.subset hp)⟩
def fl (i:Nat) (e:h[n]?=some (.ins k ns xs)) (hk:k∈cs) (hi:(decide (f∈ns) && ns.idxOf f == i)=true) (hy:xs[i]?=some y):yfT cs f (.loc n) h=some (y,h):=by obtain ⟨h1,h2⟩:=Bool.and_eq_true_iff.mp hi;have h2:=eq_of_beq h2;unfold yfT ygX;simp only [e];rw [if_pos ⟨hk,of_decide_eq_true h1⟩,h2,hy]
def yuL (nu ma cr en:Nat):Nd:=.ins 15 ["numbers","marks","crew","entries"] [.loc nu,.loc ma,.loc cr,.loc en]
noncomputable def ydl (ds:List PV) (w nth:Int) (sl:Bool) (bf:List Int) (rn:Nat):Nd:=.ins 14 ["deeds","width","nth","sleeps","before","run"] [.lst ds,.int w,.int nth,.bl sl,.lst (bf.map .int),.loc rn]
noncomputable def yiD (hl:Nat) (w:Int) (lg:Nat) (rows:List PV) (t:Int) (sn sd:Nat):Nd:=.ins 12 ["held","width","log","rows","at","seen_stamps","sides"] [.loc hl,.int w,.loc lg,.lst rows,.int t,.loc sn,.loc sd]
def ydm (e:h[n]?=some (yuL nu ma cr en)):yfT [15] "numbers" (.loc n) h=some (.loc nu,h)/\yfT [15] "marks" (.loc n) h=some (.loc ma,h)/\yfT [15] "crew" (.loc n) h=some (.loc cr,h)/\yfT [15] "entries" (.loc n) h=some (.loc en,h) :=
 ⟨fl 0 e (by decide) (by rfl') rfl,fl 1 e (by decide) (by rfl') rfl,fl 2 e (by decide) (by rfl') rfl,fl 3 e (by decide) (by rfl') rfl⟩
def ydn {sl:Bool}(e:h[n]?=some (ydl ds w nth sl bf rn)):yfT [14] "deeds" (.loc n) h=some (.lst ds,h)/\yfT [12,14] "width" (.loc n) h=some (.int w,h)/\yfT [14] "nth" (.loc n) h=some (.int nth,h)/\yfT [14] "sleeps" (.loc n) h=some (.bl sl,h)/\yfT [14] "before" (.loc n) h=some (.lst (bf.map .int),h)/\yfT [14] "run" (.loc n) h=some (.loc rn,h) :=
 ⟨fl 0 e (by decide) (by rfl') rfl,fl 1 e (by decide) (by rfl') rfl,fl 2 e (by decide) (by rfl') rfl,fl 3 e (by decide) (by rfl') rfl,fl 4 e (by decide) (by rfl') rfl,fl 5 e (by decide) (by rfl') rfl⟩
def ycJ {sn sd:Nat}(e:h[n]?=some (yiD hl w lg rows t sn sd)):yfT [12] "held" (.loc n) h=some (.loc hl,h)/\yfT [12,14] "width" (.loc n) h=some (.int w,h)/\yfT [12] "log" (.loc n) h=some (.loc lg,h)/\yfT [12] "rows" (.loc n) h=some (.lst rows,h)/\yfT [10,12] "at" (.loc n) h=some (.int t,h)/\yfT [12] "seen_stamps" (.loc n) h=some (.loc sn,h)/\yfT [12] "sides" (.loc n) h=some (.loc sd,h) :=
 ⟨fl 0 e (by decide) (by rfl') rfl,fl 1 e (by decide) (by rfl') rfl,fl 2 e (by decide) (by rfl') rfl,fl 3 e (by decide) (by rfl') rfl,fl 4 e (by decide) (by rfl') rfl,fl 5 e (by decide) (by rfl') rfl,fl 6 e (by decide) (by rfl') rfl⟩
end
def mK (k:Nat) (m:Str) (f:Fn) (as:XA) (Y:PSt) (x:PV) (h1:AH):Option (PV×AH):=match ygX x h1 with
 | some (k',ns,_)=>if k'=k/\m∉ns then ob (as Y h1) fun ys h2=>f (x::ys) h2 else none
 | none=>none
def fL (cs:List Nat) (f:Str) (Y:PSt) (y x:PV) (h2:AH):Option (Out×AH):=match x with
 | .loc n=>(match h2[n]? with|some (.ins k ns xs)=>if k∈cs/\ns.length<1000 then some (.nx Y,h2.set n (.ins k (putN f y ns xs).1 (putN f y ns xs).2)) else none|_=>none)
 | _=>none
section
variable {h:AH}{Y:PSt}
def ycq:yg k m f e as Y h=ob (e Y h) fun x h1=>mK k m f as Y x h1:=id rfl
def ypQ:ycX cs f eo ev Y h=ob (ev Y h) fun y h1=>ob (eo Y h1) fun x h2=>fL cs f Y y x h2:=id rfl
def yB (e:h[n]?=some (.ins k ns xs)) (hm:decide (m∈ns)=false):mK k m f as Y (.loc n) h=ob (as Y h) fun ys h2=>f (.loc n::ys) h2:=by unfold mK ygX;simp only [e];rw [if_pos ⟨trivial,of_decide_eq_false hm⟩]
def yeT (e:h[n]?=some (.ins k ns xs)) (hk:(decide (k∈cs) && decide (ns.length<1000))=true) (hp:putN f y ns xs=(ns',xs')):fL cs f Y y (.loc n) h=some (.nx Y,h.set n (.ins k ns' xs')):=by obtain ⟨h1,h2⟩:=Bool.and_eq_true_iff.mp hk;unfold fL;simp only [e];rw [if_pos ⟨of_decide_eq_true h1,of_decide_eq_true h2⟩,hp]
end
def W5:List Str:=["plus","minus","times","less","same"]
def ywg (h:w∈W5):w = "plus"\/w = "minus"\/w = "times"\/w = "less"\/w = "same":=by simpa [W5] using h
inductive Rw where
 | let_ (r:Str) (n:Int)|take (r p:Str)|put (p s:Str)|throw (nm r:Str)|wait|either (k:Int)|guard (nm r:Str) (k:Int)|settle|reckon (w r s t:Str)|jump (k:Int)|unl (s:Str) (k:Int)|lay
noncomputable def yT:Rw->PV
 | .let_ r n=>.tup [.str "let",.str r,.int n]
 | .take r p=>.tup [.str "take",.str r,.str p]
 | .put p s=>.tup [.str "put",.str p,.str s]
 | .throw nm r=>.tup [.str "throw",.str nm,.str r]
 | .wait=>.tup [.str "wait"]
 | .either k=>.tup [.str "either",.int k]
 | .guard nm r k=>.tup [.str "guard",.str nm,.str r,.int k]
 | .settle=>.tup [.str "settle"]
 | .jump k=>.tup [.str "jump",.int k]
 | .unl s k=>.tup [.str "unless",.str s,.int k]
 | .reckon w r s t=>.tup [.str w,.str r,.str s,.str t]
 | .lay=>.tup [.str "lay"]
def rdr (ws:List Str) (k:Nat):Nd:=.ins 10 ["words","at"] [.lst (ws.map .str),.int k]
def hR (h:AH) (o:Nat) (ws:List Str) (k:Nat):AH:=h.set o (rdr ws k)
def hdV:List Str->PV
 | []=>.non
 | w::_=>.str w
def Tk (m:Str) (f:Fn) (xs:List PV) (v:PV) (w:List Str):Prop:=∀ ⦃h:AH⦄ ⦃o:Nat⦄ ⦃ws:List Str⦄ ⦃k:Nat⦄ ⦃r:List Str⦄ ⦃as:XA⦄ ⦃Y:PSt⦄,o<h.length/\ws.length<=100000->ws.drop k=w++r->as Y (hR h o ws k)=some (xs,hR h o ws k)->mK 10 m f as Y (.loc o) (hR h o ws k)=some (v,hR h o ws (k+w.length))
section
variable {h:AH}{o:Nat}{ws:List Str}{k:Nat}{w m:Str}{r:List Str}{f:Fn}{xs:List PV}{v:PV}{Y:PSt}
def ypy (ho:o<h.length):(hR h o ws k)[o]?=some (rdr ws k):=getElem?_set_self ho
def Tk.mk {w:List Str}(hm:decide (m∈(["words","at"]:List Str))=false) (H:∀ {h:AH}{o:Nat}{ws:List Str}{k:Nat}{r:List Str},o<h.length/\ws.length<=100000->ws.drop k=w++r->f (.loc o::xs) (hR h o ws k)=some (v,hR h o ws (k+w.length))):Tk m f xs v w:=fun _ _ _ _ _ _ _ G e ea=>by rw [yB (ypy G.1) hm,ea,ybw,H G e]
def yoE (ho:o<h.length):yfT [10] "words" (.loc o) (hR h o ws k)=some (.lst (ws.map .str),hR h o ws k):=fl 0 (ypy ho) (by decide) (by rfl') rfl
def yyx (ho:o<h.length):yfT [10,12] "at" (.loc o) (hR h o ws k)=some (.int k,hR h o ws k):=fl 1 (ypy ho) (by decide) (by rfl') rfl
def pR {j:Nat}(ho:o<h.length):fL [10,12] "at" Y (.int (j:Int)) (.loc o) (hR h o ws k)=some (.nx Y,hR h o ws j):=(yeT (ns':=["words","at"]) (xs':=[.lst (ws.map .str),.int j]) (ypy ho) (by decide) (by kernel_rfl!)).trans (by unfold hR rdr;rw [List.set_set])
def yFa (e:ws.drop k=w::r):ws[k]?=some w/\k<ws.length/\ws.drop (k+1)=r:=by
 have hk:k<ws.length:=Classical.byContradiction fun z=>by rw [List.drop_of_length_le (by omega)] at e;cases e
 rw [List.drop_eq_getElem_cons hk] at e;cases e;exact ⟨List.getElem?_eq_getElem hk,hk,rfl⟩
def d_1 (e:ws.drop k=w::r):ws.drop (k+1)=r:=(yFa e).2.2
def ypz (e:ws.drop k=a++b):ws.drop (k+a.length)=b:=by rw [<- List.drop_drop,e,List.drop_left]
variable (G:o<h.length/\ws.length<=100000)
include G
theorem yex (e:ws.drop k=r):mK 10 "ahead" ybs yh Y (.loc o) (hR h o ws k)=some (hdV r,hR h o ws k):=by
 rw [yB (ypy G.1) (by rfl'),ytQ,ybw];unfold ybs;rw [yo];show ob (yl _ _ [.val (.loc o)] (hR h o ws k)) fnK=_;cases r with
 | nil=>simpa [yoE G.1,yyx G.1,length_map,Int.ofNat_lt,show ¬ k<ws.length from by have:=List.drop_eq_nil_iff.mp e;omega,G.2,hdV,↓reduceIte]
 | cons w r =>
  obtain ⟨e1,e2,_⟩:=yFa e;have e3:atI (ws.map PV.str) (k:Int)=some (.str w):=ydp (by rw [getElem?_map,e1];rfl)
  simpa [yoE G.1,yyx G.1,length_map,Int.ofNat_lt,e2,e3,G.2,hdV,↓reduceIte]
end
section
variable {w nm a b c:Str}{n:Int}
def ynt {w:Str}:(isN (.str w)=true)=False:=eq_false (by intro z;cases z)
def yyy {w:Int}:(isN (.int w)=true)=False:=eq_false (by intro z;cases z)
theorem yfJ:Tk "taken" ybt [] (.str w) [w]:=.mk (by rfl') fun {h o ws k r} G e=>by
 unfold ybt;rw [yo];show ob (yl _ _ [.val (.loc o),.no] (hR h o ws k)) fnK=_
 simpa [ycq,yex G e,hdV,List.cons_append,ynt,yyx G.1,ypQ,↓reduceIte]
 rw [show (k:Int)+1=(k+1:Nat) from rfl,pR G.1];symm
theorem yjf:Tk "pass_over" yL [.str w] .non [w]:=.mk (by rfl') fun {h o ws k r} G e=>by
 unfold yL;rw [yo];show ob (yl _ _ [.val (.loc o),.val (.str w),.no] (hR h o ws k)) fnK=_
 simpa [ycq,yfJ G e]
def ydU (r:Str):Prop:=∀ h,yhQ [.str r] h=some (.bl true,h)
theorem ygg (g:ydU w):Tk "slot_taken" yu [] (.str w) [w]:=.mk (by rfl') fun {h o ws k r} G e=>by
 unfold yu;rw [yo];show ob (yl _ _ [.val (.loc o),.no] (hR h o ws k)) fnK=_
 simpa [ycq,yfJ G e,g _]
def yhW (r:Str):Prop:=∀ h,yhR [.str r] h=some (.bl true,h)
theorem ywh (g:yhW w):Tk "name_taken" ybB [] (.str w) [w]:=.mk (by rfl') fun {h o ws k r} G e=>by
 unfold ybB;rw [yo];show ob (yl _ _ [.val (.loc o),.no] (hR h o ws k)) fnK=_
 simpa [ycq,yfJ G e,g _]
theorem yuM (g:0<=n/\n<B64):Tk "number_taken" ybJ [] (.int n) [(toString n:String)]:=.mk (by rfl') fun {h o ws k r} G e=>by
 unfold ybJ;rw [yo];show ob (yl _ _ [.val (.loc o),.no,.no] (hR h o ws k)) fnK=_
 simpa [ycq,yfJ G e,ylQ g.1 g.2,yyy,↓reduceIte]
def yDY (e:Y[i]?=some (.val (.str w))) (n:decide (w=l)=false):yl (ybN (yz (xOp oEq (ye i) (xC (.str l)))) A yS) B Y h=B Y h:=by
 have e1:ye i Y h=some (.str w,h):=by unfold ye;rw [e]
 simpa [e1,of_decide_eq_false n,↓reduceIte]
theorem yuN (ga:ydU a) (gb:ydU b) (gc:ydU c):Tk "reckon_taken" ybK [.str w] (.ins 2 ["word","slot","one","other"] [.str w,.str a,.str b,.str c]) [a,b,c]:=.mk (by rfl') fun {h o ws k r} G e=>by
 unfold ybK;rw [yo];show ob (yl _ _ [.val (.loc o),.val (.str w),.no,.no,.no] (hR h o ws k)) fnK=_
 simpa [ycq,ygg ga G e,ygg gb G (d_1 e),ygg gc G (d_1 (d_1 e))]
 rfl
end
section
variable {w nm a b:Str}{n:Int}
theorem yDZ (ga:ydU a) (g:0<=n/\n<B64):Tk "plain_taken" yv [.str "let"] (.ins 1 ["slot","number"] [.str a,.int n]) [a,(tI n)]:=.mk (by rfl') fun {h o ws k r} G e=>by
 unfold yv;rw [yo];show ob (yl _ _ [.val (.loc o),.val (.str "let"),.no,.no,.no] (hR h o ws k)) fnK=_
 simpa [ycq,ygg ga G e,yuM g G (d_1 e)]
 rfl
theorem ywi (ga:ydU a) (gb:ydU b):Tk "plain_taken" yv [.str "take"] (.ins 3 ["slot","place"] [.str a,.str b]) [a,b]/\Tk "plain_taken" yv [.str "put"] (.ins 4 ["place","slot"] [.str a,.str b]) [a,b]:=by
 constructor
 all_goals
  refine .mk (by rfl') fun {h o ws k r} G e=>?_
  unfold yv;rw [yo];show ob (yl _ _ [.val (.loc o),.val (.str _),.no,.no,.no] (hR h o ws k)) fnK=_
  repeat rw [yDY rfl (by rfl')]
  simpa [ycq,ygg ga G e,ygg gb G (d_1 e)]
  rfl
theorem yyz (ga:yhW a) (gb:ydU b):Tk "plain_taken" yv [.str "throw"] (.ins 8 ["name","slot"] [.str a,.str b]) [a,b]:=.mk (by rfl') fun {h o ws k r} G e=>by
 unfold yv;rw [yo];show ob (yl _ _ [.val (.loc o),.val (.str "throw"),.no,.no,.no] (hR h o ws k)) fnK=_
 repeat rw [yDY rfl (by rfl')]
 simpa [ycq,ywh ga G e,ygg gb G (d_1 e)]
 rfl
def yBw:Tk "plain_taken" yv [.str "wait"] (.ins 9 [] []) []:=.mk (by rfl') fun _ _=>by kernel_rfl!
theorem yuO (g:w∈W5) (ga:ydU a) (gb:ydU b) (gc:ydU c):Tk "plain_taken" yv [.str w] (.ins 2 ["word","slot","one","other"] [.str w,.str a,.str b,.str c]) [a,b,c]:=.mk (by rfl') fun {h o ws k r} G e=>by
 have e1:∀ h,yhP [.str w] h=some (.bl true,h):=fun h=>by rcases ywg g with rfl|rfl|rfl|rfl|rfl<;>kernel_rfl!
 unfold yv;rw [yo];show ob (yl _ _ [.val (.loc o),.val (.str w),.no,.no,.no] (hR h o ws k)) fnK=_;have e2:∀ l∈(["let","take","put","throw","wait"]:List Str),decide (w=l)=false:=by rcases ywg g with rfl|rfl|rfl|rfl|rfl<;>rfl'
 repeat rw [yDY rfl (e2 _ (by simp))]
 simpa [ycq,e1,yuN (w:=w) ga gb gc G e]
end
section
variable {n:Nat}{ar:Int}{w:Str}{tl wa wb:List Str}{v:PV}{va vb:List PV}
theorem yjg (nw:(decide (w = "if") || decide (w = "either") || decide (w = "try"))=false) (ha:ar<=8) (P:Tk "plain_taken" yv [.str w] v tl):Tk "part_taken" (yD (n+1)) [.int ar] v (w::tl):=.mk (by rfl') fun {h o ws k r} G e=>by
 simp only [Bool.or_eq_false_iff,decide_eq_false_iff_not] at nw;unfold yD;rw [yo];show ob (yl _ _ [.val (.loc o),.val (.int ar),.no] (hR h o ws k)) fnK=_
 simpa [show (ar>8)=False from eq_false (by omega),ycq,yfJ G e,nw.1.1,nw.1.2,nw.2,P G (d_1 e),↓reduceIte]
 rw [show k+1+tl.length=k+(tl.length+1) by omega]
theorem yuP (A:Tk "side_taken" (yq n) [.int ar] (.lst va) wa) (B:Tk "side_taken" (yq n) [.int ar] (.lst vb) wb):Tk "either_taken" (ybj (n+1)) [.int ar] (.ins 6 ["parts","others"] [.lst va,.lst vb]) (wa++("or":Str)::wb):=.mk (by rfl') fun {h o ws k r} G e=>by
 rw [append_assoc] at e;have e2:=ypz e;unfold ybj;rw [yo];show ob (yl _ _ [.val (.loc o),.val (.int ar),.no,.no] (hR h o ws k)) fnK=_
 simpa [ycq,A G e,yjf (w:="or") G e2,B G (d_1 e2)]
 rw [length_append,show k+wa.length+1+wb.length=k+(wa.length+(wb.length+1)) by omega];rfl
theorem yEa (gn:yhW nm) (gs:ydU s) (A:Tk "side_taken" (yq n) [.int ar] (.lst va) wa) (B:Tk "side_taken" (yq n) [.int ar] (.lst vb) wb):Tk "try_taken" (ybL (n+1)) [.int ar] (.ins 7 ["parts","name","slot","others"] [.lst va,.str nm,.str s,.lst vb]) (wa++("on":Str)::nm::s::wb):=.mk (by rfl') fun {h o ws k r} G e=>by
 rw [append_assoc] at e;have e2:=ypz e;unfold ybL;rw [yo];show ob (yl _ _ [.val (.loc o),.val (.int ar),.no,.no,.no,.no] (hR h o ws k)) fnK=_
 simpa [ycq,A G e,yjf (w:="on") G e2,ywh gn G (d_1 e2),ygg gs G (d_1 (d_1 e2)),B G (d_1 (d_1 (d_1 e2)))]
 rw [length_append,show k+wa.length+3+wb.length=k+(wa.length+(wb.length+3)) by omega];rfl
theorem yrS (ha:ar<=8):(Tk "either_taken" (ybj n) [.int (ar+1)] v tl->Tk "part_taken" (yD (n+1)) [.int ar] v ("either"::tl))/\(Tk "try_taken" (ybL n) [.int (ar+1)] v tl->Tk "part_taken" (yD (n+1)) [.int ar] v ("try"::tl)):=by
 constructor
 all_goals
  refine fun P=>.mk (by rfl') fun {h o ws k r} G e=>?_
  unfold yD;rw [yo];show ob (yl _ _ [.val (.loc o),.val (.int ar),.no] (hR h o ws k)) fnK=_
  simpa [show (ar>8)=False from eq_false (by omega),ycq,yfJ G e,show (("either":Str) = "if")=False from eq_false (by rfl'),show (("try":Str) = "if")=False from eq_false (by rfl'),show (("try":Str) = "either")=False from eq_false (by rfl'),P G (d_1 e),↓reduceIte]
  rw [show k+1+tl.length=k+(tl.length+1) by omega]
abbrev Q:=PV×List Str
def wr:List Q->List Str
 | []=>[]
 | q::l=>";"::(q.2++wr l)
def wl:List Q->List Str
 | []=>[]
 | q::l=>q.2++wr l
def PQ (n:Nat) (ar:Int) (q:Q):Prop:=Tk "part_taken" (yD n) [.int ar] q.1 q.2/\∃ w tl,q.2=w::tl/\(w = ")")=False
def ypA (n:Nat):XS:=yl (yY (yg 10 "pass_over" yL (ye 0) (yc (xC (.str ";")) (yh)))) (yfi 2 (yg 10 "part_taken" (yD n) (ye 0) (yc (ye 1) (yh))))
variable {h:AH}{o:Nat}{ws rest:List Str}{as:XA}{Y:PSt}(G:o<h.length/\ws.length<=100000) (hr:rest=[]\/∃ r,rest=(")":Str)::r)
include G hr
theorem yrT:∀ (l:List Q) (acc:List PV) (k fu:Nat),(∀ q∈l,PQ n ar q)->l.length<fu->acc.length+l.length<=1000->ws.drop k=wr l++rest ->
  whl ykb (ypA n) fu [.val (.loc o),.val (.int ar),.own (.lst acc)] (hR h o ws k)=some (.nx [.val (.loc o),.val (.int ar),.own (.lst (acc++l.map (·.1)))],hR h o ws (k+(wr l).length))
 | [],acc,k,fu+1,_,_,_,e=>by
  have c:ykb [.val (.loc o),.val (.int ar),.own (.lst acc)] (hR h o ws k)=some (false,hR h o ws k):=by
   unfold ykb
   simpa [ycq,yex G (show ws.drop k=rest from e)]
   rcases hr with rfl|⟨r,rfl⟩<;>kernel_rfl!
  rw [yok,c,ybw,if_neg (by intro z;cases z),map_nil,append_nil];rfl
 | q::l,acc,k,fu+1,H,hu,ha,e=>by
  have e:ws.drop k=(";":Str)::(q.2++(wr l++rest)):=by rw [e,<- append_assoc];rfl
  have e1:=d_1 e;rw [length_cons] at hu ha;have c:ykb [.val (.loc o),.val (.int ar),.own (.lst acc)] (hR h o ws k)=some (true,hR h o ws k):=by
   unfold ykb
   simpa [ycq,yex G e,hdV]
  have b:ypA n [.val (.loc o),.val (.int ar),.own (.lst acc)] (hR h o ws k)=some (.nx [.val (.loc o),.val (.int ar),.own (.lst (acc++[q.1]))],hR h o ws (k+1+q.2.length)):=by
   unfold ypA
   simpa [ycq,yjf (w:=";") G e]
   rw [yom rfl]
   simpa [ycq,(H q mem_cons_self).1 G e1,show acc.length<100000 by omega,↓reduceIte]
  rw [yok,c,ybw,if_pos rfl,b,ybw];show whl ykb (ypA n) fu _ _=_;rw [yrT l (acc++[q.1]) (k+1+q.2.length) fu (fun q h=>H q (mem_cons_of_mem _ h)) (by omega) (by rw [length_append,List.length_singleton];omega) (ypz e1),append_assoc,show k+1+q.2.length+(wr l).length=k+(wr (q::l)).length by show _=k+((q.2++wr l).length+1);rw [length_append];omega];rfl
theorem list_eq (H:∀ q∈l,PQ n ar q) (hc:l.length<=90) (e:ws.drop k=wl l++rest) (ea:as Y (hR h o ws k)=some ([.int ar],hR h o ws k)) :
  mK 10 "list_taken" (ybC (n+1)) as Y (.loc o) (hR h o ws k)=some (.lst (l.map (·.1)),hR h o ws (k+(wl l).length)):=by
 rw [yB (ypy G.1) (by rfl'),ea,ybw];unfold ybC;rw [yo];show ob (yl _ (yl _ (yl (yfp 100 ykb (ypA n)) _)) [.val (.loc o),.val (.int ar),.no] (hR h o ws k)) fnK=_;cases l with
 | nil =>
  have e:ws.drop k=rest:=e;rcases hr with rfl|⟨r,rfl⟩
  .simpa [ycq,yex G e,hdV]
   rfl
  .simpa [ycq,yex G e,hdV,ynt,↓reduceIte]
   rfl
 | cons q l =>
  obtain ⟨P,w,tl,ew,nw⟩:=H q mem_cons_self;have e:ws.drop k=q.2++(wr l++rest):=by rw [e,<- append_assoc];rfl
  have e0:ws.drop k=w::(tl++(wr l++rest)):=by rw [e,ew];rfl
  rw [length_cons] at hc;have lp:=yrT (n:=n) (ar:=ar) G hr l [q.1] (k+q.2.length) 100 (fun q h=>H q (mem_cons_of_mem _ h)) (by omega) (by rw [List.length_singleton];omega) (ypz e)
  simpa [ycq,yex G e0,hdV,ynt,nw,P G e,↓reduceIte]
  rw [show yfp 100 ykb (ypA n) [.val (.loc o),.val (.int ar),.own (.lst [q.1])] (hR h o ws (k+q.2.length))=_ from lp];symm;rw [show k+q.2.length+(wr l).length=k+(wl (q::l)).length by show _=k+(q.2++wr l).length;rw [length_append];omega];rfl
omit G hr
theorem yBx (H:∀ q∈l,PQ n ar q) (hc:l.length<=90):Tk "side_taken" (yq (n+2)) [.int ar] (.lst (l.map (·.1))) (("(":Str)::(wl l++[(")":Str)])):=.mk (by rfl') fun {h o ws k r} G e=>by
 have e:ws.drop k=("(":Str)::(wl l++(")":Str)::r):=by rw [e];simp
 unfold yq;rw [yo];show ob (yl _ _ [.val (.loc o),.val (.int ar),.no] (hR h o ws k)) fnK=_
 simpa [ycq,yjf (w:="(") G e,list_eq G (.inr ⟨_,rfl⟩) H hc (d_1 e),yjf (w:=")") G (ypz (d_1 e))]
 rw [length_append,show k+1+(wl l).length+1=k+((wl l).length+1+1) by omega];rfl
end
section
variable {n:Nat}{ar:Int}{tl wa wb:List Str}{v:PV}{va vb:List PV}
theorem yFw (gs:ydU s) (A:Tk "side_taken" (yq n) [.int ar] (.lst va) wa) (B:Tk "side_taken" (yq n) [.int ar] (.lst vb) wb):Tk "if_taken" (ybQ (n+1)) [.int ar] (.ins 5 ["slot","parts","others"] [.str s,.lst va,.lst vb]) (s::(wa++("else":Str)::wb)):=.mk (by rfl') fun {h o ws k r} G e=>by
 rw [List.cons_append,append_assoc] at e;have e1:=d_1 e;have e2:=ypz e1;unfold ybQ;rw [yo];show ob (yl _ _ [.val (.loc o),.val (.int ar),.no,.no,.no] (hR h o ws k)) fnK=_
 simpa [ycq,ygg gs G e,A G e1,yjf (w:="else") G e2,B G (d_1 e2)]
 rw [length_append,show k+1+wa.length+1+wb.length=k+(wa.length+(wb.length+1)+1) by omega];rfl
theorem yuQ (ha:ar<=8) (P:Tk "if_taken" (ybQ n) [.int (ar+1)] v tl):Tk "part_taken" (yD (n+1)) [.int ar] v ("if"::tl):=.mk (by rfl') fun {h o ws k r} G e=>by
 unfold yD;rw [yo];show ob (yl _ _ [.val (.loc o),.val (.int ar),.no] (hR h o ws k)) fnK=_
 simpa [show (ar>8)=False from eq_false (by omega),ycq,yfJ G e,P G (d_1 e),↓reduceIte]
 rw [show k+1+tl.length=k+(tl.length+1) by omega]
end
def SL:List Str:=["a","b","c","d","e","f","g","h"]
def sx (r:Str):Nat:=SL.idxOf r
section
variable {h:AH}{n hl lg sn sd:Nat}{w t:Int}{rows:List PV}{hs:List Int}{r:Str}
def ygh (hr:r∈SL):ydP [.str r] h=some (.int (sx r),h):=by unfold SL at hr;simp only [mem_cons,not_mem_nil,or_false] at hr;rcases hr with rfl|rfl|rfl|rfl|rfl|rfl|rfl|rfl<;>kernel_rfl!
def yBy (hr:r∈SL):sx r<8:=List.idxOf_lt_length_of_mem hr
def yfK {n:Nat}{xs:List Int}(e:h[n]?=some (.lst (xs.map .int))) (hi:i<xs.length):ybM (.loc n) (.int i) h=some (.int (xs.getD i 0),h):=by
 unfold ybM;simp only [e];have:(xs.map PV.int)[i]?=some (.int (xs.getD i 0)):=by rw [getElem?_map,List.getElem?_eq_getElem hi,getD_eq_getElem?_getD,List.getElem?_eq_getElem hi];rfl
 rw [ydp this]
def yhX {rw:PV}(e:h[n]?=some (yiD hl w lg rows t sn sd)) {i:Nat}(ht:t=i) (er:rows[i]?=some rw):ydA [.loc n] h=some (rw,h):=by
 obtain ⟨f1,f2,f3,f4,f5,f6,f7⟩:=ycJ e;subst ht;unfold ydA;rw [yo];show ob (yO _ [.val (.loc n)] h) fnK=_
 simpa [f4,f5]
 rw [ydp er];rfl
variable (e:h[n]?=some (yiD hl w lg rows t sn sd)) (eh:h[hl]?=some (.lst (hs.map .int))) (h8:hs.length=8) (hr:r∈SL)
include e eh h8 hr
theorem ydc:ybc [.loc n,.str r] h=some (.int (hs.getD (sx r) 0),h):=by
 obtain ⟨f1,f2,f3,f4,f5,f6,f7⟩:=ycJ e;unfold ybc;rw [yo];show ob (yO _ [.val (.loc n),.val (.str r)] h) fnK=_
 simpa [f1,ygh hr]
 rw [yfK eh (by rw [h8];exact yBy hr),ybw]
theorem yhY:ybW [.loc n,.str r,.int v] h=some (.non,h.set hl (.lst ((hs.set (sx r) v).map .int))):=by
 obtain ⟨f1,f2,f3,f4,f5,f6,f7⟩:=ycJ e;unfold ybW;rw [yo];show ob (ygZ _ _ _ [.val (.loc n),.val (.str r),.val (.int v)] h) fnK=_;unfold ygZ;show ob (ob (some (PV.int v,h)) _) _=_;rw [ybw]
 simpa [f1,ygh hr]
 have hi:sx r<hs.length:=by rw [h8];exact yBy hr
 have e':ixN (hs.map PV.int).length (sx r:Nat)=some (sx r):=by unfold ixN;simp [hi]
 simp only [eh,e'];rw [ybw,map_set];rfl
theorem yeU (hw:1<=w):ybI [.loc n,.str r] h=some (.int (hs.getD (sx r) 0%w),h):=by
 obtain ⟨f1,f2,f3,f4,f5,f6,f7⟩:=ycJ e;unfold ybI;rw [yo];show ob (yO _ [.val (.loc n),.val (.str r)] h) fnK=_
 simpa [ycq,yB (m:="held_in") e (by rfl'),ydc e eh h8 hr,f2]
 rw [if_pos (by omega)]
end
def ygN:Rw->Rw->Bool
 | .either _,.wait=>true
 | .guard nm _ _,.throw nm' _=>decide (nm=nm')
 | _,_=>false
def yhZ:Rw->Bool|.either _=>true|.guard ..=>true|_=>false
def yuR:Rw->Bool|.wait=>true|.throw ..=>true|_=>false
def sdV (s:Rw×List Int):PV:=.tup [yT s.1,.lst (s.2.map .int)]
noncomputable def tkL (sd:List (Rw×List Int)) (r:Rw):Nat->Nat
 | 0=>0
 | k+1=>match sd[k]? with|some s=>if ygN s.1 r then k+1 else tkL sd r k|none=>0
section
variable {h:AH}{n hl lg sn sdl:Nat}{w t:Int}{rows:List PV}{hs:List Int}{r:Rw}{sd:List (Rw×List Int)}
def yuS (hb:yhZ b=true) (hr:yuR r=true):yhS [yT b,yT r] h=some (.bl (ygN b r),h):=by
 cases b<;>first|(cases hb;done)|skip
 all_goals cases r<;>first|(cases hr;done)|kernel_rfl!|skip
 rename_i nm _ _ nm' _;unfold yhS;rw [yo];show ob (yl _ _ [.val (yT (.guard nm _ _)),.val (yT (.throw nm' _))] h) fnK=_;unfold yT
 simpa [ygM]
 rfl
def yuT:whl c s (k+1) Y h=ob (c Y h) fun k' h1=>if k'=true then ob (s Y h1) fun o h2=>(match o with|.nx Y'=>whl c s k Y' h2|.ct Y'=>whl c s k Y' h2|.bk Y'=>some (.nx Y',h2)|.rt y=>some (.rt y,h2)) else some (.nx Y,h1):=rfl
def yoF (e:h[n]?=some (yiD hl w lg rows t sn sdl)) (es:h[sdl]?=some (.lst (sd.map sdV))) (hb:∀ s∈sd,yhZ s.1=true) (hr:yuR r=true) (hl9:sd.length<900):ybe [.loc n,yT r] h=some (.int (tkL sd r sd.length),h):=by
 obtain ⟨f1,f2,f3,f4,f5,f6,f7⟩:=ycJ e;unfold ybe;rw [yo];show ob (yl _ (yl (yfp 1000 _ _) _) [.val (.loc n),.val (yT r),.no] h) fnK=_;have lp:∀ (c:XT) (s:XS),c=(yvH (yz (xOp (oGt) (ye 2) (xC (.int 0)))) (ymo (yz (yW yhS (yc (xOp (ybx) (xOp (ybM) (ybb [12] "sides" (ye 0)) (xOp yvM (ye 2) (xC (.int 1)))) (xC (.int 0))) (yc (ye 1) (yh)))))))->s=(ybq (xOp yvM (ye 2) (xC (.int 1))) (yn 2)) ->
   ∀ (k f:Nat),k<=sd.length->k<f->whl c s f [.val (.loc n),.val (yT r),.val (.int k)] h=some (.nx [.val (.loc n),.val (yT r),.val (.int (tkL sd r k))],h):=by
  intro c s hc hs k
  induction k with
  | zero =>
   intro f _ hf;obtain ⟨f,rfl⟩:∃ g,f=g+1:=⟨f-1,by omega⟩
   subst hc hs;rw [yuT];rfl
  | succ k ih =>
   intro f hk hf;obtain ⟨f,rfl⟩:∃ g,f=g+1:=⟨f-1,by omega⟩
   have hlt:k<sd.length:=hk;have ge:sd[k]?=some sd[k]:=List.getElem?_eq_getElem hlt;have i1:ybM (.loc sdl) (.int (((k+1:Nat):Int)-1)) h=some (sdV sd[k],h):=by unfold ybM;simp only [es];rw [show ((k+1:Nat):Int)-1=(k:Nat) by omega,ydp (by rw [getElem?_map,ge];rfl)]
   have i2:ybx (sdV sd[k]) (.int 0) h=some (yT sd[k].1,h):=rfl;have i3:=yuS (h:=h) (hb sd[k] (getElem_mem hlt)) hr;have i4:oGt (.int ((k+1:Nat):Int)) (.int 0) h=some (.bl true,h):=by show some (PV.bl (decide ((0:Int)<((k+1:Nat):Int))),h)=_;rw [decide_eq_true (by omega)]
   have ec:c [.val (.loc n),.val (yT r),.val (.int ((k+1:Nat):Int))] h=some (!(ygN sd[k].1 r),h):=by
    subst hc;show ob _ _=_
    simpa [f7,i1,i2,i3,i4]
   rw [yuT,ec,ybw];show (if (!(ygN sd[k].1 r))=true then _ else _)=some (Out.nx [_,_,.val (.int ((match sd[k]? with|some s=>if ygN s.1 r then k+1 else tkL sd r k|none=>0:Nat):Int))],h);rw [ge];cases ht:ygN sd[k].1 r with
   | true=>simp only [Bool.not_true,if_true,ht];rfl
   | false =>
    simp only [Bool.not_false,if_true,ht,Bool.false_eq_true,if_false];have:=ih f (by omega) (by omega);rw [<- this];subst hs;show ob (some (Out.nx [.val (.loc n),.val (yT r),.val (.int (((k+1:Nat):Int)-1))],h)) _=_;rw [ybw,show ((k+1:Nat):Int)-1=(k:Nat) by omega]
 have l1:ybU [.loc sdl] h=some (.int sd.length,h):=by rw [ycW es,length_map]
 have l2:=lp _ _ rfl rfl sd.length 1000 (Nat.le_refl _) (by omega)
 simpa [f7,l1]
 exact (congrArg (ob · _) l2).trans rfl
end
section
variable {h:AH}{n hl lg sn sdl:Nat}{w:Int}{rows:List PV}{t:Nat}{r:Rw}
def ylV {t:Int}(e:h[n]?=some (yiD hl w lg rows t sn sdl)):fL [10,12] "at" Y (.int j) (.loc n) h=some (.nx Y,h.set n (yiD hl w lg rows j sn sdl)):=yeT e (by decide) (by kernel_rfl!)
def yuU {t:Int}(e:h[n]?=some (yiD hl w lg rows t sn sdl)):fL [12] "held" Y (.loc j) (.loc n) h=some (.nx Y,h.set n (yiD j w lg rows t sn sdl)):=yeT e (by decide) (by kernel_rfl!)
def yiE (e:h[n]?=some (yiD hl w lg rows t sn sdl)) (er:rows[t]?=some (yT r)):ycf [.loc n] h=ob (goB [.val (.loc n),.val (yT r)] (h.set n (yiD hl w lg rows (t+1:Nat) sn sdl))) fnK:=by
 obtain ⟨f1,f2,f3,f4,f5,f6,f7⟩:=ycJ e;unfold ycf;rw [yo];show ob (yl _ (yl _ goB) [.val (.loc n),.no] h) fnK=_
 simpa [ycq,yB (m:="row") e (by rfl'),yhX e rfl er,f5,ypQ,ylV e]
 rfl
def yyA (e:h[n]?=some (yiD hl w lg rows t sn sdl)) (er:rows[t]?=some (yT r)):ybo [.loc n] h=ob (loB [.val (.loc n),.val (yT r)] h) fnK:=by
 unfold ybo;rw [yo];show ob (yl _ loB [.val (.loc n),.no] h) fnK=_
 simpa [ycq,yB (m:="row") e (by rfl'),yhX e rfl er]
abbrev M2 (m:Str) (f:Fn):XE:=yg 12 m f (ye 0) (yc (ye 1) (yh))
def yBz:goB [.val x,.val (yT (.let_ s k))] h=yY (M2 "go_plain" yC) [.val x,.val (yT (.let_ s k))] h:=by kernel_rfl!
def yyB:goB [.val x,.val (yT (.take s k))] h=yY (M2 "go_plain" yC) [.val x,.val (yT (.take s k))] h:=by kernel_rfl!
def yBA:goB [.val x,.val (yT (.put s k))] h=yY (M2 "go_plain" yC) [.val x,.val (yT (.put s k))] h:=by kernel_rfl!
def yyC:goB [.val x,.val (yT .wait)] h=yY (M2 "leave" ycl) [.val x,.val (yT .wait)] h:=by kernel_rfl!
def yuV:goB [.val x,.val (yT (.throw s k))] h=yY (M2 "throw" ycF) [.val x,.val (yT (.throw s k))] h:=by kernel_rfl!
def yrU:goB [.val x,.val (yT (.either k))] h=goE [.val x,.val (yT (.either k))] h:=by kernel_rfl!
def yuW {s r:Str}:goB [.val x,.val (yT (.guard s r k))] h=goE [.val x,.val (yT (.guard s r k))] h:=by kernel_rfl!
def yrV:goB [.val x,.val (yT .settle)] h=goS [.val x,.val (yT .settle)] h:=by kernel_rfl!
def yyD:goB [.val x,.val (yT (.jump k))] h=yY (M2 "lead" ybO) [.val x,.val (yT (.jump k))] h:=by kernel_rfl!
def yrW:goB [.val x,.val (yT (.unl s k))] h=yY (M2 "lead" ybO) [.val x,.val (yT (.unl s k))] h:=by kernel_rfl!
def yrX {w a b c:Str}(g:w∈W5):goB [.val x,.val (yT (.reckon w a b c))] h=yY (M2 "go_plain" yC) [.val x,.val (yT (.reckon w a b c))] h:=by
 rcases ywg g with rfl|rfl|rfl|rfl|rfl
 all_goals kernel_rfl!
end
structure Lc where
 rn:Nat
 hl:Nat
 lg:Nat
 st:Nat
 ls:Nat
 sn:Nat
 sd:Nat
 ly:List Nat
structure RS where
 t:Nat
 hs:List Int
 sd:List (Rw×List Int)
 dd:List (List Key×List PV)
 sn:List (Nat×Int×Int)
def sK (m:List (Nat×Int×Int)):List Key:=m.map fun p=>.inl (p.1:Int)
def sA (m:List (Nat×Int×Int)):List PV:=m.map fun p=>.int p.2.1
def sB (m:List (Nat×Int×Int)):List PV:=m.map fun p=>.int p.2.2
noncomputable def ydE (m:List (Nat×Int×Int)) (k:Nat) (a b:Int):List (Nat×Int×Int):=if k∈m.map (·.1) then m.map (fun p=>if p.1=k then (k,a,b) else p) else m++[(k,a,b)]
def lay:List Nat->List (List Key×List PV)->List (Nat×Nd)
 | l::ls,d::ds=>(l,.dct d.1 d.2)::lay ls ds
 | _,_=>[]
def RM (w:Int) (rows:List PV) (c:Lc) (s:RS) (rest:List (Nat×Nd)):List (Nat×Nd) :=
 (c.rn,yiD c.hl w c.lg rows s.t c.sn c.sd)::(c.hl,.lst (s.hs.map .int))::(c.lg,.ins 11 ["stack","last_seen"] [.loc c.st,.loc c.ls])::(c.st,.lst (c.ly.map .loc))::(c.ls,.dct (sK s.sn) (sA s.sn))::(c.sn,.dct (sK s.sn) (sB s.sn))::(c.sd,.lst (s.sd.map sdV))::(lay c.ly s.dd++rest)
structure RR (w:Int) (rows:List PV) (rest:List (Nat×Nd)) (h:AH) (c:Lc) (s:RS):Prop where
 at_:At h (RM w rows c s rest)
 len:c.ly.length=s.dd.length
theorem yeV:∀ (l m:List Nat) (d e:List (List Key×List PV)),l.length=d.length->lay (l++m) (d++e)=lay l d++lay m e
 | [],_,[],_,_=>rfl
 | a::l,m,b::d,e,h=>by
  show (a,_)::lay (l++m) (d++e)=(a,_)::(lay l d++lay m e)
  rw [yeV l m d e (by simpa using h)]
noncomputable def okR:Rw->Bool
 | .let_ r _=>decide (r∈SL)
 | .put p r=>decide (p∈SL) && decide (r∈SL)
 | .take p r=>decide (p∈SL) && decide (r∈SL)
 | .throw _ r=>decide (r∈SL)
 | .guard _ r k=>decide (r∈SL) && decide (0<=k)
 | .either k=>decide (0<=k)
 | .jump k=>decide (0<=k)
 | .unl r k=>decide (r∈SL) && decide (0<=k)
 | .reckon w a b c=>decide (w∈W5) && decide (a∈SL) && decide (b∈SL) && decide (c∈SL)
 | _=>true
def okS (s:RS):Bool:=(s.hs.length == 8) && (s.dd.length == s.sd.length+1) && decide (s.sd.length<90) && s.sd.all (fun x=>yhZ x.1 && okR x.1 && (x.2.length == 8)) && s.dd.all (fun d=>decide (d.1.length<400))
def toB:Rw->Int|.either k=>k|.guard _ _ k=>k|_=>0
def slB:Rw->Str|.guard _ r _=>r|_=>""
def ygO (dd:List (List Key×List PV)) (k v:Int):List (List Key×List PV):=match dd.getLast? with|some d=>dd.dropLast++[ycM d.1 d.2 (.inl k) (.int v)]|none=>dd
def yjh (dd:List (List Key×List PV)):List (List Key×List PV):=match dd.getLast?,dd.dropLast.getLast? with|some d,some e=>dd.dropLast.dropLast++[yit d.1 d.2 e.1 e.2]|_,_=>dd
def yji (s:RS) (r:Rw) (g:Rw->List Int->List Int):Option RS:=match tkL s.sd r s.sd.length with
 | 0=>none
 | L+1=>match s.sd[L]? with|some x=>some ⟨(toB x.1).toNat,g x.1 x.2,s.sd.take L,s.dd.take (L+1),s.sn⟩|none=>none
def yrY (s:RS) (w:Int) (p:Str):PV:=ywf s.dd (.inl (s.hs.getD (sx p) 0%w)) s.dd.length
noncomputable def rk (w:Str) (x y:Int):Int:=if w = "plus" then (x+y)%B64 else if w = "minus" then (x-y)%B64 else if w = "times" then x*y%B64 else if w = "less" then (if x<y then 1 else 0) else (if x=y then 1 else 0)
def ypB (w:Int) (r:Rw) (s:RS):Option RS:=if (okR r && okS s)=true then (match r with
 | .let_ r n=>some ⟨s.t+1,s.hs.set (sx r) n,s.sd,s.dd,s.sn⟩
 | .take r p=>(match yrY s w p with|.int v=>some ⟨s.t+1,s.hs.set (sx r) v,s.sd,s.dd,s.sn⟩|_=>none)
 | .put p r=>some ⟨s.t+1,s.hs,s.sd,ygO s.dd (s.hs.getD (sx p) 0%w) (s.hs.getD (sx r) 0),s.sn⟩
 | .either k=>some ⟨s.t+1,s.hs,s.sd++[(.either k,s.hs)],s.dd++[([],[])],s.sn⟩
 | .guard a b k=>some ⟨s.t+1,s.hs,s.sd++[(.guard a b k,s.hs)],s.dd++[([],[])],s.sn⟩
 | .settle=>if s.sd.length=0 then none else some ⟨s.t+1,s.hs,s.sd.dropLast,yjh s.dd,s.sn⟩
 | .jump k=>some ⟨k.toNat,s.hs,s.sd,s.dd,s.sn⟩
 | .unl r k=>some ⟨if s.hs.getD (sx r) 0=0 then k.toNat else s.t+1,s.hs,s.sd,s.dd,s.sn⟩
 | .wait=>yji s .wait fun _ q=>q
 | .throw a b=>yji s (.throw a b) fun x q=>q.set (sx (slB x)) (s.hs.getD (sx b) 0)
 | .reckon v a p q=>if 0<=s.hs.getD (sx p) 0/\s.hs.getD (sx p) 0<B64 then some ⟨s.t+1,s.hs.set (sx a) (rk v (s.hs.getD (sx p) 0) (s.hs.getD (sx q) 0)),s.sd,s.dd,s.sn⟩ else none
 | .lay=>none) else none
def S0 (hs:List Int):RS:=⟨0,hs,[],[([],[])],[]⟩
section
variable {h:AH}{m:List (Nat×Nd)}
def At.ne (A:At h m) {i j:Nat}{p q:Nat×Nd}(hij:i<j) (e1:m[i]?=some p) (e2:m[j]?=some q):p.1≠q.1:=by intro z;obtain ⟨l1,q1⟩:=List.getElem?_eq_some_iff.mp e1;obtain ⟨l2,q2⟩:=List.getElem?_eq_some_iff.mp e2;have:=List.pairwise_iff_getElem.mp A.1 i j (by simpa using l1) (by simpa using l2) hij;rw [List.getElem_map,List.getElem_map,q1,q2] at this;exact this z
theorem yia:∀ (ly:List Nat) (dd:List (List Key×List PV)),ly.length=dd.length->(lay ly dd).length=ly.length
 | [],[],_=>rfl
 | _::ls,_::ds,e=>by show (lay ls ds).length+1=ls.length+1;rw [yia ls ds (by simpa using e)]
theorem ywj:∀ (ly:List Nat) (dd:List (List Key×List PV)),ly.length=dd.length->(∀ p∈lay ly dd,h[p.1]?=some p.2)->Stk h ly dd
 | [],[],_,_=>trivial
 | l::ls,d::ds,e,g=>⟨g (l,.dct d.1 d.2) mem_cons_self,ywj ls ds (by simpa using e) fun p hp=>g p (mem_cons_of_mem _ hp)⟩
variable {w:Int}{rows:List PV}{rest:List (Nat×Nd)}{c:Lc}{s:RS}
theorem RR.lg (R:RR w rows rest h c s):LG h c.lg c.st c.ls c.ly s.dd (sK s.sn) (sA s.sn):=⟨R.at_.get 2 rfl,R.at_.get 3 rfl,R.at_.get 4 rfl,ywj _ _ R.len fun p hp=>R.at_.2 p (by unfold RM;simp [hp])⟩
def RR.run (R:RR w rows rest h c s):h[c.rn]?=some (yiD c.hl w c.lg rows s.t c.sn c.sd):=R.at_.get 0 rfl
def RR.held (R:RR w rows rest h c s):h[c.hl]?=some (.lst (s.hs.map .int)):=R.at_.get 1 rfl
def RR.sds (R:RR w rows rest h c s):h[c.sd]?=some (.lst (s.sd.map sdV)):=R.at_.get 6 rfl
def RR.to (R:RR w rows rest h c s) (k:Nat):RR w rows rest (h.set c.rn (yiD c.hl w c.lg rows k c.sn c.sd)) c { s with t:=k }:=⟨R.at_.upd (a:=[]) _,R.len⟩
def RR.hold (R:RR w rows rest h c s) (q:List Int):RR w rows rest (h.set c.hl (.lst (q.map .int))) c { s with hs:=q }:=⟨R.at_.upd (a:=[_]) _,R.len⟩
def ygP (e:okS s=true):s.hs.length=8/\s.dd.length=s.sd.length+1/\s.sd.length<90/\(∀ x∈s.sd,yhZ x.1=true/\okR x.1=true/\x.2.length=8)/\∀ d∈s.dd,d.1.length<400:=by unfold okS at e;simp only [and_eq_true,beq_iff_eq,decide_eq_true_eq,List.all_eq_true] at e;obtain ⟨⟨⟨⟨e1,e2⟩,e3⟩,e4⟩,e5⟩:=e;exact ⟨e1,e2,e3,fun x hx=>⟨(e4 x hx).1.1,(e4 x hx).1.2,(e4 x hx).2⟩,e5⟩
def dk (m:Option (PV×AH)) (Y:PSt):Option (PV×AH):=ob (ob m fun _ h1=>some (Out.nx Y,h1)) fnK
def yBB:yC [x,yT (.let_ r k)] h=dk (mK 12 "hold" ybW (fun _ h1=>some ([.str r,.int k],h1)) [] x h) [.val x,.val (yT (.let_ r k))]:=by kernel_rfl!
def yBC:yC [x,yT (.put p r)] h=dk (mK 12 "do_put" ycO (fun _ h1=>some ([.str p,.str r],h1)) [] x h) [.val x,.val (yT (.put p r))]:=by kernel_rfl!
def yBD (R:RR w rows rest h c s) (er:rows[s.t]?=some (yT (.let_ r k))) (hr:r∈SL) (h8:s.hs.length=8):∃ h',ycf [.loc c.rn] h=some (.non,h')/\RR w rows rest h' c ⟨s.t+1,s.hs.set (sx r) k,s.sd,s.dd,s.sn⟩:=by have R1:=R.to (s.t+1);refine ⟨_,?_,R1.hold _⟩;rw [yiE R.run er,yBz];show dk (mK 12 "go_plain" yC _ _ (.loc c.rn) _) _=_;rw [yB R1.run (by rfl')];show dk (yC [.loc c.rn,yT (.let_ r k)] _) _=_;rw [yBB,yB R1.run (by rfl'),ybw,yhY R1.run R1.held h8 hr];rfl
end
section
variable {h:AH}{w:Int}{rows:List PV}{rest:List (Nat×Nd)}{c:Lc}{s:RS}
def yyE (R:RR w rows rest h c s) (er:rows[s.t]?=some (yT (.jump k))) (hk:0<=k):∃ h',ycf [.loc c.rn] h=some (.non,h')/\RR w rows rest h' c ⟨k.toNat,s.hs,s.sd,s.dd,s.sn⟩:=by have R1:=R.to (s.t+1);refine ⟨_,?_,R1.to k.toNat⟩;rw [yiE R.run er,yyD];show dk (mK 12 "lead" ybO _ _ (.loc c.rn) _) _=_;rw [yB R1.run (by rfl')];show dk (ybO [.loc c.rn,yT (.jump k)] _) _=_;rw [show ∀ x h,ybO [x,yT (.jump k)] h=ob (fL [10,12] "at" [.val x,.val (yT (.jump k))] (.int k) x h) fnK by intro x h;kernel_rfl!,ylV R1.run,show ((k.toNat:Nat):Int)=k by omega];rfl
def yrZ (R:RR w rows rest h c s) (er:rows[s.t]?=some (yT (.unl r k))) (hr:r∈SL) (h8:s.hs.length=8) (hk:0<=k):∃ h',ycf [.loc c.rn] h=some (.non,h')/\RR w rows rest h' c ⟨if s.hs.getD (sx r) 0=0 then k.toNat else s.t+1,s.hs,s.sd,s.dd,s.sn⟩:=by
 have R1:=R.to (s.t+1);have i0:∀ h,ybx (yT (.unl r k)) (.int 0) h=some (.str "unless",h):=fun _=>rfl
 have i1:∀ h,ybx (yT (.unl r k)) (.int 1) h=some (.str r,h):=fun _=>rfl
 have i2:∀ h,ybx (yT (.unl r k)) (.int 2) h=some (.int k,h):=fun _=>rfl
 have nj:(("unless":Str) = "jump")=False:=eq_false (by rfl');have e1:∃ h',ybO [.loc c.rn,yT (.unl r k)] (h.set c.rn (yiD c.hl w c.lg rows (s.t+1:Nat) c.sn c.sd))=some (.non,h')/\RR w rows rest h' c ⟨if s.hs.getD (sx r) 0=0 then k.toNat else s.t+1,s.hs,s.sd,s.dd,s.sn⟩:=by
  unfold ybO;rw [yo];have hh:=ydc (r:=r) R1.run R1.held h8 hr;have st:=ylV (j:=k) (Y:=[.val (.loc c.rn),.val (yT (.unl r k))]) R1.run
  by_cases z:s.hs.getD (sx r) 0=0
  .rw [if_pos z];refine ⟨_,?_,R1.to k.toNat⟩;rw [z] at hh;show ob (ybN _ _ _ [.val (.loc c.rn),.val (yT (.unl r k))] _) fnK=_;clear R er
   simpa [i0,i1,i2,nj,ycq,yB (m:="held_in") R1.run (by rfl'),hh,ypQ,st,-yxE]
   rw [show ((k.toNat:Nat):Int)=k by omega]
  .rw [if_neg z];refine ⟨_,?_,R1⟩;show ob (ybN _ _ _ [.val (.loc c.rn),.val (yT (.unl r k))] _) fnK=_;clear R er
   simpa [i0,i1,i2,nj,ycq,yB (m:="held_in") R1.run (by rfl'),hh,z,-yxE]
 obtain ⟨h',q1,q2⟩:=e1;refine ⟨h',?_,q2⟩;rw [yiE R.run er,yrW];show dk (mK 12 "lead" ybO _ _ (.loc c.rn) _) _=_;rw [yB R1.run (by rfl')];show dk (ybO [.loc c.rn,yT (.unl r k)] _) _=_;rw [q1];rfl
def yyF (R:RR w rows rest h c s) {d d':List Key×List PV}(el:c.ly=l++[t]) (ed:s.dd=ds++[d]):RR w rows rest (h.set t (.dct d'.1 d'.2)) c { s with dd:=ds++[d'] }:=by
 have hl:l.length=ds.length:=by have:=R.len;rw [el,ed] at this;simpa using this
 have A:=R.at_;refine ⟨?_,by show c.ly.length=(ds++[d']).length;rw [R.len,ed];simp⟩;unfold RM at A ⊢;rw [el,ed,yeV _ _ _ _ hl] at A;show At _ (_::_::_::_::_::_::_::(lay c.ly (ds++[d'])++rest));rw [el,yeV _ _ _ _ hl,append_assoc];rw [append_assoc] at A;exact A.upd (a:=_::_::_::_::_::_::_::lay l ds) (n:=t) (d:=.dct d.1 d.2) (b:=rest) (.dct d'.1 d'.2)
def ycb {Z:Type}{xs:List Z}(h:xs.length≠0):∃ a y,xs=a++[y]:=⟨xs.dropLast,xs.getLast (by intro z;rw [z] at h;exact h rfl),(List.dropLast_concat_getLast _).symm⟩
def ysa (R:RR w rows rest h c s) (hp:p∈SL) (hr:r∈SL) (h8:s.hs.length=8) (hw:1<=w) (el:c.ly=l++[t]) (ed:s.dd=ds++[d]) (hd:d.1.length<400) :
  ycO [.loc c.rn,.str p,.str r] h=some (.non,h.set t (.dct (ycM d.1 d.2 (.inl (s.hs.getD (sx p) 0%w)) (.int (s.hs.getD (sx r) 0))).1 (ycM d.1 d.2 (.inl (s.hs.getD (sx p) 0%w)) (.int (s.hs.getD (sx r) 0))).2)):=by
 obtain ⟨f1,f2,f3,f4,f5,f6,f7⟩:=ycJ R.run;have G:=R.lg;have hl:l.length=ds.length:=by have:=R.len;rw [el,ed] at this;simpa using this
 have ht:h[t]?=some (.dct d.1 d.2):=by have A:=R.at_;unfold RM at A;rw [el,ed,yeV _ _ _ _ hl,append_assoc] at A;exact A.2 (t,.dct d.1 d.2) (by simp [lay])
 have G':=G;rw [el] at G';unfold ycO;rw [yo];show ob (yY _ [.val (.loc c.rn),.val (.str p),.val (.str r)] h) fnK=_
 simpa [f3,ycq,yB (m:="box_at") R.run (by rfl'),yB (m:="held_in") R.run (by rfl'),yB (m:="write") G.ob (by rfl'),yeU R.run R.held h8 hp hw,ydc R.run R.held h8 hr,yuJ G' ht (Nat.lt_trans hd (by decide))]
def yBE (R:RR w rows rest h c s) (er:rows[s.t]?=some (yT (.put p r))) (hp:p∈SL) (hr:r∈SL) (hw:1<=w) (ok:okS s=true):∃ h',ycf [.loc c.rn] h=some (.non,h')/\RR w rows rest h' c ⟨s.t+1,s.hs,s.sd,ygO s.dd (s.hs.getD (sx p) 0%w) (s.hs.getD (sx r) 0),s.sn⟩:=by
 obtain ⟨h8,o2,o3,o4,o5⟩:=ygP ok;have R1:=R.to (s.t+1);obtain ⟨ds,d,ed⟩:=ycb (xs:=s.dd) (by omega);obtain ⟨l,t,el⟩:=ycb (xs:=c.ly) (by have:=R.len;omega);have e2:=ysa R1 hp hr h8 hw el ed (o5 d (by rw [ed];simp));have R2:=yyF (d':=ycM d.1 d.2 (.inl (s.hs.getD (sx p) 0%w)) (.int (s.hs.getD (sx r) 0))) R1 el ed;refine ⟨_,?_,by
  have:ygO s.dd (s.hs.getD (sx p) 0%w) (s.hs.getD (sx r) 0)=ds++[ycM d.1 d.2 (.inl (s.hs.getD (sx p) 0%w)) (.int (s.hs.getD (sx r) 0))]:=by unfold ygO;rw [ed,List.getLast?_concat,List.dropLast_concat]
  rw [this];exact R2⟩
 rw [yiE R.run er,yBA];show dk (mK 12 "go_plain" yC _ _ (.loc c.rn) _) _=_;rw [yB R1.run (by rfl')];show dk (yC [.loc c.rn,yT (.put p r)] _) _=_;rw [yBC,yB R1.run (by rfl'),ybw,e2];rfl
end
section
variable {h:AH}{w:Int}{rows:List PV}{rest:List (Nat×Nd)}{c:Lc}{s:RS}
def RR.side (R:RR w rows rest h c s) (q:List (Rw×List Int)):RR w rows rest (h.set c.sd (.lst (q.map sdV))) c { s with sd:=q }:=⟨R.at_.upd (a:=[_,_,_,_,_,_]) _,R.len⟩
def yBF (R:RR w rows rest h c s) (o3:s.sd.length<90) (o2:s.dd.length=s.sd.length+1):∃ h' c',ob (goE [.val (.loc c.rn),.val (yT r)] h) fnK=some (.non,h')/\RR w rows rest h' c' { s with sd:=s.sd++[(r,s.hs)],dd:=s.dd++[([],[])] }/\c'.rn=c.rn:=by
 obtain ⟨f1,f2,f3,f4,f5,f6,f7⟩:=ycJ R.run;have R2:=R.side (s.sd++[(r,s.hs)]);obtain ⟨g1,g2,g3,g4,g5,g6,g7⟩:=ycJ R2.run;have G:=R2.lg;have e1:yeN (.loc c.sd) [.tup [yT r,.lst (s.hs.map .int)]] h=some (.non,h.set c.sd (.lst ((s.sd++[(r,s.hs)]).map sdV))):=by rw [ynj R.sds (by rw [length_map];omega),map_append];rfl
 have e2:=yuK G (by have:=R.len;omega);generalize hh:h.set c.sd (.lst ((s.sd++[(r,s.hs)]).map sdV))=h2 at *;refine ⟨(h2++[Nd.dct [] []]).set c.st (.lst ((c.ly++[h2.length]).map .loc)),{ c with ly:=c.ly++[h2.length] },?_,⟨?_,?_⟩,rfl⟩
 rotate_left
 .have A:=R2.at_;have A1:=At.new (.dct [] []) (a:=_::_::_::_::_::_::_::lay c.ly s.dd) (b:=rest) A;have A2:=At.upd (a:=[_,_,_]) (.lst ((c.ly++[h2.length]).map .loc)) A1;unfold RM;show At _ (_::_::_::_::_::_::_::(lay (c.ly++[h2.length]) (s.dd++[([],[])])++rest));rw [yeV _ _ _ _ R.len,append_assoc];exact A2
 .show (c.ly++[h2.length]).length=(s.dd++[([],[])]).length;rw [length_append,length_append,R.len];rfl
 unfold goE
 simpa [f7,f1,ycN R.sds,yeo R.held,e1,g3,ycq,yB (m:="begin") G.ob (by rfl'),e2]
def ysb (e:h[n]?=some (.lst (xs++[y]))):ygY (.loc n) [] h=some (y,h.set n (.lst xs)):=by
 unfold ygY;simp only [e];have:(xs++[y])[(xs++[y]).length-1]?=some y:=by simp
 rw [this];simp
def ysc (R:RR w rows rest h c s) (ok:okS s=true) (hn:s.sd.length≠0):∃ h' c',ob (goS [.val (.loc c.rn),.val (yT .settle)] h) fnK=some (.non,h')/\RR w rows rest h' c' { s with sd:=s.sd.dropLast,dd:=yjh s.dd }/\c'.rn=c.rn:=by
 obtain ⟨h8,o2,o3,o4,o5⟩:=ygP ok;obtain ⟨f1,f2,f3,f4,f5,f6,f7⟩:=ycJ R.run;obtain ⟨q,x,eq⟩:=ycb hn;obtain ⟨d1,dt,ed⟩:=ycb (xs:=s.dd) (by omega);obtain ⟨ds,du,ed1⟩:=ycb (xs:=d1) (by have:=congrArg length ed;simp at this;omega);obtain ⟨l1,t,el⟩:=ycb (xs:=c.ly) (by have:=R.len;omega);obtain ⟨l,u,el1⟩:=ycb (xs:=l1) (by have a:=R.len;have b:c.ly.length=l1.length+1:=(by rw [el];simp);omega);subst el1 ed1;have hl:l.length=ds.length:=by have:=R.len;rw [el,ed] at this;simpa using this
 have em:yjh s.dd=ds++[yit dt.1 dt.2 du.1 du.2]:=by unfold yjh;rw [ed,List.getLast?_concat,List.dropLast_concat,List.getLast?_concat,List.dropLast_concat]
 have es:s.sd.dropLast=q:=by rw [eq,List.dropLast_concat]
 rw [em,es];have R2:=R.side q;obtain ⟨g1,g2,g3,g4,g5,g6,g7⟩:=ycJ R2.run;have e1:ygY (.loc c.sd) [] h=some (sdV x,h.set c.sd (.lst (q.map sdV))):=ysb (by rw [R.sds,eq,map_append];rfl);have G:=R2.lg;have A:=R2.at_;generalize hh:h.set c.sd (.lst (q.map sdV))=h2 at *;have hA:At h2 ((c.rn,yiD c.hl w c.lg rows s.t c.sn c.sd)::(c.hl,.lst (s.hs.map .int))::(c.lg,.ins 11 ["stack","last_seen"] [.loc c.st,.loc c.ls])::(c.st,.lst (c.ly.map .loc))::(c.ls,.dct (sK s.sn) (sA s.sn))::(c.sn,.dct (sK s.sn) (sB s.sn))::(c.sd,.lst (q.map sdV))::(lay l ds++((u,.dct du.1 du.2)::(t,.dct dt.1 dt.2)::rest))):=by
  unfold RM at A;have el':lay c.ly s.dd=lay l ds++[(u,.dct du.1 du.2),(t,.dct dt.1 dt.2)]:=by rw [el,ed,append_assoc,append_assoc,yeV _ _ _ _ hl];rfl
  have:∀ z:List (Nat×Nd),(lay l ds++[(u,.dct du.1 du.2),(t,.dct dt.1 dt.2)])++z=lay l ds++((u,.dct du.1 du.2)::(t,.dct dt.1 dt.2)::z):=fun z=>by rw [append_assoc];rfl
  simpa only [el',this] using A
 have iu:(lay l ds++((u,Nd.dct du.1 du.2)::(t,.dct dt.1 dt.2)::rest))[l.length]?=some (u,.dct du.1 du.2):=by rw [getElem?_append_right (by rw [yia _ _ hl];omega),yia _ _ hl,sub_self];rfl
 have it:(lay l ds++((u,Nd.dct du.1 du.2)::(t,.dct dt.1 dt.2)::rest))[l.length+1]?=some (t,.dct dt.1 dt.2):=by rw [getElem?_append_right (by rw [yia _ _ hl];omega),yia _ _ hl,Nat.add_sub_cancel_left,List.getElem?_cons_succ,List.getElem?_cons_zero]
 have nu:=hA.ne (i:=3) (j:=7+l.length) (by omega) rfl (by rw [show 7+l.length=l.length+7 by omega];exact iu);have nt:=hA.ne (i:=3) (j:=7+(l.length+1)) (by omega) rfl (by rw [show 7+(l.length+1)=(l.length+1)+7 by omega];exact it);have nut:=hA.ne (i:=7+l.length) (j:=7+(l.length+1)) (by omega) (by rw [show 7+l.length=l.length+7 by omega];exact iu) (by rw [show 7+(l.length+1)=(l.length+1)+7 by omega];exact it);have G':=G;rw [el] at G';have e2:=yrR G' (hA.ne (i:=2) (j:=3) (by omega) rfl rfl) (fun z=>nu z.symm) (fun z=>nt z.symm) nut (hA.get (7+l.length) (by rw [show 7+l.length=l.length+7 by omega];exact iu)) (hA.get (7+(l.length+1)) (by rw [show 7+(l.length+1)=(l.length+1)+7 by omega];exact it)) (by have a:=o5 du (by rw [ed];simp);have b:=o5 dt (by rw [ed];simp);omega);refine ⟨(h2.set c.st (.lst ((l++[u]).map .loc))).set u (.dct (yit dt.1 dt.2 du.1 du.2).1 (yit dt.1 dt.2 du.1 du.2).2),{ c with ly:=l++[u] },?_,⟨?_,by show (l++[u]).length=(ds++[yit dt.1 dt.2 du.1 du.2]).length;simp [hl]⟩,rfl⟩
 rotate_left
 .have A1:=At.upd (a:=[_,_,_]) (.lst ((l++[u]).map .loc)) hA;have A2:=At.upd (a:=_::_::_::_::_::_::_::lay l ds) (.dct (yit dt.1 dt.2 du.1 du.2).1 (yit dt.1 dt.2 du.1 du.2).2) (b:=(t,.dct dt.1 dt.2)::rest) A1;unfold RM;show At _ (_::_::_::_::_::_::_::(lay (l++[u]) (ds++[yit dt.1 dt.2 du.1 du.2])++rest));rw [yeV _ _ _ _ hl,append_assoc];exact A2.sub (((((((((List.Sublist.refl _).append (((List.sublist_cons_self _ _)).cons₂ _)).cons₂ _).cons₂ _).cons₂ _).cons₂ _).cons₂ _).cons₂ _).cons₂ _)
 unfold goS
 simpa [f7,ycN R.sds,e1,g3,ycq,yB (m:="settle") G.ob (by rfl'),e2]
end
section
variable {w:Int}{rows:List PV}{rest:List (Nat×Nd)}
def yuX (R:RR w rows rest h c s) (el:c.ly=l++[t]) (ed:s.dd=ds++[d]):RR w rows rest (h.set c.st (.lst (l.map .loc))) { c with ly:=l } { s with dd:=ds }:=by
 have hl:l.length=ds.length:=by have:=R.len;rw [el,ed] at this;simpa using this
 refine ⟨?_,hl⟩;have A:=At.upd (a:=[_,_,_]) (.lst (l.map .loc)) R.at_;unfold RM;rw [el,ed,yeV _ _ _ _ hl,append_assoc] at A;exact A.sub (((((((((List.Sublist.refl _).append (List.sublist_cons_self _ _)).cons₂ _).cons₂ _).cons₂ _).cons₂ _).cons₂ _).cons₂ _).cons₂ _)
def yFx:∀ (k f:Nat) (h:AH) (c:Lc) (s:RS),RR w rows rest h c s->c.rn=rn->s.sd.length=L+k->s.dd.length=s.sd.length+1->k<f ->
  ∃ h' c',whl lvC lvB f [.val (.loc rn),.val v1,.val (.int ((L+1:Nat):Int)),.val v3,p4] h=some (.nx [.val (.loc rn),.val v1,.val (.int ((L+1:Nat):Int)),.val v3,p4],h')/\RR w rows rest h' c' { s with sd:=s.sd.take L,dd:=s.dd.take (L+1) }/\c'.rn=rn:=by
 intro k
 induction k with
 | zero =>
  intro f h c s R hn hs hd hf;obtain ⟨f,rfl⟩:∃ g,f=g+1:=⟨f-1,by omega⟩
  subst hn;obtain ⟨f1,f2,f3,f4,f5,f6,f7⟩:=ycJ R.run;refine ⟨h,c,?_,by rw [List.take_of_length_le (by omega),List.take_of_length_le (by omega)];exact R,rfl⟩;have ec:lvC [.val (.loc c.rn),.val v1,.val (.int ((L+1:Nat):Int)),.val v3,p4] h=some (false,h):=by
   have l1:ybU [.loc c.sd] h=some (.int s.sd.length,h):=by rw [ycW R.sds,length_map]
   have l2:oGe (.int (s.sd.length:Nat)) (.int ((L+1:Nat):Int)) h=some (.bl false,h):=by show some (PV.bl (decide (((L+1:Nat):Int)<=(s.sd.length:Nat))),h)=_;rw [decide_eq_false (by omega)]
   simpa [f7,l1,l2]
  rw [yuT,ec];rfl
 | succ k ih =>
  intro f h c s R hn hs hd hf;obtain ⟨f,rfl⟩:∃ g,f=g+1:=⟨f-1,by omega⟩
  subst hn;obtain ⟨f1,f2,f3,f4,f5,f6,f7⟩:=ycJ R.run;obtain ⟨q,x,eq⟩:=ycb (xs:=s.sd) (by omega);obtain ⟨ds,d,ed⟩:=ycb (xs:=s.dd) (by omega);obtain ⟨l,t,el⟩:=ycb (xs:=c.ly) (by have:=R.len;omega);have lq:s.sd.length=q.length+1:=by rw [eq];simp
  have ld:s.dd.length=ds.length+1:=by rw [ed];simp
  have R2:=R.side q;have e1:ygY (.loc c.sd) [] h=some (sdV x,h.set c.sd (.lst (q.map sdV))):=ysb (by rw [R.sds,eq,map_append];rfl);have ec:lvC [.val (.loc c.rn),.val v1,.val (.int ((L+1:Nat):Int)),.val v3,p4] h=some (true,h):=by
   have l1:ybU [.loc c.sd] h=some (.int s.sd.length,h):=by rw [ycW R.sds,length_map]
   have l2:oGe (.int (s.sd.length:Nat)) (.int ((L+1:Nat):Int)) h=some (.bl true,h):=by show some (PV.bl (decide (((L+1:Nat):Int)<=(s.sd.length:Nat))),h)=_;rw [decide_eq_true (by omega)]
   simpa [f7,l1,l2]
  obtain ⟨g1,g2,g3,g4,g5,g6,g7⟩:=ycJ R2.run;have G:=R2.lg;have G':=G;rw [el] at G';have e2:=yyw G';have R3:=yuX R2 el ed;have eb:lvB [.val (.loc c.rn),.val v1,.val (.int ((L+1:Nat):Int)),.val v3,p4] h=some (.nx [.val (.loc c.rn),.val v1,.val (.int ((L+1:Nat):Int)),.val v3,p4],(h.set c.sd (.lst (q.map sdV))).set c.st (.lst (l.map .loc))):=by
   generalize h.set c.sd (.lst (q.map sdV))=h2 at *
   simpa [f7,ycN R.sds,e1,g3,ycq,yB (m:="drop") G.ob (by rfl'),e2]
  obtain ⟨h',c',q1,q2,q3⟩:=ih f _ _ _ R3 rfl (by show q.length=L+k;omega) (by show ds.length=q.length+1;omega) (by omega);refine ⟨h',c',?_,?_,q3⟩
  .rw [yuT,ec,ybw,if_pos rfl,eb,ybw];exact q1
  .rw [eq,ed,List.take_append_of_le_length (by omega),List.take_append_of_le_length (by omega)];exact q2
end
section
variable {h:AH}{w:Int}{rows:List PV}{rest:List (Nat×Nd)}{c:Lc}{s:RS}
def RR.newh (R:RR w rows rest h c s) (q:List Int):RR w rows rest ((h++[Nd.lst (q.map .int)]).set c.rn (yiD h.length w c.lg rows s.t c.sn c.sd)) { c with hl:=h.length } { s with hs:=q }:=by refine ⟨?_,R.len⟩;have A:=At.new (.lst (q.map .int)) (a:=[_]) R.at_;have A1:=At.upd (a:=[]) (yiD h.length w c.lg rows s.t c.sn c.sd) A;exact A1.sub ((List.Sublist.cons _ (List.Sublist.refl _)).cons₂ _ |>.cons₂ _)
def yBG (hb:yhZ b=true):ybx (yT b) (.int (-1)) h=some (.int (toB b),h):=by cases b<;>first|(cases hb;done)|kernel_rfl!
def yoG (R:RR w rows rest h c s) (ok:okS s=true) (hr:yuR r=true) (hL:tkL s.sd r s.sd.length=L+1) (hx:s.sd[L]?=some x) :
  ∃ h' c',ycl [.loc c.rn,yT r] h=some (yT x.1,h')/\RR w rows rest h' c' ⟨(toB x.1).toNat,x.2,s.sd.take L,s.dd.take (L+1),s.sn⟩/\c'.rn=c.rn:=by
 obtain ⟨h8,o2,o3,o4,o5⟩:=ygP ok;obtain ⟨f1,f2,f3,f4,f5,f6,f7⟩:=ycJ R.run;have hlt:L<s.sd.length:=(List.getElem?_eq_some_iff.mp hx).1;obtain ⟨b1,b2,b3⟩:=o4 x (mem_of_getElem? hx);obtain ⟨h1,c1,q1,R1,q3⟩:=yFx (v1:=yT r) (v3:=sdV x) (p4:=.no) (L:=L) (s.sd.length-L) 1000 h c s R rfl (by omega) o2 (by omega);have q1:yfp 1000 lvC lvB [.val (.loc c.rn),.val (yT r),.val (.int ((L+1:Nat):Int)),.val (sdV x),.no] h=_:=q1;have k0:0<=toB x.1:=by revert b1 b2;cases x.1<;>simp [yhZ,okR,toB]
 have R2:=R1.newh x.2;rw [q3] at R2;have R3:=R2.to (toB x.1).toNat;refine ⟨_,_,?_,R3,rfl⟩;have i1:ybM (.loc c.sd) (.int (((L+1:Nat):Int)-1)) h=some (sdV x,h):=by unfold ybM;simp only [R.sds];rw [show ((L+1:Nat):Int)-1=(L:Nat) by omega,ydp (by rw [getElem?_map,hx];rfl)]
 have i2:∀ h,ybx (sdV x) (.int 0) h=some (yT x.1,h):=fun _=>rfl
 have i3:∀ h,ybx (sdV x) (.int 1) h=some (.lst (x.2.map .int),h):=fun _=>rfl
 have i4:=yoF R.run R.sds (fun x hx=>(o4 x hx).1) hr (by omega);rw [hL] at i4;have e1:(h1++[Nd.lst (x.2.map .int)])[c.rn]?=some (yiD c1.hl w c1.lg rows s.t c1.sn c1.sd):=by rw [<- q3,getElem?_append_left (List.getElem?_eq_some_iff.mp R1.run).1];exact R1.run
 have e2:=yuU (j:=h1.length) (Y:=[.val (.loc c.rn),.val (yT r),.val (.int ((L+1:Nat):Int)),.val (sdV x),.val (yT x.1)]) e1;have e3:=ylV (j:=toB x.1) (Y:=[.val (.loc c.rn),.val (yT r),.val (.int ((L+1:Nat):Int)),.val (sdV x),.val (yT x.1)]) R2.run;have i5:=fun h=>yBG (h:=h) b1
 unfold ycl;rw [yo];show ob (yl _ (yl _ (yl (yfp 1000 lvC lvB) _)) [.val (.loc c.rn),.val (yT r),.no,.no,.no] h) fnK=_
 simpa [ycq,yB (m:="taker_layer") R.run (by rfl'),i4,f7,i1,q1,i2,i3,ypQ,e2,i5,e3]
 rw [show (((toB x.1).toNat:Nat):Int)=toB x.1 by omega]
def yyG (R:RR w rows rest h c s) (er:rows[s.t]?=some (yT .wait)) (ok:okS s=true) (hL:tkL s.sd .wait s.sd.length=L+1) (hx:s.sd[L]?=some x) :
  ∃ h' c',ycf [.loc c.rn] h=some (.non,h')/\RR w rows rest h' c' ⟨(toB x.1).toNat,x.2,s.sd.take L,s.dd.take (L+1),s.sn⟩/\c'.rn=c.rn:=by
 have R1:=R.to (s.t+1);obtain ⟨h',c',q1,q2,q3⟩:=yoG (r:=.wait) R1 ok rfl hL hx;refine ⟨h',c',?_,q2,q3⟩;rw [yiE R.run er,yyC];show dk (mK 12 "leave" ycl _ _ (.loc c.rn) _) _=_;rw [yB R1.run (by rfl')];show dk (ycl [.loc c.rn,yT .wait] _) _=_;rw [q1];rfl
def yuY (R:RR w rows rest h c s) (er:rows[s.t]?=some (yT (.throw a b))) (hb:b∈SL) (ok:okS s=true) (hL:tkL s.sd (.throw a b) s.sd.length=L+1) (hx:s.sd[L]?=some x) (hg:ygN x.1 (.throw a b)=true) :
  ∃ h' c',ycf [.loc c.rn] h=some (.non,h')/\RR w rows rest h' c' ⟨(toB x.1).toNat,x.2.set (sx (slB x.1)) (s.hs.getD (sx b) 0),s.sd.take L,s.dd.take (L+1),s.sn⟩/\c'.rn=c.rn:=by
 have R1:=R.to (s.t+1);obtain ⟨h8,o2,o3,o4,o5⟩:=ygP ok;obtain ⟨b1,b2,b3⟩:=o4 x (mem_of_getElem? hx);obtain ⟨h',c',q1,q2,q3⟩:=yoG (r:=.throw a b) R1 ok rfl hL hx;obtain ⟨nm,rr,k,ex⟩:∃ nm rr k,x.1=.guard nm rr k:=by revert hg;cases x.1<;>first|(intro hg;cases hg;done)|exact fun _=>⟨_,_,_,rfl⟩
 have hs:rr∈SL:=by rw [ex] at b2;unfold okR at b2;simp only [and_eq_true,decide_eq_true_eq] at b2;exact b2.1
 have e4:=yhY (v:=s.hs.getD (sx b) 0) q2.run q2.held b3 hs;rw [ex] at q1 q2 e4 ⊢;refine ⟨_,c',?_,q2.hold _,q3⟩;have e1:=ydc R1.run R1.held h8 hb;have i1:∀ h,ybx (yT (.throw a b)) (.int 2) h=some (.str b,h):=fun _=>rfl
 have i2:∀ h,ybx (yT (.guard nm rr k)) (.int 2) h=some (.str rr,h):=fun _=>rfl
 have r2:=q2.run;rw [q3] at r2 e4;rw [yiE R.run er,yuV];show dk (mK 12 "throw" ycF _ _ (.loc c.rn) _) _=_;rw [yB R1.run (by rfl')];show dk (ycF [.loc c.rn,yT (.throw a b)] _) _=_;have:ycF [.loc c.rn,yT (.throw a b)] (h.set c.rn (yiD c.hl w c.lg rows (s.t+1:Nat) c.sn c.sd))=some (.non,h'.set c'.hl (.lst ((x.2.set (sx rr) (s.hs.getD (sx b) 0)).map .int))):=by
  unfold ycF;rw [yo];show ob (yl _ _ [.val (.loc c.rn),.val (yT (.throw a b)),.no,.no] _) fnK=_
  simpa [ycq,yB (m:="held_in") R1.run (by rfl'),yB (m:="leave") R1.run (by rfl'),yB (m:="hold") r2 (by rfl'),i1,i2,e1,q1,e4]
 rw [this];rfl
end
local macro_rules | `(tactic| walk_at "pw")=>`(tactic| simpa [$(sl_ "ykd yke ykf ykg yiB yiC ylR ylS ykh yki ykj ykk ylT ykl ykm ylU if_true if_false"),*])
section
variable {h:AH}{w:Int}{rows:List PV}{rest:List (Nat×Nd)}{c:Lc}{s s':RS}{r:Rw}
theorem yko {sd:List (Rw×List Int)}:∀ {k L:Nat},tkL sd r k=L+1->∃ x,sd[L]?=some x/\ygN x.1 r=true
 | k+1,L,e=>by
  unfold tkL at e;split at e
  .rename_i x hx;split at e
   .rename_i ht;cases e;exact ⟨x,hx,ht⟩
   .exact yko e
  .cases e
def yBH (R:RR w rows rest h c s):yed [.loc c.lg,.int (s.hs.getD (sx p) 0%w)] h=some (yrY s w p,h):=by rw [yBv R.lg,R.len];rfl
def yyH {r p:Str}:yC [x,yT (.take r p)] h=dk (mK 12 "take_own" yck (fun _ h1=>some ([.str r,.str p],h1)) [] x h) [.val x,.val (yT (.take r p))]:=by kernel_rfl!
def ynu {r p:Str}(R:RR w rows rest h c s) (hr:r∈SL) (hp:p∈SL) (h8:s.hs.length=8) (hw:1<=w) (ev:yrY s w p=.int v):yck [.loc c.rn,.str r,.str p] h=some (.non,h.set c.hl (.lst ((s.hs.set (sx r) v).map .int))):=by
 obtain ⟨f1,f2,f3,f4,f5,f6,f7⟩:=ycJ R.run;have o:=yBH (p:=p) R;rw [ev] at o;unfold yck;rw [yo];show ob (yY _ [.val (.loc c.rn),.val (.str r),.val (.str p)] h) fnK=_
 simpa [ycq,f3,yB (m:="hold") R.run (by rfl'),yB (m:="own") R.lg.ob (by rfl'),yB (m:="box_at") R.run (by rfl'),yeU R.run R.held h8 hp hw,o,yhY R.run R.held h8 hr]
def yyI (R:RR w rows rest h c s) (hp:p∈SL) (h8:s.hs.length=8) (hw:1<=w):ydf [.loc c.rn,.str p] h=some (.bl (isN (yrY s w p)),h):=by
 obtain ⟨f1,f2,f3,f4,f5,f6,f7⟩:=ycJ R.run;unfold ydf;rw [yo];show ob (yO _ [.val (.loc c.rn),.val (.str p)] h) fnK=_
 simpa [ycq,f3,yB (m:="own") R.lg.ob (by rfl'),yB (m:="box_at") R.run (by rfl'),yeU R.run R.held h8 hp hw,yBH R]
def yyJ {r p:Str}(R:RR w rows rest h c s) (er:rows[s.t]?=some (yT (.take r p))) (hr:r∈SL) (hp:p∈SL) (h8:s.hs.length=8) (hw:1<=w) (ev:yrY s w p=.int v):∃ h',ycf [.loc c.rn] h=some (.non,h')/\RR w rows rest h' c ⟨s.t+1,s.hs.set (sx r) v,s.sd,s.dd,s.sn⟩:=by have R1:=R.to (s.t+1);refine ⟨_,?_,R1.hold _⟩;rw [yiE R.run er,yyB];show dk (mK 12 "go_plain" yC _ _ (.loc c.rn) _) _=_;rw [yB R1.run (by rfl')];show dk (yC [.loc c.rn,yT (.take r p)] _) _=_;rw [yyH,yB R1.run (by rfl'),ybw,ynu R1 hr hp h8 hw ev];rfl
def yEb {w:Str}(hw:w∈W5) (hx:0<=x/\x<B64):yho [.str w,.int x,.int y] h=some (.int (rk w x y),h):=by
 have hm:MulOk x y:=.inl ⟨by have:=hx.1;omega,hx.2⟩;unfold yho;rw [yo];show ob (yl _ _ [.val (.str w),.val (.int x),.val (.int y)] h) fnK=_;unfold rk;rcases ywg hw with rfl|rfl|rfl|rfl|rfl
 .walk_at "pw"
 .walk_at "pw"
 .walk_at "pw";rw [if_pos hm]
 .walk_at "pw";split<;>rfl
 .walk_at "pw";split<;>rfl
def ylW {v r p q:Str}(R:RR w rows rest h c s) (hv:v∈W5) (hr:r∈SL) (hp:p∈SL) (hq:q∈SL) (h8:s.hs.length=8) (hx:0<=s.hs.getD (sx p) 0/\s.hs.getD (sx p) 0<B64):ybZ [.loc c.rn,.str v,.str r,.str p,.str q] h=some (.non,h.set c.hl (.lst ((s.hs.set (sx r) (rk v (s.hs.getD (sx p) 0) (s.hs.getD (sx q) 0))).map .int))):=by
 unfold ybZ;rw [yo];show ob (yY _ [.val (.loc c.rn),.val (.str v),.val (.str r),.val (.str p),.val (.str q)] h) fnK=_
 simpa [ycq,yB (m:="hold") R.run (by rfl'),yB (m:="held_in") R.run (by rfl'),ydc R.run R.held h8 hp,ydc R.run R.held h8 hq,yEb hv hx,yhY R.run R.held h8 hr]
def ysd {v r p q:Str}(g:v∈W5):yC [x,yT (.reckon v r p q)] h=dk (mK 12 "do_reckon" ybZ (fun _ h1=>some ([.str v,.str r,.str p,.str q],h1)) [] x h) [.val x,.val (yT (.reckon v r p q))]:=by
 rcases ywg g with rfl|rfl|rfl|rfl|rfl
 all_goals kernel_rfl!
def yse {v r p q:Str}(R:RR w rows rest h c s) (er:rows[s.t]?=some (yT (.reckon v r p q))) (hv:v∈W5) (hr:r∈SL) (hp:p∈SL) (hq:q∈SL) (h8:s.hs.length=8) (hx:0<=s.hs.getD (sx p) 0/\s.hs.getD (sx p) 0<B64):∃ h',ycf [.loc c.rn] h=some (.non,h')/\RR w rows rest h' c ⟨s.t+1,s.hs.set (sx r) (rk v (s.hs.getD (sx p) 0) (s.hs.getD (sx q) 0)),s.sd,s.dd,s.sn⟩:=by have R1:=R.to (s.t+1);refine ⟨_,?_,R1.hold _⟩;rw [yiE R.run er,yrX hv];show dk (mK 12 "go_plain" yC _ _ (.loc c.rn) _) _=_;rw [yB R1.run (by rfl')];show dk (yC [.loc c.rn,yT (.reckon v r p q)] _) _=_;rw [ysd hv,yB R1.run (by rfl'),ybw,ylW R1 hv hr hp hq h8 hx];rfl
def yyK (R:RR w rows rest h c s) (er:rows[s.t]?=some (yT r)) (hw:1<=w) (e:ypB w r s=some s'):∃ h' c',ycf [.loc c.rn] h=some (.non,h')/\RR w rows rest h' c' s'/\c'.rn=c.rn:=by
 unfold ypB at e;split at e
 .rename_i hok;obtain ⟨k1,ok⟩:=Bool.and_eq_true_iff.mp hok;obtain ⟨h8,o2,o3,o4,o5⟩:=ygP ok;have bg:∀ b:Rw,(∀ x h,goB [.val x,.val (yT b)] h=goE [.val x,.val (yT b)] h)->rows[s.t]?=some (yT b)->∃ h' c',ycf [.loc c.rn] h=some (.non,h')/\RR w rows rest h' c' ⟨s.t+1,s.hs,s.sd++[(b,s.hs)],s.dd++[([],[])],s.sn⟩/\c'.rn=c.rn:=fun b hb er=>by obtain ⟨h',c',q1,q2,q3⟩:=yBF (r:=b) (R.to (s.t+1)) o3 o2;exact ⟨h',c',by rw [yiE R.run er,hb,q1],q2,q3⟩
  cases r with
  | let_ a n =>
   cases e;obtain ⟨h',q1,q2⟩:=yBD R er (by simpa [okR] using k1) h8;exact ⟨h',c,q1,q2,rfl⟩
  | put p a =>
   cases e;obtain ⟨k2,k3⟩:p∈SL/\a∈SL:=by simpa [okR] using k1
   obtain ⟨h',q1,q2⟩:=yBE R er k2 k3 hw ok;exact ⟨h',c,q1,q2,rfl⟩
  | take p a =>
   obtain ⟨k2,k3⟩:p∈SL/\a∈SL:=by simpa [okR] using k1
   dsimp only at e;split at e
   .rename_i v hv;cases e;obtain ⟨h',q1,q2⟩:=yyJ R er k2 k3 h8 hw hv;exact ⟨h',c,q1,q2,rfl⟩
   .cases e
  | jump k =>
   cases e;obtain ⟨h',q1,q2⟩:=yyE R er (by simpa [okR] using k1);exact ⟨h',c,q1,q2,rfl⟩
  | unl r k =>
   cases e;obtain ⟨k2,k3⟩:r∈SL/\0<=k:=by simpa [okR] using k1
   obtain ⟨h',q1,q2⟩:=yrZ R er k2 h8 k3;exact ⟨h',c,q1,q2,rfl⟩
  | either k=>cases e;exact bg _ (fun _ _=>yrU) er
  | guard a b k=>cases e;exact bg _ (fun _ _=>yuW) er
  | settle =>
   dsimp only at e;split at e
   .cases e
   .rename_i hn;cases e;obtain ⟨h',c',q1,q2,q3⟩:=ysc (R.to (s.t+1)) ok hn;exact ⟨h',c',by rw [yiE R.run er,yrV,q1],q2,q3⟩
  | reckon v a p q =>
   dsimp only at e;split at e
   .rename_i hx;cases e;obtain ⟨⟨⟨k2,k3⟩,k4⟩,k5⟩:((v∈W5/\a∈SL)/\p∈SL)/\q∈SL:=by simpa [okR] using k1
    obtain ⟨h',q1,q2⟩:=yse R er k2 k3 k4 k5 h8 hx;exact ⟨h',c,q1,q2,rfl⟩
   .cases e
  | lay=>cases e
  | wait =>
   dsimp only at e;unfold yji at e;split at e
   .cases e
   .rename_i L hL;split at e
    .rename_i x hx;cases e;exact yyG R er ok hL hx
    .cases e
  | throw a b =>
   dsimp only at e;unfold yji at e;split at e
   .cases e
   .rename_i L hL;split at e
    .rename_i x hx;cases e;obtain ⟨y,hy,ht⟩:=yko hL;rw [hx] at hy;cases hy;exact yuY R er (by simpa [okR] using k1) ok hL hx ht
    .cases e
 .cases e
def yhc (w:Int) (s:RS):Rw->Bool
 | .take _ p=>isN (yrY s w p)
 | .wait=>decide (((tkL s.sd .wait s.sd.length:Nat):Int)=0)
 | .throw a b=>decide (((tkL s.sd (.throw a b) s.sd.length:Nat):Int)=0)
 | .lay=>true
 | _=>false
def ynv (R:RR w rows rest h c s) (er:rows[s.t]?=some (yT r)) (ok:okS s=true) (okr:okR r=true) (hw:1<=w):ybo [.loc c.rn] h=some (.bl (yhc w s r),h):=by
 obtain ⟨h8,o2,o3,o4,o5⟩:=ygP ok;rw [yyA R.run er];have tk:∀ b:Rw,yuR b=true->loB [.val (.loc c.rn),.val (yT b)] h=ob (yO (xOp (oEq) (M2 "taker_layer" ybe) (xC (.int 0))) [.val (.loc c.rn),.val (yT b)] h) (sqK (yO (xOp (oEq) (xOp (ybx) (ye 1) (xC (.int 0))) (xC (.str "lay")))))->ob (loB [.val (.loc c.rn),.val (yT b)] h) fnK=some (.bl (decide (((tkL s.sd b s.sd.length:Nat):Int)=0)),h):=fun b hb e=>by
  rw [e];show ob (ob (yO (xOp oEq (yg 12 "taker_layer" ybe (ye 0) (yc (ye 1) (yh))) (xC (.int 0))) [.val (.loc c.rn),.val (yT b)] h) _) fnK=_
  simpa [ycq,yB (m:="taker_layer") R.run (by rfl'),yoF R.run R.sds (fun x hx=>(o4 x hx).1) hb (by omega)]
 cases r with
 | wait=>exact tk .wait rfl (by kernel_rfl!)
 | throw a b=>exact tk (.throw a b) rfl (by kernel_rfl!)
 | take a p =>
  obtain ⟨k2,k3⟩:a∈SL/\p∈SL:=by simpa [okR] using okr
  have i0:∀ h,ybx (yT (.take a p)) (.int 0) h=some (.str "take",h):=fun _=>rfl
  have i2:∀ h,ybx (yT (.take a p)) (.int 2) h=some (.str p,h):=fun _=>rfl
  unfold loB
  simpa [ycq,i0,i2,yB (m:="sees_at") R.run (by rfl'),yyI R k3 h8 hw]
  rfl
 | reckon v a p q =>
  obtain ⟨⟨⟨k2,_⟩,_⟩,_⟩:((v∈W5/\a∈SL)/\p∈SL)/\q∈SL:=by simpa [okR] using okr
  rcases ywg k2 with rfl|rfl|rfl|rfl|rfl<;>kernel_rfl!
 | _=>kernel_rfl!
end
def stB (m:List (Nat×Int×Int)) (sp:List Int):Bool:=(m.map fun p=>!decide (sp.getD p.1 0=p.2.2)).any id
theorem yBI:∀ {m:List (Nat×Int×Int)}{p:Nat×Int×Int},(m.map (·.1)).Nodup->p∈m->yjN (sK m) (m.map f) (.inl (p.1:Int))=some (f p)
 | q::m,p,nd,hp=>by
  show (if (Sum.inl (q.1:Int):Key)=.inl (p.1:Int) then some (f q) else yjN (sK m) (m.map f) (.inl (p.1:Int)))=_;obtain ⟨n1,n2⟩:=List.nodup_cons.mp nd;rcases mem_cons.mp hp with rfl|hp
  .rw [if_pos rfl]
  .rw [if_neg (fun z=>n1 ?_)]
   .exact yBI n2 hp
   .have:q.1=p.1:=by have:=Sum.inl.inj z;omega
    show q.1∈m.map (·.1);rw [this];exact List.mem_map_of_mem hp
theorem ykp {Z:Type}(f:Z->Bool):∀ l:List Z,yjG (l.map fun a=>PV.bl (f a))=some (l.map f)
 | []=>rfl
 | a::l=>by
  show yjG (PV.bl (f a)::l.map fun a=>PV.bl (f a))=some (f a::l.map f);unfold yjG;simp only [ykp f l]
  try rfl
def yyL {f:Nat×Int×Int->PV}{k:Nat}{a b:Int}{m:List (Nat×Int×Int)}(hf:f (k,a,b)=v):ycM (sK m) (m.map f) (.inl (k:Int)) v=(sK (ydE m k a b),(ydE m k a b).map f):=by
 have e1:∀ m:List (Nat×Int×Int),yre (sK m) (.inl (k:Int))=decide (k∈m.map (·.1)):=by
  intro m
  induction m with
  | nil=>rfl
  | cons q m ih =>
   show (if (Sum.inl (q.1:Int):Key)=.inl (k:Int) then true else yre (sK m) (.inl (k:Int)))=_;rw [ih]
   by_cases e:q.1=k
   .rw [if_pos (by rw [e])];simp [e]
   .rw [if_neg (fun z=>e (by have:=Sum.inl.inj z;omega))];simp [Ne.symm e]
 have e2:∀ m:List (Nat×Int×Int),setK (sK m) (m.map f) (.inl (k:Int)) v=(m.map fun p=>if p.1=k then (k,a,b) else p).map f:=by
  intro m
  induction m with
  | nil=>rfl
  | cons q m ih =>
   show (if (Sum.inl (q.1:Int):Key)=.inl (k:Int) then v::setK (sK m) (m.map f) (.inl (k:Int)) v else f q::setK (sK m) (m.map f) (.inl (k:Int)) v)=f (if q.1=k then (k,a,b) else q)::_;rw [ih]
   by_cases e:q.1=k
   .rw [if_pos (by rw [e]),if_pos e,hf]
   .rw [if_neg (fun z=>e (by have:=Sum.inl.inj z;omega)),if_neg e]
 unfold ycM ydE;rw [e1]
 by_cases e:k∈m.map (·.1)
 .rw [if_pos (decide_eq_true e),if_pos e,e2];refine Prod.ext ?_ rfl;show sK m=(m.map fun p=>if p.1=k then (k,a,b) else p).map _;rw [map_map];refine List.map_congr_left fun p _=>?_
  show _=(Sum.inl (((if p.1=k then (k,a,b) else p).1:Nat):Int):Key)
  split
  .rename_i e;rw [e]
  .rfl
 .rw [if_neg (by simp [e]),if_neg e,map_append];unfold sK;rw [map_append,<- hf];rfl
section
variable {h:AH}{w:Int}{rows:List PV}{rest:List (Nat×Nd)}{c:Lc}{s s':RS}{r:Rw}{sp bx:List Int}{ma nu:Nat}
def ykq (R:RR w rows rest h c s) (hm:(ma,.lst (sp.map .int))∈rest) (nd:(s.sn.map (·.1)).Nodup) (hb:∀ p∈s.sn,p.1<sp.length) (hl:s.sn.length<=900):ycz [.loc c.rn,.loc ma] h=some (.bl (stB s.sn sp),h):=by
 obtain ⟨f1,f2,f3,f4,f5,f6,f7⟩:=ycJ R.run;have e:h[c.sn]?=some (.dct (sK s.sn) (sB s.sn)):=R.at_.get 5 rfl;have A:=At.upd (a:=[_,_,_,_,_]) (.fz (sK s.sn) (sB s.sn)) R.at_;have em:(h.set c.sn (.fz (sK s.sn) (sB s.sn)))[ma]?=some (.lst (sp.map .int)):=A.2 (ma,.lst (sp.map .int)) (by simp [hm]);obtain ⟨g1,g2,g3,g4,g5,g6,g7⟩:=ycJ (A.get 0 rfl);have en:(h.set c.sn (.fz (sK s.sn) (sB s.sn)))[c.sn]?=some (.fz (sK s.sn) (sB s.sn)):=A.get 5 rfl;have back:(h.set c.sn (.fz (sK s.sn) (sB s.sn))).set c.sn (.dct (sK s.sn) (sB s.sn))=h:=by rw [List.set_set];obtain ⟨l1,l2⟩:=List.getElem?_eq_some_iff.mp e;rw [<- l2,List.set_getElem_self]
 have cm:yiS (xOp (oNe) (xOp (ybM) (ye 1) (ye 0)) (yhF (ybb [12] "seen_stamps" (ye 2)) (ye 0))) (yfS [1,0] [.val (.loc c.rn),.val (.loc ma)]) ((sK s.sn).map yjV) (h.set c.sn (.fz (sK s.sn) (sB s.sn)))=some (s.sn.map (fun p=>.bl (!decide (sp.getD p.1 0=p.2.2))),h.set c.sn (.fz (sK s.sn) (sB s.sn))):=by
  generalize h.set c.sn (.fz (sK s.sn) (sB s.sn))=h1 at *;show yiS _ _ ((s.sn.map fun p=>(.inl (p.1:Int):Key)).map yjV) _=_;rw [map_map];refine yfF _ _ fun p hp=>?_
  show xOp _ _ _ [.val (.int (p.1:Int)),.val (.loc ma),.val (.loc c.rn)] _=_;have i1:=yfK em (hb p hp);have i2:yhF (ybb [12] "seen_stamps" (ye 2)) (ye 0) [.val (.int (p.1:Int)),.val (.loc ma),.val (.loc c.rn)] h1=some (.int p.2.2,h1):=by
   unfold yhF
   simpa [g6]
   unfold yxL;simp only [en,keyOf];unfold sB;rw [yBI nd hp]
  simpa [i1,i2]
 have an:∀ h,yur [.lst (s.sn.map (fun p=>PV.bl (!decide (sp.getD p.1 0=p.2.2))))] h=some (.bl (stB s.sn sp),h):=fun h=>by unfold yur ybH;simp only [ykp (fun p:Nat×Int×Int=>!decide (sp.getD p.1 0=p.2.2))];rfl
 have cd:yjb (ybb [12] "seen_stamps" (ye 0)) [1,0] (xOp (oNe) (xOp (ybM) (ye 1) (ye 0)) (yhF (ybb [12] "seen_stamps" (ye 2)) (ye 0))) [.val (.loc c.rn),.val (.loc ma)] h=some (.lst (s.sn.map (fun p=>.bl (!decide (sp.getD p.1 0=p.2.2)))),h):=by
  unfold yjb
  simpa [f6]
  simp only [e];rw [if_pos (by unfold sK;rw [length_map];omega),cm,ybw,back]
 unfold ycz;rw [yo];show ob (yO (xCB yur (yc (xFz (yjb _ _ _)) yh)) [.val (.loc c.rn),.val (.loc ma)] h) fnK=_
 simpa [cd,an]
def RR.see (R:RR w rows rest h c s) (k:Nat) (a b:Int):RR w rows rest ((h.set c.sn (.dct (sK (ydE s.sn k a b)) (sB (ydE s.sn k a b)))).set c.ls (.dct (sK (ydE s.sn k a b)) (sA (ydE s.sn k a b)))) c { s with sn:=ydE s.sn k a b }:=by have A:=At.upd (a:=[_,_,_,_,_]) (.dct (sK (ydE s.sn k a b)) (sB (ydE s.sn k a b))) R.at_;exact ⟨At.upd (a:=[_,_,_,_]) (.dct (sK (ydE s.sn k a b)) (sA (ydE s.sn k a b))) A,R.len⟩
def yBJ (e1:h[o]?=some (.ins 11 ["stack","last_seen"] [.loc st,.loc b])) (e2:h[b]?=some (.dct ks xs)) (hl:ks.length<1000):ygc [.loc o,.int i,v] h=some (.non,h.set b (.dct (ycM ks xs (.inl i) v).1 (ycM ks xs (.inl i) v).2)):=by unfold ygc;rw [yo];show ob (yjQ _ _ _ [.val (.loc o),.val (.int i),.val v] h) fnK=_;rw [ykn (n:=b) (i:=i) (x:=v) rfl (by rw [yjI,show ye 0 [PVar.val (.loc o),.val (.int i),.val v] h=some (.loc o,h) from rfl,ybw,yrO e1]) rfl e2 hl];rfl
def ynw (R:RR w rows rest h c s) (er:rows[s.t]?=some (yT (.take a p))) (hm:(ma,.lst (sp.map .int))∈rest) (hn:(nu,.lst (bx.map .int))∈rest) (h8:s.hs.length=8) (ha:a∈SL) (hp:p∈SL) (hw:1<=w) (hk:s.hs.getD (sx p) 0%w=(k:Nat)) (hks:k<sp.length) (hkb:k<bx.length) (hl:s.sn.length<=900) :
  ∃ h',ydg [.loc c.rn,.loc nu,.loc ma] h=some (.int (k:Nat),h')/\RR w rows rest h' c ⟨s.t+1,s.hs.set (sx a) (bx.getD k 0),s.sd,s.dd,ydE s.sn k (bx.getD k 0) (sp.getD k 0)⟩:=by
 have R1:=R.see k (bx.getD k 0) (sp.getD k 0);have R2:=R1.hold (s.hs.set (sx a) (bx.getD k 0));refine ⟨_,?_,R2.to (s.t+1)⟩;obtain ⟨f1,f2,f3,f4,f5,f6,f7⟩:=ycJ R.run;have A0:=At.upd (a:=[_,_,_,_,_]) (.dct (sK (ydE s.sn k (bx.getD k 0) (sp.getD k 0))) (sB (ydE s.sn k (bx.getD k 0) (sp.getD k 0)))) R.at_;have i1:ybM (.loc ma) (.int (k:Nat)) h=some (.int (sp.getD k 0),h):=yfK (R.at_.2 (ma,.lst (sp.map .int)) (by unfold RM;simp [hm])) hks;have i2:∀ h,ybx (yT (.take a p)) (.int 1) h=some (.str a,h):=fun _=>rfl
 have i3:∀ h,ybx (yT (.take a p)) (.int 2) h=some (.str p,h):=fun _=>rfl
 have b1:=yeU R.run R.held h8 hp hw;rw [hk] at b1;have lk:(sK s.sn).length<1000:=by unfold sK;rw [length_map];omega
 have d1:=ykn (h:=h) (n:=c.sn) (i:=(k:Nat)) (x:=.int (sp.getD k 0)) (ed:=ybb [12] "seen_stamps" (ye 0)) (ek:=ye 4) (ev:=xOp (ybM) (ye 2) (ye 4)) (Y:=[.val (.loc c.rn),.val (.loc nu),.val (.loc ma),.val (yT (.take a p)),.val (.int (k:Nat))]) (by simpa [i1]) (by simpa [f6]) rfl (R.at_.get 5 rfl) lk;rw [show sB s.sn=s.sn.map (fun p=>.int p.2.2) from rfl,yyL (f:=fun p=>.int p.2.2) (a:=bx.getD k 0) (b:=sp.getD k 0) rfl] at d1;have r1:(h.set c.sn (.dct (sK (ydE s.sn k (bx.getD k 0) (sp.getD k 0))) (sB (ydE s.sn k (bx.getD k 0) (sp.getD k 0)))))[c.rn]?=some (yiD c.hl w c.lg rows s.t c.sn c.sd):=A0.get 0 rfl;have ts:ycC [.loc c.rn,.str a,.str p,.loc nu] (h.set c.sn (.dct (sK (ydE s.sn k (bx.getD k 0) (sp.getD k 0))) (sB (ydE s.sn k (bx.getD k 0) (sp.getD k 0)))))=some (.non,((h.set c.sn (.dct (sK (ydE s.sn k (bx.getD k 0) (sp.getD k 0))) (sB (ydE s.sn k (bx.getD k 0) (sp.getD k 0))))).set c.ls (.dct (sK (ydE s.sn k (bx.getD k 0) (sp.getD k 0))) (sA (ydE s.sn k (bx.getD k 0) (sp.getD k 0))))).set c.hl (.lst ((s.hs.set (sx a) (bx.getD k 0)).map .int))):=by
  have b2:=yeU (r:=p) (A0.get 0 rfl) (A0.get 1 rfl) h8 hp hw;rw [hk] at b2;have g1:=(ycJ (A0.get 0 rfl)).2.2.1;have s1:=yBJ (i:=(k:Nat)) (v:=.int (bx.getD k 0)) (A0.get 2 rfl) (A0.get 4 rfl) lk;rw [show sA s.sn=s.sn.map (fun p=>.int p.2.1) from rfl,yyL (f:=fun p=>.int p.2.1) (a:=bx.getD k 0) (b:=sp.getD k 0) rfl] at s1;have j1:=yfK (A0.2 (nu,.lst (bx.map .int)) (by simp [hn])) hkb;have j2:=yfK (R1.at_.2 (nu,.lst (bx.map .int)) (by unfold RM;simp [hn])) hkb;have lo:=A0.get 2 rfl;have hd:=yhY (v:=bx.getD k 0) R1.run R1.held h8 ha;have r2:=R1.run;dsimp only at hd r2;change _=some (PV.non,(h.set c.sn _).set c.ls (.dct (sK (ydE s.sn k (bx.getD k 0) (sp.getD k 0))) (sA (ydE s.sn k (bx.getD k 0) (sp.getD k 0))))) at s1;generalize (h.set c.sn (.dct (sK (ydE s.sn k (bx.getD k 0) (sp.getD k 0))) (sB (ydE s.sn k (bx.getD k 0) (sp.getD k 0)))))=h1 at *;generalize (h1.set c.ls (.dct (sK (ydE s.sn k (bx.getD k 0) (sp.getD k 0))) (sA (ydE s.sn k (bx.getD k 0) (sp.getD k 0)))))=h2 at *;unfold ycC;rw [yo];show ob (yl _ _ [.val (.loc c.rn),.val (.str a),.val (.str p),.val (.loc nu),.no] h1) fnK=_
  simpa [ycq,yB (m:="box_at") r1 (by rfl'),b2,g1,yB (m:="see") lo (by rfl'),j1,s1,yB (m:="hold") r2 (by rfl'),j2,hd]
 have rr:=R2.run;have f5':=(ycJ R2.run).2.2.2.2.1;have sa:=fun Y=>ylV (j:=((s.t+1:Nat):Int)) (Y:=Y) R2.run
 have z:((s.t:Nat):Int)+1=((s.t+1:Nat):Int):=by omega
 dsimp only at f5' sa rr;change _=some (Out.nx _,h.set c.sn (.dct (sK (ydE s.sn k (bx.getD k 0) (sp.getD k 0))) (sB (ydE s.sn k (bx.getD k 0) (sp.getD k 0))))) at d1;generalize (h.set c.sn (.dct (sK (ydE s.sn k (bx.getD k 0) (sp.getD k 0))) (sB (ydE s.sn k (bx.getD k 0) (sp.getD k 0)))))=h1 at *;generalize ((h1.set c.ls (.dct (sK (ydE s.sn k (bx.getD k 0) (sp.getD k 0))) (sA (ydE s.sn k (bx.getD k 0) (sp.getD k 0))))).set c.hl (.lst ((s.hs.set (sx a) (bx.getD k 0)).map .int)))=h2 at *;unfold ydg;rw [yo];show ob (yl _ _ [.val (.loc c.rn),.val (.loc nu),.val (.loc ma),.no,.no] h) fnK=_
 simpa [ycq,yB (m:="row") R.run (by rfl'),yhX R.run rfl er,i2,i3,yB (m:="box_at") R.run (by rfl'),b1,d1,yB (m:="take_seen") r1 (by rfl'),ts,ypQ,f5',z,sa]
end
structure HC where
 H:Nat
 nu:Nat
 ma:Nat
 cr:Nat
 en:Nat
structure HQ where
 bx:List Int
 sp:List Int
 en:List PV
 cw:List Nat
 i:Nat
 hd:Nat
 ds:List PV
 nth:Nat
 sl:Bool
 bf:List Int
def HL (g:HC) (rn:Nat) (w:Int) (q:HQ) (own:List (Nat×Nd)):List (Nat×Nd) :=
 (g.H,yuL g.nu g.ma g.cr g.en)::(g.nu,.lst (q.bx.map .int))::(g.ma,.lst (q.sp.map .int))::(g.cr,.lst (q.cw.map .loc))::(g.en,.lst q.en)::(q.hd,ydl q.ds w q.nth q.sl q.bf rn)::own
structure NF (W:Nat) (s:RS):Prop where
 nd:(s.sn.map (·.1)).Nodup
 hb:∀ p∈s.sn,p.1<W
 hl:s.sn.length<=900
def stN (q:HQ):Str:=if q.nth=q.ds.length then "ended" else if q.sl=true then "asleep" else "awake"
section
variable {h:AH}{w:Int}{rows:List PV}{c:Lc}{s s':RS}{r:Rw}{g:HC}{q:HQ}{own:List (Nat×Nd)}{rn:Nat}
def RR.rest (R:RR w rows m h c s):At h m:=by have A:=R.at_;unfold RM at A;exact (At.sub A (List.sublist_append_right (_::_::_::_::_::_::_::lay c.ly s.dd) m))
def ynx (A:At h (HL g rn w q own)) (hi:q.cw[q.i]?=some q.hd):ybM (.loc g.cr) (.int (q.i:Nat)) h=some (.loc q.hd,h):=by have e:h[g.cr]?=some (.lst (q.cw.map .loc)):=A.get 3 rfl;unfold ybM;simp only [e];rw [ydp (show (q.cw.map PV.loc)[q.i]?=some (.loc q.hd) by rw [getElem?_map,hi];rfl)]
def yej (A:At h (HL g rn w q own)) (hi:q.cw[q.i]?=some q.hd):ybi [.loc g.H,.int (q.i:Nat)] h=some (.loc q.hd,h):=by
 obtain ⟨f1,f2,f3,f4⟩:=ydm (A.get 0 rfl);have e:h[g.cr]?=some (.lst (q.cw.map .loc)):=A.get 3 rfl;have i1:yee [.int (q.i:Nat)] h=some (.bl true,h):=by kernel_rfl!
 have i2:=ynx A hi;have lt:=(List.getElem?_eq_some_iff.mp hi).1;have l1:((0:Int)<=(q.i:Nat))=True:=eq_true (by omega);have l2:(((q.i:Nat):Int)<((q.cw.map PV.loc).length:Nat))=True:=eq_true (by rw [length_map];omega);unfold ybi;rw [yo];show ob (yl _ _ [.val (.loc g.H),.val (.int (q.i:Nat))] h) fnK=_
 simpa [f3,ycW e,i1,i2,l1,l2]
def yfg (A:At h (HL g rn w q own)):ycm [.loc q.hd] h=some (.str (stN q),h):=by
 obtain ⟨f1,f2,f3,f4,f5,f6⟩:=ydn (A.get 5 rfl);unfold ycm stN;rw [yo];show ob (yl _ _ [.val (.loc q.hd)] h) fnK=_
 by_cases e:q.nth=q.ds.length
 .have e':((q.nth:Nat):Int)=(q.ds.length:Nat):=by omega
  rw [if_pos e]
  simpa [f3,f1,e']
 .have e':(((q.nth:Nat):Int)=(q.ds.length:Nat))=False:=eq_false (by omega);rw [if_neg e]
  simpa [f3,f1,f4,e']
  cases q.sl<;>rfl
theorem awake (hn:q.nth<q.ds.length) (hs:q.sl=false):stN q = "awake":=by unfold stN;rw [if_neg (by omega),hs];rfl
def ysf (A:At h (HL g rn w q own)) (hi:q.cw[q.i]?=some q.hd) (hs:(stN q = "awake")=False):yw [.loc g.H,.int (q.i:Nat)] h=some (.tup [.str "idle"],h):=by
 unfold yw;rw [yo];show ob (yl _ _ [.val (.loc g.H),.val (.int (q.i:Nat)),.no,.no] h) fnK=_
 simpa [ycq,yB (m:="hand_at") (A.get 0 rfl) (by rfl'),yej A hi,yB (m:="state") (A.get 5 rfl) (by rfl'),yfg A,hs]
def ysg (R:RR w rows (HL g c.rn w q own) h c s) (hi:q.cw[q.i]?=some q.hd) (er:rows[s.t]?=some (yT r)) (hw:1<=w) (hn:q.nth<q.ds.length) (hs:q.sl=false) (ok:okS s=true) (okr:okR r=true) (hlk:yhc w s r=false) (e:ypB w r s=some s') :
  ∃ h' c',yw [.loc g.H,.int (q.i:Nat)] h=some (.tup [.str "gone",.int s.t],h')/\RR w rows (HL g c'.rn w q own) h' c' s':=by
 obtain ⟨h',c',q1,q2,q3⟩:=yyK R er hw e;refine ⟨h',c',?_,by rw [q3];exact q2⟩;have A:=R.rest;obtain ⟨f1,f2,f3,f4,f5,f6⟩:=ydn (A.get 5 rfl);obtain ⟨k1,k2,k3,k4,k5,k6,k7⟩:=ycJ R.run;have st:=yfg A;rw [awake hn hs] at st;have lk:=ynv R er ok okr hw;rw [hlk] at lk;unfold yw;rw [yo];show ob (yl _ _ [.val (.loc g.H),.val (.int (q.i:Nat)),.no,.no] h) fnK=_
 simpa [ycq,yB (m:="hand_at") (A.get 0 rfl) (by rfl'),yej A hi,yB (m:="state") (A.get 5 rfl) (by rfl'),st,f6,k5,yB (m:="is_looked_over") R.run (by rfl'),lk,yB (m:="go") R.run (by rfl'),q1]
def ygi (R:RR w rows (HL g c.rn w q own) h c s) (hi:q.cw[q.i]?=some q.hd) (er:rows[s.t]?=some (yT r)) (hw:1<=w) (hn:q.nth<q.ds.length) (hs:q.sl=false) (ok:okS s=true) (okr:okR r=true) (hlk:yhc w s r=true) (F:NF q.sp.length s) (fr:stB s.sn q.sp=false):yw [.loc g.H,.int (q.i:Nat)] h=ob (yN [.loc g.H,.int (q.i:Nat),.int s.t] h) (fun x h=>some (x,h)):=by
 have A:=R.rest;obtain ⟨f1,f2,f3,f4,f5,f6⟩:=ydn (A.get 5 rfl);obtain ⟨g1,g2,g3,g4⟩:=ydm (A.get 0 rfl);obtain ⟨k1,k2,k3,k4,k5,k6,k7⟩:=ycJ R.run;have st:=yfg A;rw [awake hn hs] at st;have lk:=ynv R er ok okr hw;rw [hlk] at lk;have sl:=ykq (ma:=g.ma) (sp:=q.sp) R (mem_of_getElem? (i:=2) rfl) F.nd F.hb F.hl;rw [fr] at sl;unfold yw;rw [yo];show ob (yl _ _ [.val (.loc g.H),.val (.int (q.i:Nat)),.no,.no] h) fnK=_
 simpa [ycq,yB (m:="hand_at") (A.get 0 rfl) (by rfl'),yej A hi,yB (m:="state") (A.get 5 rfl) (by rfl'),st,f6,k5,yB (m:="is_looked_over") R.run (by rfl'),lk,g2,yB (m:="is_stale") R.run (by rfl'),sl,yB (m:="looked_over_told") (A.get 0 rfl) (by rfl')]
def ysh (R:RR w rows (HL g c.rn w q own) h c s) (hi:q.cw[q.i]?=some q.hd) (er:rows[s.t]?=some (yT (.take a p))) (hw:1<=w) (hn:q.nth<q.ds.length) (hs:q.sl=false) (ok:okS s=true) (okr:okR (.take a p)=true) (hlk:isN (yrY s w p)=true) (F:NF q.sp.length s) (fr:stB s.sn q.sp=false) (hk:s.hs.getD (sx p) 0%w=(k:Nat)) (hkb:k<q.bx.length) (hbs:q.sp.length=q.bx.length) :
  ∃ h',yw [.loc g.H,.int (q.i:Nat)] h=some (.tup [.str "seen",.int s.t,.int (k:Nat),.int (q.bx.getD k 0)],h')/\RR w rows (HL g c.rn w q own) h' c ⟨s.t+1,s.hs.set (sx a) (q.bx.getD k 0),s.sd,s.dd,ydE s.sn k (q.bx.getD k 0) (q.sp.getD k 0)⟩:=by
 obtain ⟨h8,o2,o3,o4,o5⟩:=ygP ok;obtain ⟨k2,k3⟩:a∈SL/\p∈SL:=by simpa [okR] using okr
 obtain ⟨h',q1,R'⟩:=ynw (ma:=g.ma) (nu:=g.nu) (sp:=q.sp) (bx:=q.bx) R er (mem_of_getElem? (i:=2) rfl) (mem_of_getElem? (i:=1) rfl) h8 k2 k3 hw hk (by omega) hkb F.hl;refine ⟨h',?_,R'⟩;rw [ygi R hi er hw hn hs ok okr hlk F fr];have A:=R.rest;have A':=R'.rest;obtain ⟨f1,f2,f3,f4,f5,f6⟩:=ydn (A.get 5 rfl);obtain ⟨g1,g2,g3,g4⟩:=ydm (A.get 0 rfl);have g1':=(ydm (A'.get 0 rfl)).1;have i2:=ynx A hi;have i4:∀ h,ybx (yT (.take a p)) (.int 0) h=some (.str "take",h):=fun _=>rfl
 have i5:=yfK (A'.get 1 rfl) hkb;unfold yN;rw [yo];show ob (ob (yl _ _ [.val (.loc g.H),.val (.int (q.i:Nat)),.val (.int s.t),.no,.no,.no] h) fnK) _=_
 simpa [ycq,g1,g2,g3,i2,f6,yB (m:="row") R.run (by rfl'),yhX R.run rfl er,i4,yB (m:="see_next") R.run (by rfl'),q1,g1',i5]
def ysi {w nth:Int}{sl v:Bool}{rn:Nat}(e:h[n]?=some (ydl ds w nth sl bf rn)):fL [14] "sleeps" Y (.bl v) (.loc n) h=some (.nx Y,h.set n (ydl ds w nth v bf rn)):=yeT e (by decide) (by kernel_rfl!)
theorem RR.sub {m m':List (Nat×Nd)}(R:RR w rows m h c s) (u:m'.Sublist m):RR w rows m' h c s:=by refine ⟨?_,R.len⟩;have A:=R.at_;unfold RM at A ⊢;exact A.sub ((((((((List.Sublist.refl _).append u).cons₂ _).cons₂ _).cons₂ _).cons₂ _).cons₂ _).cons₂ _ |>.cons₂ _)
def RR.urest (d':Nd) (R:RR w rows (a++(n,d)::b) h c s):RR w rows (a++(n,d')::b) (h.set n d') c s:=by refine ⟨?_,R.len⟩;have A:=R.at_;unfold RM at A ⊢;rw [<- append_assoc] at A ⊢;exact At.upd (a:=_::_::_::_::_::_::_::(lay c.ly s.dd++a)) d' A
def ypC (R:RR w rows (HL g c.rn w q own) h c s) (hi:q.cw[q.i]?=some q.hd) (er:rows[s.t]?=some (yT .wait)) (hw:1<=w) (hn:q.nth<q.ds.length) (hs:q.sl=false) (ok:okS s=true) (hlk:yhc w s .wait=true) (F:NF q.sp.length s) (fr:stB s.sn q.sp=false) :
  ∃ h',yw [.loc g.H,.int (q.i:Nat)] h=some (.tup [.str "asleep",.int s.t],h')/\RR w rows (HL g c.rn w { q with sl:=true } own) h' c s:=by
 have A:=R.rest;refine ⟨h.set q.hd (ydl q.ds w q.nth true q.bf c.rn),?_,RR.urest (a:=[_,_,_,_,_]) _ R⟩;rw [ygi R hi er hw hn hs ok rfl hlk F fr];obtain ⟨f1,f2,f3,f4,f5,f6⟩:=ydn (A.get 5 rfl);obtain ⟨g1,g2,g3,g4⟩:=ydm (A.get 0 rfl);have i2:=ynx A hi;have i4:∀ h,ybx (yT .wait) (.int 0) h=some (.str "wait",h):=fun _=>rfl
 have fa:ycg [.loc q.hd] h=some (.non,h.set q.hd (ydl q.ds w q.nth true q.bf c.rn)):=by
  have s1:=fun Y=>ysi (Y:=Y) (v:=true) (A.get 5 rfl)
  unfold ycg;rw [yo];show ob (ycX _ _ _ _ [.val (.loc q.hd)] h) fnK=_
  simpa [ypQ,s1]
 unfold yN;rw [yo];show ob (ob (yl _ _ [.val (.loc g.H),.val (.int (q.i:Nat)),.val (.int s.t),.no,.no,.no] h) fnK) _=_
 simpa [ycq,g3,i2,f6,yB (m:="row") R.run (by rfl'),yhX R.run rfl er,i4,yns,yB (m:="fall_asleep") (A.get 5 rfl) (by rfl'),fa]
end
section
variable {h:AH}{w:Int}{rows rows':List PV}{c:Lc}{s s':RS}{r:Rw}{g:HC}{q:HQ}{own:List (Nat×Nd)}{rn:Nat}
def hp1 (h:AH) (bf:List Int):AH:=h++[Nd.lst (bf.map .int)]
def hp2 (h:AH) (bf:List Int):AH:=hp1 h bf++[Nd.dct [] []]
def hp3 (h:AH) (bf:List Int):AH:=hp2 h bf++[Nd.lst [.loc (hp1 h bf).length]]
def hp4 (h:AH) (bf:List Int):AH:=hp3 h bf++[Nd.dct [] []]
noncomputable def hp5 (h:AH) (bf:List Int):AH:=hp4 h bf++[Nd.ins 11 ["stack","last_seen"] [.loc (hp2 h bf).length,.loc (hp3 h bf).length]]
def hp6 (h:AH) (bf:List Int):AH:=hp5 h bf++[Nd.dct [] []]
def hp7 (h:AH) (bf:List Int):AH:=hp6 h bf++[Nd.lst []]
def yuZ {bf:List Int}:∃ h' c',ob (yeb [.lst rows,.lst (bf.map .int),.int w] h) (fun d h1=>some (PV.loc h1.length,h1++[d]))=some (.loc c'.rn,h')/\∀ m,At h m->RR w rows m h' c' (S0 bf):=by refine ⟨_,⟨(hp7 h bf).length,h.length,(hp4 h bf).length,(hp2 h bf).length,(hp3 h bf).length,(hp5 h bf).length,(hp6 h bf).length,[(hp1 h bf).length]⟩,rfl,fun m A=>⟨?_,rfl⟩⟩;have A2:=At.new (.dct [] []) (a:=[_]) (At.new (.lst (bf.map .int)) (a:=[]) A);have A4:=At.new (.dct [] []) (a:=[_,_]) (At.new (.lst [.loc (hp1 h bf).length]) (a:=[_]) A2);have A5:=At.new (.ins 11 ["stack","last_seen"] [.loc (hp2 h bf).length,.loc (hp3 h bf).length]) (a:=[_]) A4;exact At.new _ (a:=[]) (At.new (.lst []) (a:=[_,_,_,_,_]) (At.new (.dct [] []) (a:=[_,_,_,_]) A5))
def yva {w nth v:Int}{sl:Bool}{rn:Nat}(e:h[n]?=some (ydl ds w nth sl bf rn)):fL [14] "nth" Y (.int v) (.loc n) h=some (.nx Y,h.set n (ydl ds w v sl bf rn)):=yeT e (by decide) (by kernel_rfl!)
def yyM {w nth:Int}{sl:Bool}{bf v:List Int}{rn:Nat}(e:h[n]?=some (ydl ds w nth sl bf rn)):fL [14] "before" Y (.lst (v.map .int)) (.loc n) h=some (.nx Y,h.set n (ydl ds w nth sl v rn)):=yeT e (by decide) (by kernel_rfl!)
def ysj {w nth:Int}{sl:Bool}{rn v:Nat}(e:h[n]?=some (ydl ds w nth sl bf rn)):fL [14] "run" Y (.loc v) (.loc n) h=some (.nx Y,h.set n (ydl ds w nth sl bf v)):=yeT e (by decide) (by kernel_rfl!)
def Due (ds:List PV) (nth:Nat) (rows:List PV):Prop:=nth<ds.length/\ds[nth]?=some (.lst rows)\/nth=ds.length/\rows=[]
def ygC {n:Nat}{ds:List PV}{nth:Nat}{bf:List Int}(f1:yfT [14] "deeds" (.loc n) h=some (.lst ds,h)) (f2:yfT [12,14] "width" (.loc n) h=some (.int w,h)) (f3:yfT [14] "nth" (.loc n) h=some (.int nth,h)) (f5:yfT [14] "before" (.loc n) h=some (.lst (bf.map .int),h)) (hr:Due ds nth rows):∃ h' c',yca [.loc n] h=some (.loc c'.rn,h')/\∀ m,At h m->RR w rows m h' c' (S0 bf):=by
 obtain ⟨h',c',q1,q2⟩:=yuZ (h:=h) (w:=w) (rows:=rows) (bf:=bf);refine ⟨h',c',?_,q2⟩;unfold yca;rw [yo];show ob (yl _ _ [.val (.loc n),.no] h) fnK=_;rcases hr with ⟨h1,h2⟩|⟨h1,h2⟩
 .have e1:(((nth:Nat):Int)<(ds.length:Nat))=True:=eq_true (by omega);have e2:ybM (.lst ds) (.int (nth:Nat)) h=some (.lst rows,h):=by unfold ybM;simp only [ydp h2]
  simpa [f3,f1,f5,f2,e1,e2,q1]
 .have e1:(((nth:Nat):Int)<(ds.length:Nat))=False:=eq_false (by omega);subst h2
  simpa [f3,f1,f5,f2,e1,q1]
def yvb {bf:List Int}(A:At h (HL g rn w q own)) (hb:∀ h1,At h1 (HL g rn w { q with nth:=q.nth+1 } own)->yM [v] h1=some (.lst (bf.map .int),h1)) (hr:Due q.ds (q.nth+1) rows) :
  ∃ h' c',ydQ [.loc q.hd,v] h=some (.non,h')/\RR w rows (HL g c'.rn w { q with nth:=q.nth+1,bf:=bf } own) h' c' (S0 bf):=by
 obtain ⟨f1,f2,f3,f4,f5,f6⟩:=ydn (A.get 5 rfl);have A1:At (h.set q.hd (ydl q.ds w (q.nth+1:Nat) q.sl q.bf rn)) (HL g rn w { q with nth:=q.nth+1 } own):=At.upd (a:=[_,_,_,_,_]) _ A;have A2:At ((h.set q.hd (ydl q.ds w (q.nth+1:Nat) q.sl q.bf rn)).set q.hd (ydl q.ds w (q.nth+1:Nat) q.sl bf rn)) (HL g rn w { q with nth:=q.nth+1,bf:=bf } own):=At.upd (a:=[_,_,_,_,_]) _ A1;have s1:=fun Y=>yva (Y:=Y) (v:=((q.nth+1:Nat):Int)) (A.get 5 rfl)
 have s2:=fun Y=>yyM (Y:=Y) (v:=bf) (A1.get 5 rfl)
 have b1:=hb _ A1;obtain ⟨a1,a2,a3,a4,a5,a6⟩:=ydn (A2.get 5 rfl);obtain ⟨h',c',q1,q2⟩:=ygC a1 a2 a3 a5 hr;have R:=q2 _ A2;have B:=R.rest;have s3:=fun Y=>ysj (Y:=Y) (v:=c'.rn) (B.get 5 rfl)
 refine ⟨h'.set q.hd (ydl q.ds w (q.nth+1:Nat) q.sl bf c'.rn),c',?_,RR.urest (a:=[_,_,_,_,_]) _ R⟩;have z:((q.nth:Nat):Int)+1=((q.nth+1:Nat):Int):=by omega
 unfold ydQ;rw [yo];show ob (yl _ _ [.val (.loc q.hd),.val v] h) fnK=_
 simpa [ypQ,ycq,f3,z,s1,s2,b1,yB (m:="new_run") (A2.get 5 rfl) (by rfl'),q1,s3]
def EX (c:Lc) (w:Int) (rows:List PV) (s:RS):List (Nat×Nd):=RM w rows c s []
def yib:RM w rows c s m=EX c w rows s++m:=by unfold EX RM;simp
def RR.hl (R:RR w rows (HL g c.rn w q own) h c s):At h (HL g c.rn w q (EX c w rows s++own)):=by have A:=R.at_;rw [yib] at A;exact A.perm (show (HL g c.rn w q []++(EX c w rows s++own)).Perm _ from List.perm_append_comm_assoc _ _ _)
def ywk (e1:h[b]?=some (.ins 11 ["stack","last_seen"] [.loc st,.loc rn])) (e2:h[rn]?=some (.dct (sK m) (sA m))) (hs:sortI (sK m) (sA m)=some L):yeP [.loc b] h=some (.lst L,h):=by have e1:=yrO e1;unfold yeP;rw [yo,ynf,yzi];unfold yiZ;rw [yjI,show ye 0 ([PV.loc b].map .val++replicate (1-[PV.loc b].length) .no) h=some (.loc b,h) from rfl,ybw,e1,ybw];unfold ylx;simp only [e2,hs];rfl
noncomputable def yyN (q:HQ) (en:PV) (L laid:List PV) (bf:List Int):PV:=.tup [.int (q.i:Nat),.int (q.nth:Nat),en,.lst L,.lst laid,.lst (bf.map .int)]
def yic {bf:List Int}(A:At h (HL g c.rn w q (EX c w rows s++own))) (hi:q.cw[q.i]?=some q.hd) (hs:sortI (sK s.sn) (sA s.sn)=some L) (hb:∀ h1 q',At h1 (HL g c.rn w q' (EX c w rows s++own))->yM [v] h1=some (.lst (bf.map .int),h1)) (hr:Due q.ds (q.nth+1) rows') (hl:q.en.length<1000) :
  ∃ h' c',ycp [.loc g.H,.int (q.i:Nat),en,.lst laid,v] h=some (.non,h')/\RR w rows' (HL g c'.rn w { q with en:=q.en++[yyN q en L laid bf],nth:=q.nth+1,bf:=bf } own) h' c' (S0 bf):=by
 obtain ⟨f1,f2,f3,f4⟩:=ydm (A.get 0 rfl);obtain ⟨k1,k2,k3,k4,k5,k6⟩:=ydn (A.get 5 rfl);obtain ⟨r1,r2,r3,r4,r5,r6,r7⟩:=ycJ (A.get 6 rfl);have i2:=ynx A hi;have een:h[g.en]?=some (.lst q.en):=A.get 4 rfl;have A1:At (h.set g.en (.lst (q.en++[yyN q en L laid bf]))) (HL g c.rn w { q with en:=q.en++[yyN q en L laid bf] } (EX c w rows s++own)):=At.upd (a:=[_,_,_,_]) _ A;obtain ⟨h',c',q1,q2⟩:=yvb (v:=v) (bf:=bf) A1 (fun h1 a=>hb h1 _ a) hr;refine ⟨h',c',?_,q2.sub ((((((List.sublist_append_right _ _).cons₂ _).cons₂ _).cons₂ _).cons₂ _).cons₂ _ |>.cons₂ _)⟩;have ea:yeN (.loc g.en) [.tup [.int (q.i:Nat),.int (q.nth:Nat),en,.lst L,.lst laid,.lst (bf.map .int)]] h=some (.non,h.set g.en (.lst (q.en++[yyN q en L laid bf]))):=ynj een (by omega);have b1:=hb _ _ A;have sw:=ywk (A.get 8 rfl) (A.get 10 rfl) hs;unfold ycp;rw [yo];show ob (yl _ _ [.val (.loc g.H),.val (.int (q.i:Nat)),.val en,.val (.lst laid),.val v,.no] h) fnK=_
 simpa [ycq,f3,i2,f4,ycN een,k3,k6,r3,yB (m:="saw") (A.get 8 rfl) (by rfl'),sw,b1,ea,yB (m:="go_on") (A1.get 5 rfl) (by rfl'),q1]
def ypD:(("lay":Str) = "take")=False:=eq_false (by rfl')
def ypE:(("lay":Str) = "wait")=False:=eq_false (by rfl')
def yny:(("lay":Str) = "throw")=False:=eq_false (by rfl')
def ysk (R:RR w rows (HL g c.rn w q own) h c s) (hi:q.cw[q.i]?=some q.hd) (er:rows[s.t]?=some (yT (.throw a b))) (hw:1<=w) (hn:q.nth<q.ds.length) (hs:q.sl=false) (ok:okS s=true) (okr:okR (.throw a b)=true) (hlk:yhc w s (.throw a b)=true) (F:NF q.sp.length s) (fr:stB s.sn q.sp=false) (hL:sortI (sK s.sn) (sA s.sn)=some L) (hr:Due q.ds (q.nth+1) rows') (hl:q.en.length<1000) :
  ∃ h' c',yw [.loc g.H,.int (q.i:Nat)] h=some (.tup [.str "fell",.int s.t],h')/\RR w rows' (HL g c'.rn w { q with en:=q.en++[yyN q (.tup [.str "fell",.str a,.int (s.hs.getD (sx b) 0)]) L [] q.bf],nth:=q.nth+1 } own) h' c' (S0 q.bf):=by
 obtain ⟨h8,o2,o3,o4,o5⟩:=ygP ok;have A:=R.hl;have hb:b∈SL:=by simpa [okR] using okr
 obtain ⟨h',c',q1,q2⟩:=yic (en:=.tup [.str "fell",.str a,.int (s.hs.getD (sx b) 0)]) (v:=.lst (q.bf.map .int)) (laid:=[]) (bf:=q.bf) A hi hL (fun h1 _ _=>rfl) hr hl;refine ⟨h',c',?_,q2⟩;rw [ygi R hi er hw hn hs ok okr hlk F fr];obtain ⟨f1,f2,f3,f4,f5,f6⟩:=ydn (A.get 5 rfl);obtain ⟨g1,g2,g3,g4⟩:=ydm (A.get 0 rfl);have i2:=ynx A hi;have i3:=ydc R.run R.held h8 hb;have i4:∀ h,ybx (yT (.throw a b)) (.int 0) h=some (.str "throw",h):=fun _=>rfl
 have i5:∀ h,ybx (yT (.throw a b)) (.int 1) h=some (.str a,h):=fun _=>rfl
 have i6:∀ h,ybx (yT (.throw a b)) (.int 2) h=some (.str b,h):=fun _=>rfl
 unfold yN;rw [yo];show ob (ob (yl _ _ [.val (.loc g.H),.val (.int (q.i:Nat)),.val (.int s.t),.no,.no,.no] h) fnK) _=_
 simpa [ycq,g3,i2,f6,yB (m:="row") R.run (by rfl'),yhX R.run rfl er,i4,i5,i6,ylP,ygM,yB (m:="held_in") R.run (by rfl'),i3,f5,yB (m:="end_deed") (A.get 0 rfl) (by rfl'),q1]
end
def ycR (p:Nat×Int):PV:=.tup [.int (p.1:Nat),.int p.2]
def yvc:List Int->List (Nat×Int)->List Int
 | bx,[]=>bx
 | bx,p::r=>yvc (bx.set p.1 p.2) r
def ypR:List Int->List (Nat×Int)->List Int
 | sp,[]=>sp
 | sp,p::r=>ypR (sp.set p.1 (sp.getD p.1 0+1)) r
theorem yoH:∀ (l:List (Nat×Int)) (bx:List Int),(yvc bx l).length=bx.length
 | [],_=>rfl
 | p::r,bx=>by show (yvc (bx.set p.1 p.2) r).length=_;rw [yoH r,length_set]
theorem ykr:∀ (l:List (Nat×Int)) (bx:List Int),(ypR bx l).length=bx.length
 | [],_=>rfl
 | p::r,bx=>by show (ypR (bx.set p.1 (bx.getD p.1 0+1)) r).length=_;rw [ykr r,length_set]
section
variable {h:AH}{w:Int}{rows rows':List PV}{c:Lc}{s s':RS}{r:Rw}{g:HC}{q:HQ}{own:List (Nat×Nd)}{rn:Nat}
def ysl {xs:List Int}(e1:ev Y h=some (.int v,h)) (e2:eo Y h=some (.loc n,h)) (e3:ei Y h=some (.int (k:Nat),h)) (e:h[n]?=some (.lst (xs.map .int))) (hk:k<xs.length):ygZ eo ei ev Y h=some (.nx Y,h.set n (.lst ((xs.set k v).map .int))):=by
 have e':ixN (xs.map PV.int).length (k:Nat)=some k:=by unfold ixN;simp [hk]
 unfold ygZ;rw [e1,ybw,e2,ybw,e3,ybw];simp only [e,e'];rw [map_set]
def ynz (e1:G x Y=some Y1) (e2:S Y1 h=some (.nx Y2,h1)):yeL G S (x::xs) Y h=yeL G S xs Y2 h1:=by show (G x Y).bind _=_;rw [e1,bind_some,e2];rfl
theorem yoI:∀ (l:List (Nat×Int)) (q:HQ) (h:AH) (v4 v5:PVar),At h (HL g rn w q own)->(∀ p∈l,p.1<q.bx.length)->q.sp.length=q.bx.length ->
  ∃ h' v4' v5',yeL (yn 4) ldB (l.map ycR) [.val (.loc g.H),v1,v2,v3,v4,v5] h=some (.nx [.val (.loc g.H),v1,v2,v3,v4',v5'],h')/\At h' (HL g rn w { q with bx:=yvc q.bx l,sp:=ypR q.sp l } own)
 | [],q,h,v4,v5,A,_,_=>⟨h,v4,v5,rfl,A⟩
 | p::l,q,h,v4,v5,A,hb,hs=>by
  have hp:=hb p mem_cons_self;obtain ⟨g1,g2,g3,g4⟩:=ydm (A.get 0 rfl);have A1:At (h.set g.nu (.lst ((q.bx.set p.1 p.2).map .int))) (HL g rn w { q with bx:=q.bx.set p.1 p.2 } own):=At.upd (a:=[_]) _ A;have A2:At ((h.set g.nu (.lst ((q.bx.set p.1 p.2).map .int))).set g.ma (.lst ((q.sp.set p.1 (q.sp.getD p.1 0+1)).map .int))) (HL g rn w { q with bx:=q.bx.set p.1 p.2,sp:=q.sp.set p.1 (q.sp.getD p.1 0+1) } own):=At.upd (a:=[_,_]) _ A1;obtain ⟨t1,t2,t3,t4⟩:=ydm (A1.get 0 rfl);have s1:=ysl (h:=h) (xs:=q.bx) (k:=p.1) (v:=p.2) (eo:=ybb [15] "numbers" (ye 0)) (ei:=ye 5) (ev:=xOp (ybx) (ye 4) (xC (.int 1))) (Y:=[.val (.loc g.H),v1,v2,v3,.val (ycR p),.val (.int (p.1:Nat))]) rfl (by simpa [g1]) rfl (A.get 1 rfl) hp;have s2:=ysl (h:=h.set g.nu (.lst ((q.bx.set p.1 p.2).map .int))) (xs:=q.sp) (k:=p.1) (v:=q.sp.getD p.1 0+1) (eo:=ybb [15] "marks" (ye 0)) (ei:=ye 5) (ev:=xOp yfd (xOp (ybM) (ybb [15] "marks" (ye 0)) (ye 5)) (xC (.int 1))) (Y:=[.val (.loc g.H),v1,v2,v3,.val (ycR p),.val (.int (p.1:Nat))]) (by
   have i3:=yfK (A1.get 2 rfl) (show p.1<q.sp.length by omega)
   simpa [t2,i3]) (by simpa [t2]) rfl (A1.get 2 rfl) (by omega)
  have i0:∀ h,ybx (ycR p) (.int 0) h=some (.int (p.1:Nat),h):=fun _=>rfl
  have bd:ldB [.val (.loc g.H),v1,v2,v3,.val (ycR p),v5] h=some (.nx [.val (.loc g.H),v1,v2,v3,.val (ycR p),.val (.int (p.1:Nat))],(h.set g.nu (.lst ((q.bx.set p.1 p.2).map .int))).set g.ma (.lst ((q.sp.set p.1 (q.sp.getD p.1 0+1)).map .int))):=by
   unfold ldB
   simpa [i0,s1,s2]
  obtain ⟨h',a,b,e1,e2⟩:=yoI (v1:=v1) (v2:=v2) (v3:=v3) l _ _ (.val (ycR p)) (.val (.int (p.1:Nat))) A2 (fun x hx=>by show x.1<(q.bx.set p.1 p.2).length;rw [length_set];exact hb x (mem_cons_of_mem _ hx)) (by show (q.sp.set _ _).length=(q.bx.set _ _).length;rw [length_set,length_set];exact hs);refine ⟨h',a,b,?_,e2⟩;show yeL _ _ (ycR p::l.map ycR) _ h=_;rw [ynz (by kernel_rfl!) bd];exact e1
def yvd (G:LG h o st b [l0] [d] ks xs) (hs:sortI d.1 d.2=some L):yeu [.loc o] h=some (.lst L,h):=by
 have e1:=yfI G.ob;have e2:=G.st;have e3:h[l0]?=some (.dct d.1 d.2):=G.dl.1;have i2:ybM (.loc st) (.int 0) h=some (.loc l0,h):=by unfold ybM;simp only [e2];rfl
 unfold yeu;rw [yo];show ob (yl _ _ [.val (.loc o),.no] h) fnK=_
 simpa [e1,i2]
 unfold yiZ;symm;unfold ylx;simp only [e3,hs];rfl
def yBK {l:List (Nat×Int)}(R:RR w rows (HL g c.rn w q own) h c s) (hi:q.cw[q.i]?=some q.hd) (ed:s.dd=[d]) (hd:sortI d.1 d.2=some (l.map ycR)) (hb:∀ p∈l,p.1<q.bx.length) (hsp:q.sp.length=q.bx.length) (hL:sortI (sK s.sn) (sA s.sn)=some L) (hr:Due q.ds (q.nth+1) rows') (hl:q.en.length<1000) :
  ∃ h1 c',(∀ h2,ybv [.loc g.H] h1=some (.non,h2)->ycQ [.loc g.H,.int (q.i:Nat)] h=some (.non,h2))/\RR w rows' (HL g c'.rn w { q with bx:=yvc q.bx l,sp:=ypR q.sp l,en:=q.en++[yyN q (.tup [.str "done"]) L (l.map ycR) s.hs],nth:=q.nth+1,bf:=s.hs } own) h1 c' (S0 s.hs):=by
 have A:=R.hl;obtain ⟨l0,el⟩:∃ l0,c.ly=[l0]:=by have:=R.len;rw [ed] at this;exact List.length_eq_one_iff.mp this
 have G:=R.lg;rw [el,ed] at G;have wr:=yvd G hd;obtain ⟨g1,g2,g3,g4⟩:=ydm (A.get 0 rfl);obtain ⟨k1,k2,k3,k4,k5,k6⟩:=ydn (A.get 5 rfl);obtain ⟨r1,r2,r3,r4,r5,r6,r7⟩:=ycJ R.run;have i2:=ynx A hi;obtain ⟨h3,v4,v5,lp,A2⟩:=yoI (v1:=.val (.int (q.i:Nat))) (v2:=.val (.loc c.rn)) (v3:=.val (.lst (l.map ycR))) l q h .no .no A hb hsp;obtain ⟨h',c',q1,q2⟩:=yic (en:=.tup [.str "done"]) (v:=.loc c.hl) (laid:=l.map ycR) (bf:=s.hs) A2 hi hL (fun h1 q' a=>yeo (a.get 7 rfl)) hr hl;refine ⟨h',c',fun h2 wk=>?_,q2⟩;obtain ⟨u1,u2,u3,u4,u5,u6,u7⟩:=ycJ (A2.get 6 rfl);have i7:xIL (ye 3) [.val (.loc g.H),.val (.int (q.i:Nat)),.val (.loc c.rn),.val (.lst (l.map ycR)),.no,.no] h=some (l.map ycR,h):=yrN rfl;unfold ycQ;rw [yo];show ob (yl _ (yl _ (yl (yhm (xIL (ye 3)) _ ldB) _)) [.val (.loc g.H),.val (.int (q.i:Nat)),.no,.no,.no,.no] h) fnK=_
 simpa [ycq,g3,i2,k6,r3,yB (m:="wrote") R.lg.ob (by rfl'),wr,i7,lp,u1,yB (m:="end_deed") (A2.get 0 rfl) (by rfl'),q1,yB (m:="wake_stale") (q2.rest.get 0 rfl) (by rfl'),wk]
def ysm {l:List (Nat×Int)}(R:RR w rows (HL g c.rn w q own) h c s) (hi:q.cw[q.i]?=some q.hd) (er:rows[s.t]?=some (yT .lay)) (hw:1<=w) (hn:q.nth<q.ds.length) (hs:q.sl=false) (ok:okS s=true) (F:NF q.sp.length s) (fr:stB s.sn q.sp=false) (ed:s.dd=[d]) (hd:sortI d.1 d.2=some (l.map ycR)) (hb:∀ p∈l,p.1<q.bx.length) (hsp:q.sp.length=q.bx.length) (hL:sortI (sK s.sn) (sA s.sn)=some L) (hr:Due q.ds (q.nth+1) rows') (hl:q.en.length<1000) :
  ∃ h1 c',(∀ h2,ybv [.loc g.H] h1=some (.non,h2)->yw [.loc g.H,.int (q.i:Nat)] h=some (.tup [.str "done",.int s.t],h2))/\RR w rows' (HL g c'.rn w { q with bx:=yvc q.bx l,sp:=ypR q.sp l,en:=q.en++[yyN q (.tup [.str "done"]) L (l.map ycR) s.hs],nth:=q.nth+1,bf:=s.hs } own) h1 c' (S0 s.hs):=by
 obtain ⟨h',c',q1,q2⟩:=yBK R hi ed hd hb hsp hL hr hl;refine ⟨h',c',fun h2 wk=>?_,q2⟩;have q1:=q1 h2 wk;rw [ygi R hi er hw hn hs ok rfl rfl F fr];have A:=R.rest;obtain ⟨f1,f2,f3,f4,f5,f6⟩:=ydn (A.get 5 rfl);obtain ⟨g1,g2,g3,g4⟩:=ydm (A.get 0 rfl);have i2:=ynx A hi;have i4:∀ h,ybx (yT .lay) (.int 0) h=some (.str "lay",h):=fun _=>rfl
 unfold yN;rw [yo];show ob (ob (yl _ _ [.val (.loc g.H),.val (.int (q.i:Nat)),.val (.int s.t),.no,.no,.no] h) fnK) _=_
 simpa [ycq,g3,i2,f6,yB (m:="row") R.run (by rfl'),yhX R.run rfl er,i4,ypD,ypE,yny,yB (m:="lay_down") (A.get 0 rfl) (by rfl'),q1]
def ysn (R:RR w rows (HL g c.rn w q own) h c s) (hr:Due q.ds q.nth rows'):∃ h' c',ybP [.loc q.hd] h=some (.non,h')/\RR w rows' (HL g c'.rn w { q with sl:=false } own) h' c' (S0 q.bf):=by
 have A:=R.rest;have A1:At (h.set q.hd (ydl q.ds w q.nth false q.bf c.rn)) (HL g c.rn w { q with sl:=false } own):=At.upd (a:=[_,_,_,_,_]) _ A;have s1:=fun Y=>ysi (Y:=Y) (v:=false) (A.get 5 rfl)
 obtain ⟨a1,a2,a3,a4,a5,a6⟩:=ydn (A1.get 5 rfl);obtain ⟨h',c',q1,q2⟩:=ygC a1 a2 a3 a5 hr;have R':=q2 _ A1;have B:=R'.rest;have s3:=fun Y=>ysj (Y:=Y) (v:=c'.rn) (B.get 5 rfl)
 refine ⟨h'.set q.hd (ydl q.ds w q.nth false q.bf c'.rn),c',?_,RR.urest (a:=[_,_,_,_,_]) _ R'⟩;unfold ybP;rw [yo];show ob (yl _ _ [.val (.loc q.hd)] h) fnK=_
 simpa [ypQ,ycq,s1,yB (m:="new_run") (A1.get 5 rfl) (by rfl'),q1,s3]
def yso (R:RR w rows (HL g c.rn w q own) h c s) (hi:q.cw[q.i]?=some q.hd) (er:rows[s.t]?=some (yT r)) (hw:1<=w) (hn:q.nth<q.ds.length) (hs:q.sl=false) (ok:okS s=true) (okr:okR r=true) (hlk:yhc w s r=true) (F:NF q.sp.length s) (fr:stB s.sn q.sp=true) (hr:Due q.ds q.nth rows') :
  ∃ h' c',yw [.loc g.H,.int (q.i:Nat)] h=some (.tup [.str "anew",.int s.t],h')/\RR w rows' (HL g c'.rn w { q with sl:=false } own) h' c' (S0 q.bf):=by
 obtain ⟨h',c',q1,q2⟩:=ysn R hr;refine ⟨h',c',?_,q2⟩;have A:=R.rest;obtain ⟨f1,f2,f3,f4,f5,f6⟩:=ydn (A.get 5 rfl);obtain ⟨g1,g2,g3,g4⟩:=ydm (A.get 0 rfl);obtain ⟨k1,k2,k3,k4,k5,k6,k7⟩:=ycJ R.run;have st:=yfg A;rw [awake hn hs] at st;have lk:=ynv R er ok okr hw;rw [hlk] at lk;have sl:=ykq (ma:=g.ma) (sp:=q.sp) R (mem_of_getElem? (i:=2) rfl) F.nd F.hb F.hl;rw [fr] at sl;unfold yw;rw [yo];show ob (yl _ _ [.val (.loc g.H),.val (.int (q.i:Nat)),.no,.no] h) fnK=_
 simpa [ycq,yB (m:="hand_at") (A.get 0 rfl) (by rfl'),yej A hi,yB (m:="state") (A.get 5 rfl) (by rfl'),st,f6,k5,yB (m:="is_looked_over") R.run (by rfl'),lk,g2,yB (m:="is_stale") R.run (by rfl'),sl,yB (m:="begin_anew") (A.get 5 rfl) (by rfl'),q1]
end
structure HD where
 ds:List PV
 nth:Nat
 sl:Bool
 bf:List Int
 rows:List PV
 s:RS
def HN (w:Int) (a:Nat×Lc) (x:HD) (m:List (Nat×Nd)):List (Nat×Nd):=(a.1,ydl x.ds w x.nth x.sl x.bf a.2.rn)::RM w x.rows a.2 x.s m
def CR (w:Int):List (Nat×Lc)->List HD->List (Nat×Nd)->List (Nat×Nd)
 | a::as,x::xs,m=>HN w a x (CR w as xs m)
 | _,_,m=>m
def LyOk:List (Nat×Lc)->List HD->Prop
 | a::as,x::xs=>a.2.ly.length=x.s.dd.length/\LyOk as xs
 | [],[]=>True
 | _,_=>False
noncomputable def H5 (g:HC) (bx sp:List Int) (en:List PV) (cw:List Nat):List (Nat×Nd):=[(g.H,yuL g.nu g.ma g.cr g.en),(g.nu,.lst (bx.map .int)),(g.ma,.lst (sp.map .int)),(g.cr,.lst (cw.map .loc)),(g.en,.lst en)]
structure HH (h:AH) (g:HC) (w:Int) (bx sp:List Int) (en:List PV) (as:List (Nat×Lc)) (xs:List HD) (own:List (Nat×Nd)):Prop where
 at_:At h (H5 g bx sp en (as.map (·.1))++CR w as xs own)
 ly:LyOk as xs
def qOf (bx sp:List Int) (en:List PV) (cw:List Nat) (i hd:Nat) (x:HD):HQ:=⟨bx,sp,en,cw,i,hd,x.ds,x.nth,x.sl,x.bf⟩
section
variable {h:AH}{w:Int}{g:HC}{bx sp:List Int}{en:List PV}{as as1 as2:List (Nat×Lc)}{xs xs1 xs2:List HD}{a:Nat×Lc}{x x':HD}{own m:List (Nat×Nd)}{c:Lc}
def ygQ:HN w a x m=HN w a x []++m:=by unfold HN;rw [yib,yib,append_nil];rfl
theorem yks:∀ {as1:List (Nat×Lc)}{xs1:List HD},as1.length=xs1.length->(CR w (as1++a::as2) (xs1++x::xs2) m).Perm (HN w a x (CR w as1 xs1 (CR w as2 xs2 m)))
 | [],[],_=>.refl _
 | b::as1,y::xs1,e=>by show (HN w b y (CR w (as1++a::as2) (xs1++x::xs2) m)).Perm (HN w a x (HN w b y (CR w as1 xs1 (CR w as2 xs2 m))));have ih:=yks (as1:=as1) (xs1:=xs1) (by simpa using e);rw [ygQ (a:=b),ygQ (a:=a) (m:=HN w b y _),ygQ (a:=b) (m:=CR w as1 xs1 _)];refine (ih.append_left _).trans ?_;rw [ygQ (a:=a)];exact List.perm_append_comm_assoc _ _ _
theorem LyOk.split:∀ {as1:List (Nat×Lc)}{xs1:List HD},as1.length=xs1.length->(LyOk (as1++a::as2) (xs1++x::xs2) ↔ LyOk as1 xs1/\a.2.ly.length=x.s.dd.length/\LyOk as2 xs2)
 | [],[],_=>⟨fun k=>⟨trivial,k⟩,fun k=>k.2⟩
 | b::as1,y::xs1,e=>by have ih:=LyOk.split (as1:=as1) (xs1:=xs1) (by simpa using e);show _/\LyOk (as1++a::as2) (xs1++x::xs2) ↔ (_/\LyOk as1 xs1)/\_;rw [ih,and_assoc]
def yBL {q:HQ}:(H5 g q.bx q.sp q.en q.cw++((q.hd,ydl q.ds w q.nth q.sl q.bf rn)::RM w rows c s m)).Perm (RM w rows c s (HL g rn w q m)):=by rw [yib,yib];refine .trans ?_ (show (H5 g q.bx q.sp q.en q.cw++(EX c w rows s++((q.hd,ydl q.ds w q.nth q.sl q.bf rn)::m))).Perm (EX c w rows s++HL g rn w q m) from List.perm_append_comm_assoc _ _ _);exact (List.perm_middle.symm).append_left _
def HH.foc (X:HH h g w bx sp en (as1++a::as2) (xs1++x::xs2) own) (l:as1.length=xs1.length):RR w x.rows (HL g a.2.rn w (qOf bx sp en ((as1++a::as2).map (·.1)) as1.length a.1 x) (CR w as1 xs1 (CR w as2 xs2 own))) h a.2 x.s:=by refine ⟨?_,((LyOk.split l).mp X.ly).2.1⟩;exact X.at_.perm (((yks l).append_left _).trans (yBL (q:=qOf bx sp en _ _ _ _))).symm
def HH.unf (L:LyOk (as1++a::as2) (xs1++x::xs2)) (l:as1.length=xs1.length) (R:RR w x'.rows (HL g c.rn w (qOf bx' sp' en' ((as1++a::as2).map (·.1)) as1.length a.1 x') (CR w as1 xs1 (CR w as2 xs2 own))) h c x'.s):HH h g w bx' sp' en' (as1++(a.1,c)::as2) (xs1++x'::xs2) own:=by
 obtain ⟨l1,l2,l3⟩:=(LyOk.split l).mp L;refine ⟨?_,(LyOk.split l).mpr ⟨l1,R.len,l3⟩⟩;have e:(as1++(a.1,c)::as2).map (·.1)=(as1++a::as2).map (·.1):=by simp
 rw [e];exact R.at_.perm (((yks l).append_left _).trans (yBL (q:=qOf bx' sp' en' _ _ _ _)))
def ykt:((as1++a::as2).map (·.1))[as1.length]?=some a.1:=by simp
def asB (x:HD):Bool:=decide (x.nth≠x.ds.length) && x.sl
def yfL (sp:List Int) (x:HD):HD:=if (asB x && stB x.s.sn sp)=true then { x with sl:=false,s:=S0 x.bf } else x
def yiF:(("ended":Str) = "asleep")=False:=eq_false (by rfl')
def yiG:(("awake":Str) = "asleep")=False:=eq_false (by rfl')
def yBM (X:HH h g w bx sp en (as1++a::as2) (xs1++x::xs2) own) (l:as1.length=xs1.length) (hr:Due x.ds x.nth x.rows) (F:NF sp.length x.s):∃ h' c',wkB [.val (.loc g.H),.val (.loc a.1)] h=some (.nx [.val (.loc g.H),.val (.loc a.1)],h')/\HH h' g w bx sp en (as1++(a.1,c')::as2) (xs1++yfL sp x::xs2) own:=by
 have R:=X.foc l;have A:=R.rest;have st:=yfg A;obtain ⟨g1,g2,g3,g4⟩:=ydm (A.get 0 rfl);have hh:h[a.1]?=some (ydl x.ds w x.nth x.sl x.bf a.2.rn):=A.get 5 rfl;have f6:=(ydn hh).2.2.2.2.2;have sl:=ykq (ma:=g.ma) (sp:=sp) R (mem_of_getElem? (i:=2) rfl) F.nd F.hb F.hl;have r0:=R.run
 by_cases e:x.nth=x.ds.length
 .have st':stN (qOf bx sp en ((as1++a::as2).map (·.1)) as1.length a.1 x) = "ended":=if_pos e;rw [st'] at st;have e':yfL sp x=x:=by unfold yfL asB;simp [e]
  rw [e'];refine ⟨h,a.2,?_,X⟩;unfold wkB;dsimp only [qOf] at st
  simpa [ycq,yB (m:="state") hh (by rfl'),st,yiF]
 .cases es:x.sl with
  | false =>
   have st':stN (qOf bx sp en ((as1++a::as2).map (·.1)) as1.length a.1 x) = "awake":=(if_neg e).trans (if_neg (by rw [show (qOf bx sp en ((as1++a::as2).map (·.1)) as1.length a.1 x).sl=x.sl from rfl,es];decide));rw [st'] at st;have e':yfL sp x=x:=by unfold yfL asB;simp [es]
   rw [e'];refine ⟨h,a.2,?_,X⟩;unfold wkB;dsimp only [qOf] at st
   simpa [ycq,yB (m:="state") hh (by rfl'),st,yiG]
  | true =>
   have st':stN (qOf bx sp en ((as1++a::as2).map (·.1)) as1.length a.1 x) = "asleep":=(if_neg e).trans (if_pos (by rw [show (qOf bx sp en ((as1++a::as2).map (·.1)) as1.length a.1 x).sl=x.sl from rfl,es]));rw [st'] at st;dsimp only [qOf] at st;cases eb:stB x.s.sn sp with
   | false =>
    have e':yfL sp x=x:=by unfold yfL;simp [eb]
    rw [e'];rw [eb] at sl;refine ⟨h,a.2,?_,X⟩;unfold wkB
    simpa [ycq,yB (m:="state") hh (by rfl'),st,f6,g2,yB (m:="is_stale") r0 (by rfl'),sl]
   | true =>
    have e':yfL sp x={ x with sl:=false,s:=S0 x.bf }:=if_pos (by unfold asB;simp [e,es,eb]);rw [e'];rw [eb] at sl;obtain ⟨h',c',q1,R'⟩:=ysn R (show Due (qOf bx sp en ((as1++a::as2).map (·.1)) as1.length a.1 x).ds (qOf bx sp en ((as1++a::as2).map (·.1)) as1.length a.1 x).nth x.rows from hr);refine ⟨h',c',?_,HH.unf (x':={ x with sl:=false,s:=S0 x.bf }) X.ly l R'⟩;dsimp only [qOf] at q1;unfold wkB
    simpa [ycq,yB (m:="state") hh (by rfl'),st,f6,g2,yB (m:="is_stale") r0 (by rfl'),sl,yB (m:="begin_anew") hh (by rfl'),q1]
def yCs (W:Nat) (x:HD):Prop:=Due x.ds x.nth x.rows/\NF W x.s
theorem LyOk.len:∀ {as:List (Nat×Lc)}{xs:List HD},LyOk as xs->as.length=xs.length
 | [],[],_=>rfl
 | _::_,_::_,k=>by rw [length_cons,length_cons,LyOk.len k.2]
theorem LyOk.app:∀ {as1 as2:List (Nat×Lc)}{xs1 xs2:List HD},as1.length=xs1.length->LyOk (as1++as2) (xs1++xs2)->LyOk as2 xs2
 | [],_,[],_,_,k=>k
 | _::_,_,_::_,_,e,k=>LyOk.app (by simpa using e) k.2
theorem ysp:∀ (as2:List (Nat×Lc)) (xs2:List HD) (as1:List (Nat×Lc)) (xs1:List HD) (h:AH) (v:PVar),HH h g w bx sp en (as1++as2) (xs1++xs2) own->as1.length=xs1.length->(∀ x∈xs2,yCs sp.length x) ->
  ∃ h' as' v',yms g.cr false (yn 1) wkB as2.length as1.length [.val (.loc g.H),v] h=some (.nx [.val (.loc g.H),v'],h')/\HH h' g w bx sp en (as1++as') (xs1++xs2.map (yfL sp)) own/\as'.map (·.1)=as2.map (·.1)
 | [],xs2,as1,xs1,h,v,X,l,_=>by have e:h[g.cr]?=some (.lst (((as1++([]:List (Nat×Lc))).map (fun a=>a.1)).map .loc)):=X.at_.get 3 rfl;have l2:=(LyOk.app l X.ly).len;have:xs2=[]:=List.length_eq_zero_iff.mp l2.symm;subst this;refine ⟨h,[],v,?_,X,rfl⟩;show yms g.cr false (yn 1) wkB 0 as1.length _ h=_;unfold yms;simp only [e];rw [if_pos (by simp)]
 | a::as2,[],as1,xs1,h,v,X,l,_=>by have l2:=(LyOk.app l X.ly).len;cases l2
 | a::as2,x::xs2,as1,xs1,h,v,X,l,hx=>by
  have e:h[g.cr]?=some (.lst (((as1++a::as2).map (·.1)).map .loc)):=X.at_.get 3 rfl;obtain ⟨h1,c1,q1,X1⟩:=yBM X l (hx x mem_cons_self).1 (hx x mem_cons_self).2;obtain ⟨h',as',v',q2,X2,em⟩:=ysp as2 xs2 (as1++[(a.1,c1)]) (xs1++[yfL sp x]) h1 (.val (.loc a.1)) (by rw [append_assoc,append_assoc];exact X1) (by simp [l]) (fun y hy=>hx y (mem_cons_of_mem _ hy));refine ⟨h',(a.1,c1)::as',v',?_,by rw [append_assoc,append_assoc] at X2;exact X2,by simp [em]⟩;rw [length_append] at q2;have y1:yn 1 (.loc a.1) [.val (.loc g.H),v]=some [.val (.loc g.H),.val (.loc a.1)]:=rfl;have ei:(((as1++a::as2).map (·.1)).map PV.loc)[as1.length]?=some (.loc a.1):=by rw [getElem?_map,ykt];rfl
  show yms g.cr false (yn 1) wkB (as2.length+1) as1.length _ h=_;unfold yms;simp only [e,Bool.false_eq_true,if_false,ei,y1,bind_some,q1,ybw];exact q2
def yyO (X:HH h g w bx sp en as xs own) (hx:∀ x∈xs,yCs sp.length x):∃ h' as',ybv [.loc g.H] h=some (.non,h')/\HH h' g w bx sp en as' (xs.map (yfL sp)) own/\as'.map (·.1)=as.map (·.1):=by
 obtain ⟨h',as',v',q1,q2,q3⟩:=ysp as xs [] [] h .no X rfl hx;refine ⟨h',as',?_,q2,q3⟩;obtain ⟨g1,g2,g3,g4⟩:=ydm (X.at_.get 0 rfl);have e:h[g.cr]?=some (.lst ((as.map (·.1)).map .loc)):=X.at_.get 3 rfl;unfold ybv;rw [yo];show ob (yjU false _ (yn 1) wkB [.val (.loc g.H),.no] h) fnK=_;unfold yjU
 simpa [g3]
 simp only [e];rw [length_map,length_map];exact (congrArg (fun o=>ob o fnK) q1).trans rfl
end
section
variable {h:AH}{w:Int}{g:HC}{bx sp:List Int}{en:List PV}{as as1 as2:List (Nat×Lc)}{xs xs1 xs2:List HD}{a:Nat×Lc}{x x':HD}{own m:List (Nat×Nd)}{c:Lc}{s s':RS}{r:Rw}
def ysq {m:List (Nat×Int×Int)}(hp:p∈ydE m k u v):p=(k,u,v)\/p∈m:=by
 unfold ydE at hp;split at hp
 .obtain ⟨q,hq,e⟩:=List.mem_map.mp hp;split at e
  .exact .inl e.symm
  .exact .inr (e ▸ hq)
 .rcases List.mem_append.mp hp with z|z
  .exact .inr z
  .exact .inl (List.mem_singleton.mp z)
def yoJ (m:List (Nat×Int×Int)) (k:Nat) (u v:Int):(ydE m k u v).map (·.1)=if k∈m.map (·.1) then m.map (·.1) else m.map (·.1)++[k]:=by
 unfold ydE;split
 .rw [map_map];refine List.map_congr_left fun p _=>?_
  show (if p.1=k then (k,u,v) else p).1=p.1;split
  .rename_i e;exact e.symm
  .rfl
 .simp
theorem yid:∀ (W:Nat) (l:List Nat),l.Nodup->(∀ k∈l,k<W)->l.length<=W
 | 0,l,_,hb=>by
  cases l with
  | nil=>simp
  | cons a _=>exact absurd (hb a mem_cons_self) (by omega)
 | W+1,l,nd,hb=>by
  by_cases e:W∈l
  .have:=yid W (l.erase W) (nd.erase W) fun k hk=>by have h1:=hb k (List.mem_of_mem_erase hk);have h2:k≠W:=(List.Nodup.mem_erase_iff nd).mp hk |>.1;omega
   rw [List.length_erase_of_mem e] at this;omega
  .have:=yid W l nd fun k hk=>by
    have h1:=hb k hk;have:k≠W:=fun z=>e (z ▸ hk)
    omega
   omega
def NF.put (F:NF W s) (hk:k<W) (hW:W<=16) :NF W ⟨t,hs,s.sd,s.dd,ydE s.sn k u v⟩:=by
 have nd:((ydE s.sn k u v).map (·.1)).Nodup:=by
  rw [yoJ];split
  .exact F.nd
  .rename_i e;rw [List.nodup_append];exact ⟨F.nd,by simp,fun x hx y hy z=>by rw [List.mem_singleton.mp hy] at z;exact e (z ▸ hx)⟩
 have hb:∀ p∈ydE s.sn k u v,p.1<W:=fun p hp=>by
  rcases ysq hp with rfl|hp
  .exact hk
  .exact F.hb p hp
 refine ⟨nd,hb,?_⟩;have:=yid W _ nd fun x hx=>by obtain ⟨p,hp,rfl⟩:=List.mem_map.mp hx;exact hb p hp
 rw [length_map] at this;show (ydE s.sn k u v).length<=900;omega
def yjj {rws:List Rw}{t:Nat}(er:rws[t]?=some r):(rws.map yT)[t]?=some (yT r):=by rw [getElem?_map,er];rfl
def stX (x:HD):Str:=if x.nth=x.ds.length then "ended" else if x.sl=true then "asleep" else "awake"
def yEc (X:HH h g w bx sp en (as1++a::as2) (xs1++x::xs2) own) (l:as1.length=xs1.length) (hs:(stX x = "awake")=False):yw [.loc g.H,.int (as1.length:Nat)] h=some (.tup [.str "idle"],h):=ysf (q:=qOf bx sp en _ as1.length a.1 x) (X.foc l).rest (by exact ykt) hs
def yBN {rws:List Rw}(X:HH h g bx.length bx sp en (as1++a::as2) (xs1++x::xs2) own) (l:as1.length=xs1.length) (hbs:sp.length=bx.length) (h1:1<=bx.length) (hr:x.rows=rws.map yT) (hn:x.nth<x.ds.length) (hs:x.sl=false) (F:NF bx.length x.s) (fr:stB x.s.sn sp=false) (er:rws[x.s.t]?=some .wait) (ok:okS x.s=true) (lk:yhc bx.length x.s .wait=true) :
  ∃ h',yw [.loc g.H,.int (as1.length:Nat)] h=some (.tup [.str "asleep",.int x.s.t],h')/\HH h' g bx.length bx sp en (as1++a::as2) (xs1++{ x with sl:=true }::xs2) own:=by
 have R:=X.foc l;obtain ⟨h',q1,R'⟩:=ypC (q:=qOf bx sp en _ as1.length a.1 x) R (by exact ykt) (by rw [hr];exact yjj er) (by omega) hn hs ok lk (show NF sp.length x.s by rw [hbs];exact F) fr;exact ⟨h',q1,HH.unf (x':={ x with sl:=true }) X.ly l R'⟩
def yEd {rws:List Rw}(X:HH h g bx.length bx sp en (as1++a::as2) (xs1++x::xs2) own) (l:as1.length=xs1.length) (h1:1<=bx.length) (hr:x.rows=rws.map yT) (hn:x.nth<x.ds.length) (hs:x.sl=false) (er:rws[x.s.t]?=some r) (ok:okS x.s=true) (okr:okR r=true) (hlk:yhc bx.length x.s r=false) (e:ypB bx.length r x.s=some s') :
  ∃ h' c',yw [.loc g.H,.int (as1.length:Nat)] h=some (.tup [.str "gone",.int x.s.t],h')/\HH h' g bx.length bx sp en (as1++(a.1,c')::as2) (xs1++{ x with s:=s' }::xs2) own:=by
 have R:=X.foc l;obtain ⟨h',c',q1,R'⟩:=ysg (q:=qOf bx sp en _ as1.length a.1 x) R (by exact ykt) (by rw [hr];exact yjj er) (by omega) hn hs ok okr hlk e;exact ⟨h',c',q1,HH.unf (x':={ x with s:=s' }) X.ly l R'⟩
def yEe {rws:List Rw}(X:HH h g bx.length bx sp en (as1++a::as2) (xs1++x::xs2) own) (l:as1.length=xs1.length) (hbs:sp.length=bx.length) (h1:1<=bx.length) (hr:x.rows=rws.map yT) (hn:x.nth<x.ds.length) (hs:x.sl=false) (F:NF bx.length x.s) (fr:stB x.s.sn sp=false) (er:rws[x.s.t]?=some (.take p q)) (ok:okS x.s=true) (okr:okR (.take p q)=true) (hlk:isN (yrY x.s bx.length q)=true) (ek:x.s.hs.getD (sx q) 0%(bx.length:Int)=(k:Nat)) (hk:k<bx.length) :
  ∃ h',yw [.loc g.H,.int (as1.length:Nat)] h=some (.tup [.str "seen",.int x.s.t,.int (k:Nat),.int (bx.getD k 0)],h')/\HH h' g bx.length bx sp en (as1++a::as2) (xs1++{ x with s:=⟨x.s.t+1,x.s.hs.set (sx p) (bx.getD k 0),x.s.sd,x.s.dd,ydE x.s.sn k (bx.getD k 0) (sp.getD k 0)⟩ }::xs2) own:=by
 have R:=X.foc l;obtain ⟨h',q1,R'⟩:=ysh (q:=qOf bx sp en _ as1.length a.1 x) R (by exact ykt) (by rw [hr];exact yjj er) (by omega) hn hs ok okr hlk (show NF sp.length x.s by rw [hbs];exact F) fr ek hk hbs;exact ⟨h',q1,HH.unf (x':={ x with s:=_ }) X.ly l R'⟩
def yEf {rws:List Rw}(X:HH h g bx.length bx sp en (as1++a::as2) (xs1++x::xs2) own) (l:as1.length=xs1.length) (hbs:sp.length=bx.length) (h1:1<=bx.length) (hr:x.rows=rws.map yT) (hn:x.nth<x.ds.length) (hs:x.sl=false) (F:NF bx.length x.s) (fr:stB x.s.sn sp=true) (er:rws[x.s.t]?=some r) (ok:okS x.s=true) (okr:okR r=true) (hlk:yhc bx.length x.s r=true) (hd:Due x.ds x.nth rows') :
  ∃ h' c',yw [.loc g.H,.int (as1.length:Nat)] h=some (.tup [.str "anew",.int x.s.t],h')/\HH h' g bx.length bx sp en (as1++(a.1,c')::as2) (xs1++{ x with sl:=false,rows:=rows',s:=S0 x.bf }::xs2) own:=by
 have R:=X.foc l;obtain ⟨h',c',q1,R'⟩:=yso (q:=qOf bx sp en _ as1.length a.1 x) R (by exact ykt) (by rw [hr];exact yjj er) (by omega) hn hs ok okr hlk (show NF sp.length x.s by rw [hbs];exact F) fr hd;exact ⟨h',c',q1,HH.unf (x':={ x with sl:=false,rows:=rows',s:=S0 x.bf }) X.ly l R'⟩
noncomputable def yCt (i:Nat) (x:HD) (en:PV) (L laid:List PV) (bf:List Int):PV:=.tup [.int (i:Nat),.int (x.nth:Nat),en,.lst L,.lst laid,.lst (bf.map .int)]
def yEg {rws:List Rw}(X:HH h g bx.length bx sp en (as1++a::as2) (xs1++x::xs2) own) (l:as1.length=xs1.length) (hbs:sp.length=bx.length) (h1:1<=bx.length) (hr:x.rows=rws.map yT) (hn:x.nth<x.ds.length) (hs:x.sl=false) (F:NF bx.length x.s) (fr:stB x.s.sn sp=false) (er:rws[x.s.t]?=some (.throw p q)) (ok:okS x.s=true) (okr:okR (.throw p q)=true) (lk:yhc bx.length x.s (.throw p q)=true) (hL:sortI (sK x.s.sn) (sA x.s.sn)=some L) (hd:Due x.ds (x.nth+1) rows') (hl:en.length<1000) :
  ∃ h' c',yw [.loc g.H,.int (as1.length:Nat)] h=some (.tup [.str "fell",.int x.s.t],h')/\HH h' g bx.length bx sp (en++[yCt as1.length x (.tup [.str "fell",.str p,.int (x.s.hs.getD (sx q) 0)]) L [] x.bf]) (as1++(a.1,c')::as2) (xs1++{ x with nth:=x.nth+1,rows:=rows',s:=S0 x.bf }::xs2) own:=by
 have R:=X.foc l;obtain ⟨h',c',q1,R'⟩:=ysk (q:=qOf bx sp en _ as1.length a.1 x) R (by exact ykt) (by rw [hr];exact yjj er) (by omega) hn hs ok okr lk (show NF sp.length x.s by rw [hbs];exact F) fr hL hd hl;exact ⟨h',c',q1,HH.unf (x':={ x with nth:=x.nth+1,rows:=rows',s:=S0 x.bf }) X.ly l R'⟩
def yEh {rws:List Rw}{ls:List (Nat×Int)}(X:HH h g bx.length bx sp en (as1++a::as2) (xs1++x::xs2) own) (l:as1.length=xs1.length) (hbs:sp.length=bx.length) (h1:1<=bx.length) (hr:x.rows=rws.map yT) (hn:x.nth<x.ds.length) (hs:x.sl=false) (F:NF bx.length x.s) (fr:stB x.s.sn sp=false) (er:rws[x.s.t]?=some .lay) (ok:okS x.s=true) (ed:x.s.dd=[d]) (hd:sortI d.1 d.2=some (ls.map ycR)) (hb:∀ p∈ls,p.1<bx.length) (hL:sortI (sK x.s.sn) (sA x.s.sn)=some L) (hdu:Due x.ds (x.nth+1) rows') (hl:en.length<1000) (ho:∀ y∈xs1++xs2,yCs bx.length y) :
  ∃ h' as',yw [.loc g.H,.int (as1.length:Nat)] h=some (.tup [.str "done",.int x.s.t],h')/\HH h' g bx.length (yvc bx ls) (ypR sp ls) (en++[yCt as1.length x (.tup [.str "done"]) L (ls.map ycR) x.s.hs]) as' ((xs1++{ x with nth:=x.nth+1,bf:=x.s.hs,rows:=rows',s:=S0 x.s.hs }::xs2).map (yfL (ypR sp ls))) own/\as'.map (·.1)=(as1++a::as2).map (·.1):=by
 have R:=X.foc l;obtain ⟨h2,c',q1,R'⟩:=ysm (q:=qOf bx sp en _ as1.length a.1 x) R (by exact ykt) (by rw [hr];exact yjj er) (by omega) hn hs ok (show NF sp.length x.s by rw [hbs];exact F) fr ed hd hb hbs hL hdu hl;have X':=HH.unf (x':={ x with nth:=x.nth+1,bf:=x.s.hs,rows:=rows',s:=S0 x.s.hs }) X.ly l R';have hW:(ypR sp ls).length=bx.length:=by rw [ykr];exact hbs
 obtain ⟨h',as',q2,X2,em⟩:=yyO X' (fun y hy=>by
  show yCs (ypR sp ls).length y;rw [hW];rcases List.mem_append.mp hy with z|z
  .exact ho y (mem_append_left _ z)
  .rcases mem_cons.mp z with rfl|z
   .exact ⟨hdu,⟨List.nodup_nil,fun p hp=>(by cases hp),(by show 0<=900;omega)⟩⟩
   .exact ho y (mem_append_right _ z))
 exact ⟨h',as',q1 h' q2,X2,by rw [em];simp⟩
end
section
variable {h:AH}{w:Int}{g:HC}{bx sp:List Int}{en:List PV}{as as1 as2:List (Nat×Lc)}{xs xs1 xs2:List HD}{a:Nat×Lc}{x x':HD}{own m:List (Nat×Nd)}
def yBO {x y:PV}{xs ys:List PV}(e1:f x y=some true) (e2:ygs f xs ys=some true):ygs f (x::xs) (y::ys)=some true:=by show (match f x y,ygs f xs ys with|some b,some c=>some (b && c)|_,_=>none)=_;rw [e1,e2];rfl
def yBP:eqP (n+1) h (.int i) (.int i)=some true:=by show some (eqV (.int i) (.int i))=_;rw [yjS rfl]
def yBQ:eqP (n+1) h (.str i) (.str i)=some true:=by show some (eqV (.str i) (.str i))=_;rw [yjS rfl]
def yyP {xs:List PV}(e:ygs (eqP (n+1) h) xs xs=some true):eqP (n+2) h (.tup xs) (.tup xs)=some true:=by show (match ygs (eqP (n+1) h) xs xs with|some b=>some (b && xs.length == xs.length)|none=>none)=_;rw [e];simp
def yyQ {xs:List PV}(e:ygs (eqP (n+1) h) xs xs=some true):eqP (n+2) h (.lst xs) (.lst xs)=some true:=by show (if xs.length=xs.length then ygs (eqP (n+1) h) xs xs else some false)=_;rw [if_pos rfl,e]
def Shp (e:PV):Prop:=∃ a b c x y z,e=.tup [a,b,c,.lst x,.lst y,.lst z]
theorem ysr {en:List PV}(e:h[n]?=some (.lst en)) (hE:∀ x∈en,E (inn x) h=some (x,h)):∀ k i,i+k=en.length->yno n E inn k i h=some (en.drop i,h)
 | 0,i,hi=>by unfold yno;simp only [e];rw [if_pos (by omega),List.drop_of_length_le (by omega)]
 | k+1,i,hi=>by
  have hlt:i<en.length:=by omega
  unfold yno;simp only [e,List.getElem?_eq_getElem hlt];rw [hE _ (getElem_mem hlt),ybw,ysr e hE k (i+1) (by omega),ybw,List.drop_eq_getElem_cons hlt]
def ywl (X:HH h g w bx sp en as xs own):ybT [.loc g.H] h=some (.lst (bx.map .int),h):=by
 obtain ⟨f1,f2,f3,f4⟩:=ydm (X.at_.get 0 rfl);unfold ybT;rw [yo];show ob (yO _ [.val (.loc g.H)] h) fnK=_
 simpa [f1,yeo (X.at_.get 1 rfl)]
def yyR (X:HH h g w bx sp en as xs own):ybX [.loc g.H] h=some (.lst (sp.map .int),h):=by
 obtain ⟨f1,f2,f3,f4⟩:=ydm (X.at_.get 0 rfl);unfold ybX;rw [yo];show ob (yO _ [.val (.loc g.H)] h) fnK=_
 simpa [f2,yeo (X.at_.get 2 rfl)]
def yve (X:HH h g w bx sp en as xs own) (hs:∀ e∈en,Shp e) (hl:en.length<1000):yV [.loc g.H] h=some (.lst en,h):=by
 obtain ⟨f1,f2,f3,f4⟩:=ydm (X.at_.get 0 rfl);have e:h[g.en]?=some (.lst en):=X.at_.get 4 rfl;unfold yV;rw [yo];show ob (yO (xFz (ydu _ _ _)) [.val (.loc g.H)] h) fnK=_;rw [ynf,yzi];unfold ydu
 simpa [f4]
 simp only [e];rw [if_pos (by omega),ysr e (fun x hx=>?_) en.length 0 (by omega)]
 .rfl
 .obtain ⟨a,b,c,x,y,z,rfl⟩:=hs x hx;rfl
variable (X:HH h g w bx sp en (as1++a::as2) (xs1++x::xs2) own) (l:as1.length=xs1.length)
include X l
theorem yvf:ybi [.loc g.H,.int (as1.length:Nat)] h=some (.loc a.1,h)/\h[a.1]?=some (ydl x.ds w x.nth x.sl x.bf a.2.rn)/\h[g.H]?=some (yuL g.nu g.ma g.cr g.en) :=
 ⟨yej (q:=qOf bx sp en _ as1.length a.1 x) (X.foc l).rest (by exact ykt),(X.foc l).rest.get 5 rfl,(X.foc l).rest.get 0 rfl⟩
theorem yBR:ydi [.loc g.H,.int (as1.length:Nat)] h=some (.str (stX x),h):=by
 obtain ⟨q1,q2,q3⟩:=yvf X l;have st:ycm [.loc a.1] h=some (.str (stX x),h):=yfg (X.foc l).rest;unfold ydi;rw [yo];show ob (yO _ [.val (.loc g.H),.val (.int (as1.length:Nat))] h) fnK=_
 simpa [ycq,yB (m:="hand_at") q3 (by rfl'),q1,yB (m:="state") q2 (by rfl'),st]
theorem yBS:ydj [.loc g.H,.int (as1.length:Nat)] h=some (.int (x.nth:Nat),h):=by
 obtain ⟨q1,q2,q3⟩:=yvf X l;have f:=(ydn q2).2.2.1;unfold ydj;rw [yo];show ob (yO _ [.val (.loc g.H),.val (.int (as1.length:Nat))] h) fnK=_
 simpa [ycq,yB (m:="hand_at") q3 (by rfl'),q1,f]
theorem yBT:ydk [.loc g.H,.int (as1.length:Nat)] h=some (.lst (x.s.hs.map .int),h):=by
 obtain ⟨q1,q2,q3⟩:=yvf X l;have k6:=(ydn q2).2.2.2.2.2;have R:=X.foc l;have r1:=(ycJ R.run).1;unfold ydk;rw [yo];show ob (yO _ [.val (.loc g.H),.val (.int (as1.length:Nat))] h) fnK=_
 simpa [ycq,yB (m:="hand_at") q3 (by rfl'),q1,k6,r1,yeo R.held]
theorem yFy (hL:sortI (sK x.s.sn) (sA x.s.sn)=some L):yei [.loc g.H,.int (as1.length:Nat)] h=some (.lst L,h):=by
 obtain ⟨q1,q2,q3⟩:=yvf X l;have k6:=(ydn q2).2.2.2.2.2;have R:=X.foc l;have r3:=(ycJ R.run).2.2.1;have sw:=ywk R.lg.ob R.lg.sn hL;unfold yei;rw [yo];show ob (yO _ [.val (.loc g.H),.val (.int (as1.length:Nat))] h) fnK=_
 simpa [ycq,yB (m:="hand_at") q3 (by rfl'),q1,k6,r3,yB (m:="saw") R.lg.ob (by rfl'),sw]
end
def Z8:List Int:=[0,0,0,0,0,0,0,0]
abbrev Fr (h h':AH):Prop:=∀ m,At h m->At h' m
def Rdb (d:Str×List Rw):Prop:=∀ h:AH,∃ h',yW yeh (yc (yW ylN (yc (ye 0) yh)) yh) [.val (.str d.1)] h=some (.lst (d.2.map yT),h')/\Fr h h'
def txV (d:Str×List Rw):PV:=.str d.1
def yoK (d:Str×List Rw):PV:=.lst (d.2.map yT)
section
variable {h:AH}{w:Int}
def At.seen (A:At h m):At ((h++[d]).set h.length d') m:=⟨A.1,fun p hp=>by have:=A.lt hp;rw [getElem?_set_ne (by omega),getElem?_append_left this];exact A.2 p hp⟩
def At.one (e:h[n]?=some d):At h [(n,d)]:=⟨by simp,fun p hp=>by rw [List.mem_singleton.mp hp];exact e⟩
theorem Fr.get {h h':AH}(F:Fr h h') {n:Nat}{d:Nd}(e:h[n]?=some d):h'[n]?=some d:=(F _ (At.one e)).get 0 rfl
theorem yss {Z:Type}{n:Nat}{E:XE}{inn:PV->PSt}{f g:Z->PV}{l:List Z}{P:AH->Prop}(hP:∀ h h',Fr h h'->P h->P h') (hE:∀ h a,a∈l->P h->∃ h',E (inn (f a)) h=some (g a,h')/\Fr h h'):∀ (k i:Nat) (h:AH),h[n]?=some (.lst (l.map f))->P h->i+k=l.length->∃ h',yno n E inn k i h=some ((l.drop i).map g,h')/\Fr h h'
 | 0,i,h,e,_,hi=>by refine ⟨h,?_,fun _ A=>A⟩;unfold yno;simp only [e];rw [if_pos (by rw [length_map];omega),List.drop_of_length_le (by omega)];rfl
 | k+1,i,h,e,p,hi=>by
  have hlt:i<l.length:=by omega
  obtain ⟨h1,q1,q2⟩:=hE h l[i] (getElem_mem hlt) p;obtain ⟨h2,q3,q4⟩:=yss hP hE k (i+1) h1 (Fr.get q2 e) (hP _ _ q2 p) (by omega);refine ⟨h2,?_,fun m A=>q4 m (q2 m A)⟩;unfold yno;simp only [e];rw [show (l.map f)[i]?=some (f l[i]) by rw [getElem?_map,List.getElem?_eq_getElem hlt];rfl];simp only [q1,ybw,q3];rw [List.drop_eq_getElem_cons hlt];rfl
def yhq {Z:Type}{n:Nat}{E:XE}{f g:Z->PV}{l:List Z}{P:AH->Prop}(hP:∀ h h',Fr h h'->P h->P h') (hE:∀ h a,a∈l->P h->∃ h',E [.val (f a)] h=some (g a,h')/\Fr h h') (e:h[n]?=some (.lst (l.map f))) (p:P h) (hl:l.length<=10000):∃ h',ydu (ye 0) [] E [.val (.loc n)] h=some (.lst (l.map g),h')/\Fr h h':=by obtain ⟨h',q1,q2⟩:=yss (inn:=yfS [] [.val (.loc n)]) hP hE l.length 0 h e p (by omega);refine ⟨h',?_,q2⟩;unfold ydu;rw [show ye 0 [.val (.loc n)] h=some (.loc n,h) from rfl,ybw];simp only [e];rw [if_pos (by rw [length_map];omega),length_map,q1];rfl
def yvg {n:Nat}{ds:List (Str×List Rw)}(hd:∀ d∈ds,Rdb d) (hl:ds.length<=100) (e:h[n]?=some (.lst (ds.map txV))):∃ h',ycn [.loc n] h=some (.lst (ds.map yoK),h')/\Fr h h':=by obtain ⟨h',q1,q2⟩:=yhq (f:=txV) (g:=yoK) (P:=fun _=>True) (fun _ _ _ _=>trivial) (fun h a ha _=>hd a ha h) e trivial (by omega);refine ⟨h',?_,q2⟩;unfold ycn;rw [yo];show ob (yO (xFz (ydu _ _ _)) [.val (.loc n)] h) fnK=_;rw [ynf,yzi,q1];rfl
def yvh {n:Nat}{hs:List (Nat×List (Str×List Rw))}(hd:∀ p∈hs,p.2.length<=6/\∀ d∈p.2,Rdb d) (h1:1<=hs.length) (h8:hs.length<=8) (e:h[n]?=some (.lst (hs.map fun p=>.loc p.1))) (el:∀ p∈hs,h[p.1]?=some (.lst (p.2.map txV))):∃ h',yco [.loc n] h=some (.lst (hs.map fun p=>.lst (p.2.map yoK)),h')/\Fr h h':=by
 have hP:∀ h h',Fr h h'->(∀ p∈hs,h[p.1]?=some (.lst (p.2.map txV)))->∀ p∈hs,h'[p.1]?=some (.lst (p.2.map txV)):=fun h h' F k p hp=>Fr.get F (k p hp)
 obtain ⟨k1,q1,q2⟩:=yhq (E:=xOp (oGt) (xCB (ybU) (yc (ye 0) (yh))) (xC (.int 6))) (f:=fun p:Nat×List (Str×List Rw)=>.loc p.1) (g:=fun _=>.bl false) hP (fun h a ha k=>⟨h,by
  have l1:=ycW (k a ha);have l2:((6:Int)<((a.2.map txV).length:Nat))=False:=eq_false (by have:=(hd _ ha).1;rw [length_map];omega)
  simpa [l1,l2],fun _ A=>A⟩) e el (by omega)
 obtain ⟨h',q3,q4⟩:=yhq (E:=yW ycn (yc (ye 0) (yh))) (f:=fun p:Nat×List (Str×List Rw)=>.loc p.1) (g:=fun p=>.lst (p.2.map yoK)) hP (fun h a ha k=>yvg (hd a ha).2 (by have:=(hd a ha).1;omega) (k a ha)) (Fr.get q2 e) (hP _ _ q2 el) (by omega);have an:∀ h,yur [.lst (hs.map fun _=>PV.bl false)] h=some (.bl false,h):=fun h=>by unfold yur ybH;simp only [ykp (fun _:Nat×List (Str×List Rw)=>false)];rw [show (hs.map fun _=>false).any id=false by simp]
 refine ⟨h',?_,fun m A=>q4 m (q2 m A)⟩;have l1:((1:Int)<=((hs.map fun p=>PV.loc p.1).length:Nat))=True:=eq_true (by rw [length_map];omega);have l2:((((hs.map fun p=>PV.loc p.1).length:Nat):Int)<=8)=True:=eq_true (by rw [length_map];omega);unfold yco;rw [yo];show ob (yl _ _ [.val (.loc n)] h) fnK=_
 simpa [ycW e,l1,l2,q1,an,q3]
noncomputable def hv (k:Nat) (ds:List PV) (w:Int):Nd:=.ins 14 ((["deeds","width","nth","sleeps","before"]:List Str).take k) (([.lst ds,.int w,.int 0,.bl false,.lst (Z8.map .int)]:List PV).take k)
def yst (hr:Due ds 0 rows):∃ h' c',ybz [.loc h.length,.lst ds,.int w] (h++[Nd.ins 14 [] []])=some (.non,h')/\∀ m,At h m->RR w rows ((h.length,ydl ds w 0 false Z8 c'.rn)::m) h' c' (S0 Z8):=by
 have N:∀ {k:AH}{d d':Nd},k[h.length]?=some d->(k.set h.length d')[h.length]?=some d':=fun e=>getElem?_set_self (List.getElem?_eq_some_iff.mp e).1
 have n0:(h++[Nd.ins 14 [] []])[h.length]?=some (hv 0 ds w):=by simp [hv]
 generalize hk0:h++[Nd.ins 14 [] []]=k0 at *;have s1:∀ Y,fL [14] "deeds" Y (.lst ds) (.loc h.length) k0=some (.nx Y,k0.set h.length (hv 1 ds w)):=fun Y=>yeT n0 (by decide) (by kernel_rfl!)
 have n1:=N (d':=hv 1 ds w) n0;have s2:∀ Y,fL [12,14] "width" Y (.int w) (.loc h.length) (k0.set h.length (hv 1 ds w))=some (.nx Y,(k0.set h.length (hv 1 ds w)).set h.length (hv 2 ds w)):=fun Y=>yeT n1 (by decide) (by kernel_rfl!)
 have n2:=N (d':=hv 2 ds w) n1;rw [List.set_set] at s2 n2;have s3:∀ Y,fL [14] "nth" Y (.int 0) (.loc h.length) (k0.set h.length (hv 2 ds w))=some (.nx Y,(k0.set h.length (hv 2 ds w)).set h.length (hv 3 ds w)):=fun Y=>yeT n2 (by decide) (by kernel_rfl!)
 have n3:=N (d':=hv 3 ds w) n2;rw [List.set_set] at s3 n3;have s4:∀ Y,fL [14] "sleeps" Y (.bl false) (.loc h.length) (k0.set h.length (hv 3 ds w))=some (.nx Y,(k0.set h.length (hv 3 ds w)).set h.length (hv 4 ds w)):=fun Y=>yeT n3 (by decide) (by kernel_rfl!)
 have n4:=N (d':=hv 4 ds w) n3;rw [List.set_set] at s4 n4;have s5:∀ Y,fL [14] "before" Y (.lst (Z8.map .int)) (.loc h.length) (k0.set h.length (hv 4 ds w))=some (.nx Y,(k0.set h.length (hv 4 ds w)).set h.length (hv 5 ds w)):=fun Y=>yeT n4 (by decide) (by kernel_rfl!)
 have n5:=N (d':=hv 5 ds w) n4;rw [List.set_set] at s5 n5;obtain ⟨h',c',q1,q2⟩:=ygC (rows:=rows) (nth:=0) (bf:=Z8) (w:=w) (ds:=ds) (fl 0 n5 (by decide) (by rfl') rfl) (fl 1 n5 (by decide) (by rfl') rfl) (fl 2 n5 (by decide) (by rfl') rfl) (fl 4 n5 (by decide) (by rfl') rfl) hr;have R:∀ m,At h m->RR w rows ((h.length,hv 5 ds w)::m) h' c' (S0 Z8):=fun m A=>q2 _ (by have A1:=At.new (Nd.ins 14 [] []) (a:=[]) A;rw [hk0] at A1;exact At.upd (a:=[]) (hv 5 ds w) A1)
 have e0:At h []:=⟨List.nodup_nil,fun p hp=>by simp at hp⟩
 have n6:h'[h.length]?=some (hv 5 ds w):=(R [] e0).rest.get 0 rfl;have s6:∀ Y,fL [14] "run" Y (.loc c'.rn) (.loc h.length) h'=some (.nx Y,h'.set h.length (ydl ds w 0 false Z8 c'.rn)):=fun Y=>yeT n6 (by decide) (by kernel_rfl!)
 refine ⟨_,c',?_,fun m A=>RR.urest (a:=[]) _ (R m A)⟩;have l0:∀ k,yM [.lst ds] k=some (.lst ds,k):=fun _=>rfl
 unfold ybz;rw [yo];show ob (yl _ _ [.val (.loc h.length),.val (.lst ds),.val (.int w)] k0) fnK=_
 simpa [ypQ,l0,s1,s2,s3,s4]
 rw [if_pos (by decide),show PV.lst (repL ((8:Nat):Int).toNat [PV.int 0])=.lst (Z8.map .int) from rfl]
 simpa [ypQ,s5,ycq,yB (m:="new_run") n5 (by rfl'),q1,s6]
end
section
variable {h:AH}{w:Int}
def yBU (hi:0<=i/\i<B64):ycZ [.int i] h=some (.bl true,h):=by
 have e1:yee [.int i] h=some (.bl true,h):=by kernel_rfl!
 have e2:(0<=i)=True:=eq_true hi.1;have e3:(i<18446744073709551616)=True:=eq_true hi.2;unfold ycZ;rw [yo];show ob (yO _ [.val (.int i)] h) fnK=_
 simpa [e1,e2,e3]
def yvi {bx:List Int}(h1:1<=bx.length) (h16:bx.length<=16) (hb:∀ i∈bx,0<=i/\i<B64) (e:h[nb]?=some (.lst (bx.map .int))):∃ h',ydx [.loc nb] h=some (.non,h')/\Fr h h':=by
 obtain ⟨h',q1,q2⟩:=yhq (E:=yW ycZ (yc (ye 0) (yh))) (f:=PV.int) (g:=fun _=>.bl true) (P:=fun _=>True) (fun _ _ _ _=>trivial) (fun h i hi _=>⟨h,by
  show yW ycZ (yc (ye 0) (yh)) [.val (.int i)] h=_;have:=yBU (h:=h) (hb i hi)
  simpa [this],fun _ A=>A⟩) e trivial (by omega)
 refine ⟨h',?_,q2⟩;have e2:∀ h,yvN [.lst (bx.map fun _=>PV.bl true)] h=some (.bl true,h):=fun h=>by unfold yvN ybH;simp only [ykp (fun _:Int=>true)];rw [List.all_eq_true.mpr fun x hx=>by obtain ⟨_,_,rfl⟩:=List.mem_map.mp hx;rfl]
 have l1:(((bx.map PV.int).length:Nat):Int)=bx.length:=by rw [length_map]
 have l2:((1:Int)<=(bx.length:Nat))=True:=eq_true (by omega);have l3:(((bx.length:Nat):Int)<=16)=True:=eq_true (by omega);unfold ydx;rw [yo];show ob (yl _ _ [.val (.loc nb)] h) fnK=_
 simpa [ycW e,l1,l2,l3,q1,e2]
end
noncomputable def av (k nu ma cr en:Nat):Nd:=.ins 15 ((["numbers","marks","crew","entries"]:List Str).take k) (([.loc nu,.loc ma,.loc cr,.loc en]:List PV).take k)
def hd0 (ds:List (Str×List Rw)):HD:=⟨ds.map yoK,0,false,Z8,match ds with|[]=>[]|d::_=>d.2.map yT,S0 Z8⟩
def yFb:∀ ds:List (Str×List Rw),Due (hd0 ds).ds 0 (hd0 ds).rows
 | []=>.inr ⟨rfl,rfl⟩
 | d::r=>.inl ⟨by simp [hd0],rfl⟩
section
variable {h:AH}{w:Int}
theorem ygR:∀ {as:List (Nat×Lc)}{xs:List HD}{m:List (Nat×Nd)},CR w as xs m=CR w as xs []++m
 | [],_,_=>by unfold CR;rfl
 | _::_,[],_=>by unfold CR;rfl
 | a::as,x::xs,m=>by show HN w a x (CR w as xs m)=HN w a x (CR w as xs [])++m;rw [ygQ,ygQ (m:=CR w as xs []),ygR,append_assoc]
def yFz (n:Nat):repL ((n:Nat):Int).toNat [PV.int 0]=(replicate n (0:Int)).map .int:=by
 show (replicate n [PV.int 0]).flatten=_;rw [List.map_replicate]
 induction n with
 | zero=>rfl
 | succ n ih=>rw [List.replicate_succ,List.replicate_succ,List.flatten_cons,ih];rfl
theorem ysu {bx:List Int}(hY:∀ x,yfS [1] Y x=[.val x,.val (.loc nb)]):∀ (hs:List (List (Str×List Rw))) (h:AH),h[nb]?=some (.lst (bx.map .int))->∃ h' as,yiS (yhK 14 ybz (yc (ye 0) (yc (xCB (ybU) (yc (ye 1) (yh))) (yh)))) (yfS [1] Y) (hs.map fun ds=>.lst (ds.map yoK)) h=some ((as.map (·.1)).map .loc,h')/\LyOk as (hs.map hd0)/\∀ m,At h m->At h' (CR bx.length as (hs.map hd0) m)
 | [],h,_=>⟨h,[],rfl,trivial,fun _ A=>A⟩
 | ds::hs,h,eb=>by
  obtain ⟨h1,c1,q1,q2⟩:=yst (h:=h) (w:=bx.length) (yFb ds);obtain ⟨h',as,q3,q4,q5⟩:=ysu hY hs h1 ((q2 _ (At.one eb)).rest.get 1 rfl);have lb:=fun d=>ycW (h:=h++[d]) (by rw [getElem?_append_left (List.getElem?_eq_some_iff.mp eb).1];exact eb)
  have lb':=ycW eb;have lw:(((bx.map PV.int).length:Nat):Int)=bx.length:=by rw [length_map]
  have e0:At h []:=⟨List.nodup_nil,fun p hp=>by simp at hp⟩
  refine ⟨h',(h.length,c1)::as,?_,⟨(q2 [] e0).len,q4⟩,fun m A=>?_⟩
  .show ob (yhK 14 ybz _ (yfS [1] Y (.lst (ds.map yoK))) h) _=_;rw [hY,yrs];have q1:ybz [.loc h.length,.lst (ds.map yoK),.int bx.length] (h++[Nd.ins 14 [] []])=some (.non,h1):=q1
   simpa [lb,lb',lw,q1,q3]
   rfl
  .have R:=q2 m A;have A1:At h1 (HN bx.length (h.length,c1) (hd0 ds) m):=by have A2:=R.at_;rw [yib] at A2;show At h1 ((h.length,ydl (ds.map yoK) bx.length 0 false Z8 c1.rn)::RM _ _ _ _ _);rw [yib];exact A2.perm List.perm_middle.symm
   have A3:=q5 _ A1;rw [ygR,ygQ] at A3;show At h' (HN bx.length (h.length,c1) (hd0 ds) (CR bx.length as (hs.map hd0) m));rw [ygQ,ygR];exact A3.perm (List.perm_append_comm_assoc _ _ _)
def ysv {bx:List Int}{nb n:Nat}{hs:List (Nat×List (Str×List Rw))}(h1:1<=bx.length) (h16:bx.length<=16) (hb:∀ i∈bx,0<=i/\i<B64) (hd:∀ p∈hs,p.2.length<=6/\∀ d∈p.2,Rdb d) (hh1:1<=hs.length) (hh8:hs.length<=8) (eb:h[nb]?=some (.lst (bx.map .int))) (e:h[n]?=some (.lst (hs.map fun p=>.loc p.1))) (el:∀ p∈hs,h[p.1]?=some (.lst (p.2.map txV))) :
  ∃ h' g as,ycP [.loc h.length,.loc nb,.loc n] (h++[Nd.ins 15 [] []])=some (.non,h')/\g.H=h.length/\∀ m,At h m->HH h' g bx.length bx (replicate bx.length 0) [] as (hs.map fun p=>hd0 p.2) m:=by
 have e0:At h []:=⟨List.nodup_nil,fun p hp=>by simp at hp⟩
 have A0:∀ m,At h m->At (h++[Nd.ins 15 [] []]) ((h.length,.ins 15 [] [])::m):=fun m A=>At.new _ (a:=[]) A
 obtain ⟨k0,c0,Fc⟩:=yvi (h:=h++[Nd.ins 15 [] []]) (nb:=nb) h1 h16 hb ((A0 _ (At.one eb)).get 1 rfl);replace A0:∀ m,At h m->At k0 ((h.length,.ins 15 [] [])::m):=fun m A=>Fc _ (A0 m A)
 clear Fc;generalize h++[Nd.ins 15 [] []]=kk at *;have A1:∀ m,At h m->At (k0++[Nd.lst (bx.map .int)]) ((h.length,.ins 15 [] [])::(k0.length,.lst (bx.map .int))::m):=fun m A=>At.new _ (a:=[_]) (A0 m A)
 have s1:∀ Y,fL [15] "numbers" Y (.loc k0.length) (.loc h.length) (k0++[Nd.lst (bx.map .int)])=some (.nx Y,(k0++[Nd.lst (bx.map .int)]).set h.length (av 1 k0.length 0 0 0)):=fun Y=>yeT ((A1 [] e0).get 0 rfl) (by decide) (by kernel_rfl!)
 have A2:=fun m A=>At.upd (a:=[]) (av 1 k0.length 0 0 0) (A1 m A)
 have b1:=(A2 _ (At.one eb)).get 2 rfl;generalize hnu:k0.length=nu at *;generalize (k0++[Nd.lst (bx.map .int)]).set h.length (av 1 nu 0 0 0)=k1 at *;have A3:∀ m,At h m->At (k1++[Nd.lst ((replicate bx.length (0:Int)).map .int)]) ((h.length,av 1 nu 0 0 0)::(nu,.lst (bx.map .int))::(k1.length,.lst ((replicate bx.length (0:Int)).map .int))::m):=fun m A=>At.new _ (a:=[_,_]) (A2 m A)
 have s2:∀ Y,fL [15] "marks" Y (.loc k1.length) (.loc h.length) (k1++[Nd.lst ((replicate bx.length (0:Int)).map .int)])=some (.nx Y,(k1++[Nd.lst ((replicate bx.length (0:Int)).map .int)]).set h.length (av 2 nu k1.length 0 0)):=fun Y=>yeT ((A3 [] e0).get 0 rfl) (by decide) (by kernel_rfl!)
 have A4:=fun m A=>At.upd (a:=[]) (av 2 nu k1.length 0 0) (A3 m A)
 generalize hma:k1.length=ma at *;generalize (k1++[Nd.lst ((replicate bx.length (0:Int)).map .int)]).set h.length (av 2 nu ma 0 0)=k2 at *;have F2:Fr h k2:=fun m A=>(A4 m A).sub (((List.Sublist.refl m).cons _).cons _ |>.cons _)
 obtain ⟨k3,q1,q2⟩:=yvh (h:=k2) hd hh1 hh8 (Fr.get F2 e) fun p hp=>Fr.get F2 (el p hp)
 obtain ⟨k4,as,q3,q4,q5⟩:=ysu (bx:=bx) (Y:=[.val (.loc h.length),.val (.loc nb),.val (.loc n)]) (fun _=>rfl) (hs.map (·.2)) k3 (Fr.get q2 (Fr.get F2 eb));have R4:=fun m A=>q5 _ (q2 _ (A4 m A))
 have mm:(hs.map (·.2)).map hd0=hs.map fun p=>hd0 p.2:=by rw [map_map];rfl
 have mv:((hs.map (·.2)).map fun ds=>PV.lst (ds.map yoK))=hs.map fun p=>.lst (p.2.map yoK):=by rw [map_map];rfl
 rw [mm] at q4;rw [mv] at q3;have R4':∀ m,At h m->At k4 ((h.length,av 2 nu ma 0 0)::(nu,.lst (bx.map .int))::(ma,.lst ((replicate bx.length (0:Int)).map .int))::CR bx.length as (hs.map fun p=>hd0 p.2) m):=fun m A=>by have:=R4 m A;rw [mm,ygR] at this;rw [ygR];exact this.perm (show ([_,_,_]++(CR bx.length as (hs.map fun p:Nat×List (Str×List Rw)=>hd0 p.2) []++m)).Perm (CR bx.length as (hs.map fun p:Nat×List (Str×List Rw)=>hd0 p.2) []++([_,_,_]++m)) from List.perm_append_comm_assoc _ _ _)
 have R5:=fun m A=>At.new (Nd.lst ((as.map (·.1)).map .loc)) (a:=[_,_,_]) (R4' m A)
 have s3:∀ Y,fL [15] "crew" Y (.loc k4.length) (.loc h.length) (k4++[Nd.lst ((as.map (·.1)).map .loc)])=some (.nx Y,(k4++[Nd.lst ((as.map (·.1)).map .loc)]).set h.length (av 3 nu ma k4.length 0)):=fun Y=>yeT ((R5 [] e0).get 0 rfl) (by decide) (by kernel_rfl!)
 have R6:=fun m A=>At.upd (a:=[]) (av 3 nu ma k4.length 0) (R5 m A)
 generalize hcr:k4.length=cr at *;generalize (k4++[Nd.lst ((as.map (·.1)).map .loc)]).set h.length (av 3 nu ma cr 0)=k6 at *;have R7:=fun m A=>At.new (Nd.lst []) (a:=[_,_,_,_]) (R6 m A)
 have s4:∀ Y,fL [15] "entries" Y (.loc k6.length) (.loc h.length) (k6++[Nd.lst []])=some (.nx Y,(k6++[Nd.lst []]).set h.length (av 4 nu ma cr k6.length)):=fun Y=>yeT ((R7 [] e0).get 0 rfl) (by decide) (by kernel_rfl!)
 have R8:=fun m A=>At.upd (a:=[]) (av 4 nu ma cr k6.length) (R7 m A)
 refine ⟨_,⟨h.length,nu,ma,cr,k6.length⟩,as,?_,rfl,fun m A=>⟨R8 m A,q4⟩⟩;have l0:=yeo ((A0 _ (At.one eb)).get 1 rfl);have ll:=ycW b1;have lw:(((bx.map PV.int).length:Nat):Int)=bx.length:=by rw [length_map]
 unfold ycP;rw [yo];show ob (yl _ _ [.val (.loc h.length),.val (.loc nb),.val (.loc n)] kk) fnK=_
 simpa [ypQ,c0,l0,hnu,s1,ll,lw]
 rw [if_pos (by omega),yFz];have i1:xIL (yW yco (yc (ye 2) (yh))) [.val (.loc h.length),.val (.loc nb),.val (.loc n)] k2=some (hs.map fun p=>.lst (p.2.map yoK),k3):=by
  unfold xIL
  simpa [q1]
 have l8:((hs.map fun p=>PV.lst (p.2.map yoK)).length<=100000)=True:=eq_true (by rw [length_map];omega)
 simpa [ypQ,hma,s2,i1,l8,q3,hcr,s3,s4]
end
section
variable {h:AH}
abbrev Pc:=Q×(Int->List Rw)
def lrB:XS:=ynk 2 (yW (ydB 44) (yc (ye 3) (yc (xOp yfd (ye 1) (ypq 2)) yh)))
structure yzl (p:Pc):Prop where
 rd:PQ 44 0 p.1
 lg:∀ h:AH,ypm "long" (ylL 44) (ye 0) [.val p.1.1] h=some (.int ((p.2 0).length:Nat),h)
 rw:∀ (f:Int) (h:AH),ydB 44 [p.1.1,.int f] h=some (.lst ((p.2 f).map yT),h)
 fs:frs p.1.2/\p.1.2.length<=40
 ln:∀ f,(p.2 f).length<=10
def cat:List Pc->Int->List Rw
 | [],_=>[]
 | p::l,f=>p.2 f++cat l (f+((p.2 f).length:Nat))
def yBV (hx:Y[i]?=some (.own (.lst xs))) (he:e Y h=some (.lst ys,h1)) (hl:xs.length+ys.length<=100000):ynk i e Y h=some (.nx (Y.set i (.own (.lst (xs++ys)))),h1):=by unfold ynk;rw [hx];show ob (e Y h) _=_;rw [he,ybw];show (if _ then _ else _)=_;rw [if_pos hl]
theorem ysw:∀ (l:List Pc) (R:List Rw) (v:PVar),(∀ p∈l,yzl p)->R.length+10*l.length<=1000 ->
  ∃ v',yeL (yn 3) lrB (l.map fun p=>p.1.1) [.val X,.val (.int 0),.own (.lst (R.map yT)),v] h=some (.nx [.val X,.val (.int 0),.own (.lst ((R++cat l (0+(R.length:Nat))).map yT)),v'],h)
 | [],R,v,_,_=>⟨v,by show some _=_;unfold cat;rw [append_nil]⟩
 | p::l,R,v,hp,hl=>by
  have P:=hp p mem_cons_self;have q1:=P.rw (0+(R.length:Nat)) h;have q2:=P.ln (0+(R.length:Nat));rw [length_cons] at hl;obtain ⟨v',e⟩:=ysw (X:=X) l (R++p.2 (0+(R.length:Nat))) (.val (p.1.1)) (fun p hp'=>hp p (mem_cons_of_mem _ hp')) (by rw [length_append];omega);refine ⟨v',?_⟩;have bd:lrB [.val X,.val (.int 0),.own (.lst (R.map yT)),.val (p.1.1)] h=some (.nx [.val X,.val (.int 0),.own (.lst ((R++p.2 (0+(R.length:Nat))).map yT)),.val (p.1.1)],h):=by
   unfold lrB;refine (yBV (xs:=R.map yT) (ys:=(p.2 (0+(R.length:Nat))).map yT) (h1:=h) rfl ?_ (by rw [length_map,length_map];omega)).trans (by rw [map_append];rfl);have:ypq 2 ([.val X,.val (.int 0),.own (.lst (R.map yT)),.val (p.1.1)]:PSt) h=some (.int (R.map yT).length,h):=rfl;rw [length_map] at this
   simpa [this,q1]
  show yeL _ _ (p.1.1::l.map fun p=>p.1.1) _ h=_;rw [ynz rfl bd,e,show cat (p::l) (0+(R.length:Nat))=p.2 (0+(R.length:Nat))++cat l (0+(R.length:Nat)+((p.2 (0+(R.length:Nat))).length:Nat)) from rfl];rw [append_assoc,length_append,Int.natCast_add,Int.add_assoc]
def ypF {l:List Pc}(em:ps=l.map fun p=>p.1.1) (hp:∀ p∈l,yzl p) (hl:l.length<=79):yeh [.lst ps] h=some (.lst ((cat l 0++[Rw.lay]).map yT),h):=by
 obtain ⟨v',e⟩:=ysw (h:=h) (X:=.lst ps) l [] .no hp (by show 0+_<=_;omega);rw [<- em] at e;have e1:yda 45 [.lst ps,.int 0] h=some (.lst ((cat l 0).map yT),h):=by
  have i0:xIL (ye 0) [.val (.lst ps),.val (.int 0),.own (.lst []),.no] h=some (ps,h):=yrN rfl;have e':yeL (yn 3) lrB ps [.val (.lst ps),.val (.int 0),.own (.lst []),.no] h=some (.nx [.val (.lst ps),.val (.int 0),.own (.lst ((cat l 0).map yT)),v'],h):=e;unfold yda;rw [yo];show ob (yl _ (yl (yhm (xIL (ye 0)) (yn 3) lrB) _) [.val (.lst ps),.val (.int 0),.no,.no] h) fnK=_;clear em e
  simpa [i0,e']
 have cl:∀ (l:List Pc) (f:Int),(∀ p∈l,yzl p)->(cat l f).length<=10*l.length:=by
  intro l
  induction l with
  | nil=>intro f _;exact Nat.le_refl _
  | cons p l ih =>
   intro f hp;have:=(hp p mem_cons_self).ln f;have:=ih (f+((p.2 f).length:Nat)) fun p h=>hp p (mem_cons_of_mem _ h)
   unfold cat;rw [length_append,length_cons];omega
 have:=cl l 0 hp;unfold yeh;rw [yo];show ob (yO _ [.val (.lst ps)] h) fnK=_;clear em e
 simpa [e1]
 rw [if_pos (by simp only [length_map,length_cons,length_nil];omega),map_append];rfl
theorem yBW:∀ l:List Q,(∀ q∈l,frs q.2/\q.2.length<=40/\q.2≠[])->frs (wr l)/\(wr l).length<=41*l.length/\∀ q:Q,q.2≠[]->Str.join " ; " ((q::l).map fun q=>Str.join " " q.2)=Str.join " " (q.2++wr l)
 | [],_=>⟨(fun _ h=>by cases h),Nat.le_refl _,fun q _=>by show _=Str.join " " (q.2++[]);rw [append_nil];rfl⟩
 | u::l,H=>by
  obtain ⟨h1,h2,h3⟩:=H u mem_cons_self;obtain ⟨i1,i2,i3⟩:=yBW l fun q h=>H q (mem_cons_of_mem _ h)
  refine ⟨List.forall_mem_cons.2 ⟨yhb _ (by rfl'),yeS h1 i1⟩,?_,fun q hq=>?_⟩
  .show (u.2++wr l).length+1<=41*(l.length+1);rw [length_append];omega
  .show Str.join " " q.2++" ; "++Str.join " ; " ((u::l).map fun q=>Str.join " " q.2)=Str.join " " (q.2++(";":Str)::(u.2++wr l));rw [i3 u h3,yhp hq (fun z=>by cases z),yrM (fun z=>h3 (List.append_eq_nil_iff.mp z).1),yBt];simp only [ylO]
def ynA (f:frs W) (ne:W≠[]) (hl:W.length<=3000):yff [.str (Str.join " " W)] h=some (.lst (W.map .str),h):=by
 have hj:=ykc " " (by rfl') W f;unfold yff;rw [yo];show ob (yl _ _ [.val (.str (Str.join " " W))] h) fnK=_
 simpa [yyu f ne,yxW (show (Str.join " " W).length<=100000 by omega),yhJ _ ne fun w hw=>(f w hw).1,↓reduceIte]
def AllOk (l:List Pc):Prop:=∀ p∈l,yzl p
def AllOk.c (a:yzl p) (b:AllOk l):AllOk (p::l):=List.forall_mem_cons.2 ⟨a,b⟩
def AllOk.n:AllOk []:=fun _ h=>by cases h
def lgs (l:List Pc):Int:=(l.map fun p=>((p.2 0).length:Int)).sum
def yBX (H:AllOk (p::l)) (es:s=Str.join " ; " ((p::l).map fun p=>Str.join " " p.1.2)) (hl:l.length<=60) (hg:lgs (p::l)<=79):Rdb (s,cat (p::l) 0++[Rw.lay])/\s.length<=69000:=by
 have A:∀ q∈(p::l).map (·.1),PQ 44 0 q/\frs q.2/\q.2.length<=40/\q.2≠[]:=fun q hq=>by obtain ⟨p,hp,rfl⟩:=List.mem_map.mp hq;obtain ⟨P,w,tl,e,n⟩:=(H p hp).rd;exact ⟨(H p hp).rd,(H p hp).fs.1,(H p hp).fs.2,by rw [e];exact fun z=>by cases z⟩
 obtain ⟨a1,a2,a3,a4⟩:=A p.1 mem_cons_self;obtain ⟨b1,b2,b3⟩:=yBW (l.map (·.1)) fun q hq=>(A q (mem_cons_of_mem _ hq)).2
 have e0:s=Str.join " " (wl ((p::l).map (·.1))):=by rw [es];refine .trans ?_ (b3 p.1 a4);rw [map_cons,map_cons,map_map];rfl
 have f1:frs (wl ((p::l).map (·.1))):=yeS a2 b1;have n1:wl ((p::l).map (·.1))≠[]:=fun z=>a4 (List.append_eq_nil_iff.mp z).1
 have l1:(wl ((p::l).map (·.1))).length<=3000:=by show (p.1.2++wr (l.map (·.1))).length<=3000;rw [length_append];rw [length_map] at b2;omega
 refine ⟨fun h=>?_,by have:=ykc " " (by rfl') _ f1;rw [e0];omega⟩;have hc:(p::l).length<=79:=by rw [length_cons];omega
 have e2:∀ h,yeh [.lst ((p::l).map (·.1.1))] h=some (.lst ((cat (p::l) 0++[Rw.lay]).map yT),h):=fun h=>ypF rfl H hc
 obtain ⟨d,d',e1⟩:∃ d d',ylN [.str s] h=some (.lst ((p::l).map (·.1.1)),(h++[d]).set h.length d'):=by
  refine ⟨rdr (wl ((p::l).map (·.1))) 0,rdr (wl ((p::l).map (·.1))) (0+(wl ((p::l).map (·.1))).length),?_⟩;rw [e0];clear e0 es e2;generalize hQ:(p::l).map (·.1)=Qs at *;have hL:∀ h,ybA 45 [.lst ((p::l).map (·.1.1))] h=some (.int (lgs (p::l)),h):=fun h=>by unfold ybA;rw [yo];show ob (yO _ [.val (.lst ((p::l).map (·.1.1)))] h) fnK=_;symm;rw [yrN rfl,ybw];rw [if_pos (by rw [length_map];omega)];rw [yfF (f:=fun p:Pc=>p.1.1) (g:=fun p=>.int ((p.2 0).length:Nat)) fun p hp=>(H p hp).lg h];symm;show ob (yAs [.lst ((p::l).map fun p=>PV.int ((p.2 0).length:Nat))] h) _=_;rw [show ((p::l).map fun p=>PV.int ((p.2 0).length:Nat))=((p::l).map fun p=>((p.2 0).length:Int)).map PV.int by rw [map_map];rfl];unfold yAs ybH;simp only [yiU];rfl
  have hv:Qs.map (·.1)=(p::l).map (·.1.1):=by rw [<- hQ,map_map];rfl
  have hQl:Qs.length<=90:=by rw [<- hQ,length_map];omega
  unfold ylN;rw [yo];show ob (yl _ _ [.val (.str (Str.join " " (wl Qs))),.no,.no] h) fnK=_;have ho:h.length<(h++[rdr (wl Qs) 0]).length:=by simp
  have e0:h++[rdr (wl Qs) 0]=hR (h++[rdr (wl Qs) 0]) h.length (wl Qs) 0:=by unfold hR;simp
  simpa [ynA f1 n1 l1,show ydb [PV.lst (List.map PV.str (wl Qs))] h=some (rdr (wl Qs) 0,h) from rfl]
  generalize hG:h++[rdr (wl Qs) 0]=G at *;conv=>lhs;rw [e0]
  have G':h.length<G.length/\(wl Qs).length<=100000:=⟨ho,by omega⟩
  simpa [ycq,list_eq (rest:=[]) G' (.inl rfl) (fun q hq=>(A q hq).1) hQl (show (wl Qs).drop 0=wl Qs++[] by simp),hv,yex G' (show (wl Qs).drop (0+(wl Qs).length)=[] by simp),hdV,hL]
  rw [if_neg (by intro z;cases z),if_neg (by omega)];rfl
 refine ⟨(h++[d]).set h.length d',?_,fun m A=>At.seen A⟩;dsimp only;clear es e0
 simpa [e1,e2]
end
noncomputable def vR:Rw->PV
 | .let_ r n=>.ins 1 ["slot","number"] [.str r,.int n]
 | .reckon w a b c=>.ins 2 ["word","slot","one","other"] [.str w,.str a,.str b,.str c]
 | .take r s=>.ins 3 ["slot","place"] [.str r,.str s]
 | .put r s=>.ins 4 ["place","slot"] [.str r,.str s]
 | .throw r s=>.ins 8 ["name","slot"] [.str r,.str s]
 | _=>.ins 9 [] []
noncomputable def wR:Rw->List Str
 | .let_ r n=>["let",r,(tI n)]
 | .reckon w a b c=>[w,a,b,c]
 | .take r s=>["take",r,s]
 | .put r s=>["put",r,s]
 | .throw r s=>["throw",r,s]
 | _=>["wait"]
abbrev qR (r:Rw):Q:=(vR r,wR r)
abbrev pl (r:Rw):Pc:=(qR r,fun _=>[r])
def sd (l:List Q):List Str:=("(":Str)::(wl l++[(")":Str)])
noncomputable def iQ (s:Str) (a b:List Q):Q:=(.ins 5 ["slot","parts","others"] [.str s,.lst (a.map (·.1)),.lst (b.map (·.1))],("if":Str)::s::(sd a++("else":Str)::sd b))
noncomputable def eQ (a b:List Q):Q:=(.ins 6 ["parts","others"] [.lst (a.map (·.1)),.lst (b.map (·.1))],("either":Str)::(sd a++("or":Str)::sd b))
noncomputable def tQ (nm s:Str) (a b:List Q):Q:=(.ins 7 ["parts","name","slot","others"] [.lst (a.map (·.1)),.str nm,.str s,.lst (b.map (·.1))],("try":Str)::(sd a++("on":Str)::nm::s::sd b))
def sl (r:Str):Prop:=ydU r/\fr r
def gdR:Rw->Prop
 | .let_ r n=>sl r/\0<=n/\n<B64
 | .reckon w a b c=>w∈W5/\sl a/\sl b/\sl c
 | .take r s|.put r s=>sl r/\sl s
 | .throw r s=>(yhW r/\fr r)/\sl s
 | .wait=>True
 | _=>False
def slA:sl "a":=⟨fun _=>by kernel_rfl!,yhb _ (by rfl')⟩
def yoL:sl "b":=⟨fun _=>by kernel_rfl!,yhb _ (by rfl')⟩
def slC:sl "c":=⟨fun _=>by kernel_rfl!,yhb _ (by rfl')⟩
def slD:sl "d":=⟨fun _=>by kernel_rfl!,yhb _ (by rfl')⟩
def slE:sl "e":=⟨fun _=>by kernel_rfl!,yhb _ (by rfl')⟩
def slF:sl "f":=⟨fun _=>by kernel_rfl!,yhb _ (by rfl')⟩
def slH:sl "h":=⟨fun _=>by kernel_rfl!,yhb _ (by rfl')⟩
def PF (n:Nat) (ar:Int) (q:Q):Prop:=PQ n ar q/\frs q.2
def LF (n:Nat) (ar:Int) (l:List Q):Prop:=(∀ q∈l,PF n ar q)/\l.length<=90
def LF.n:LF k i []:=⟨(fun _ h=>by cases h),by decide⟩
section
variable {n:Nat}{ar:Int}{r:Rw}{a b l:List Q}{q:Q}{s nm:Str}
def ycS {l:List Str}(h:fr w) (k:frs l):frs (w::l):=List.forall_mem_cons.2 ⟨h,k⟩
def yku:frs []:=fun _ h=>by cases h
def yCu (g:gdR r) (ha:ar<=8):PF (n+1) ar (qR r):=by
 cases r with
 | let_ r n=>exact ⟨⟨yjg (by rfl') ha (yDZ g.1.1 g.2),_,_,rfl,eq_false (by rfl')⟩,ycS (yhb _ (by rfl')) (ycS g.1.2 (ycS (ywe g.2.1 g.2.2) yku))⟩
 | take r s=>exact ⟨⟨yjg (by rfl') ha (ywi g.1.1 g.2.1).1,_,_,rfl,eq_false (by rfl')⟩,ycS (yhb _ (by rfl')) (ycS g.1.2 (ycS g.2.2 yku))⟩
 | put r s=>exact ⟨⟨yjg (by rfl') ha (ywi g.1.1 g.2.1).2,_,_,rfl,eq_false (by rfl')⟩,ycS (yhb _ (by rfl')) (ycS g.1.2 (ycS g.2.2 yku))⟩
 | throw r s=>exact ⟨⟨yjg (by rfl') ha (yyz g.1.1 g.2.1),_,_,rfl,eq_false (by rfl')⟩,ycS (yhb _ (by rfl')) (ycS g.1.2 (ycS g.2.2 yku))⟩
 | wait=>exact ⟨⟨yjg (by rfl') ha yBw,_,_,rfl,eq_false (by rfl')⟩,ycS (yhb _ (by rfl')) yku⟩
 | reckon w a b c=>refine ⟨⟨yjg ?_ ha (yuO g.1 g.2.1.1 g.2.2.1.1 g.2.2.2.1),_,_,rfl,eq_false ?_⟩,ycS ?_ (ycS g.2.1.2 (ycS g.2.2.1.2 (ycS g.2.2.2.2 yku)))⟩<;>rcases ywg g.1 with rfl|rfl|rfl|rfl|rfl<;>first|exact yhb _ (by rfl')|rfl'
 | _=>exact g.elim
def LF.c (h:PF n ar q) (k:LF n ar l) (hl:l.length<=80):LF n ar (q::l):=⟨List.forall_mem_cons.2 ⟨h,k.1⟩,by rw [length_cons];omega⟩
def LF.f (k:LF n ar l):frs (sd l):=by
 have e:∀ l:List Q,(∀ q∈l,PF n ar q)->frs (wr l):=fun l=>by
  induction l with
  | nil=>exact fun _=>yku
  | cons q l ih=>exact fun h=>ycS (yhb _ (by rfl')) (yeS (h q mem_cons_self).2 (ih fun q hq=>h q (mem_cons_of_mem _ hq)))
 refine ycS (yhb _ (by rfl')) (yeS ?_ (ycS (yhb _ (by rfl')) yku));cases l with
 | nil=>exact yku
 | cons q l=>exact yeS (k.1 q mem_cons_self).2 (e l fun q hq=>k.1 q (mem_cons_of_mem _ hq))
def LF.t (k:LF n ar l):Tk "side_taken" (yq (n+2)) [.int ar] (.lst (l.map (·.1))) (sd l):=yBx (fun q hq=>(k.1 q hq).1) k.2
def yFA (ha:ar<=8) (A:LF n (ar+1) a) (B:LF n (ar+1) b):PF (n+4) ar (eQ a b):=⟨⟨(yrS ha).1 (yuP A.t B.t),_,_,rfl,eq_false (by rfl')⟩,ycS (yhb _ (by rfl')) (yeS A.f (ycS (yhb _ (by rfl')) B.f))⟩
def yBY (ha:ar<=8) (g:sl s) (A:LF n (ar+1) a) (B:LF n (ar+1) b):PF (n+4) ar (iQ s a b):=⟨⟨yuQ ha (yFw g.1 A.t B.t),_,_,rfl,eq_false (by rfl')⟩,ycS (yhb _ (by rfl')) (ycS g.2 (yeS A.f (ycS (yhb _ (by rfl')) B.f)))⟩
def yFB (ha:ar<=8) (gn:yhW nm/\fr nm) (g:sl s) (A:LF n (ar+1) a) (B:LF n (ar+1) b):PF (n+4) ar (tQ nm s a b):=⟨⟨(yrS ha).2 (yEa gn.1 g.1 A.t B.t),_,_,rfl,eq_false (by rfl')⟩,ycS (yhb _ (by rfl')) (yeS A.f (ycS (yhb _ (by rfl')) (ycS gn.2 (ycS g.2 B.f))))⟩
def ydL (g:gdR r):yzl (pl r):=by
 have k:=yCu (n:=43) (ar:=0) g (by decide);refine ⟨k.1,?_,?_,⟨k.2,?_⟩,fun _=>Nat.le_add_left 1 9⟩
 .cases r<;>first|exact g.elim|exact fun _=>by kernel_rfl!
 .cases r with
  | reckon w a b c=>rcases ywg g.1 with rfl|rfl|rfl|rfl|rfl<;>exact fun _ _=>by kernel_rfl!
  | _=>first|exact g.elim|exact fun _ _=>by kernel_rfl!
 .cases r<;>first|exact g.elim|exact of_decide_eq_true (by kernel_rfl!)
def ypG (k:PF 44 0 q) (lg:∀ h:AH,ypm "long" (ylL 44) (ye 0) [.val q.1] h=some (.int ((f 0).length:Nat),h)) (rw:∀ (k:Int) (h:AH),ydB 44 [q.1,.int k] h=some (.lst ((f k).map yT),h)) (fs:decide (q.2.length<=40)=true) (ln:∀ k,(f k).length<=10):AllOk [(q,f)]:=.c ⟨k.1,lg,rw,⟨k.2,of_decide_eq_true fs⟩,ln⟩ .n
end
def yyS {a b:Str}(e:a.cps.toList=b.cps.toList):a=b:=by cases a;cases b;exact congrArg _ (Array.toList_inj.mp e)
def yEi (a b:Str):(a++b).cps.toList=a.cps.toList++b.cps.toList:=Array.toList_append
def yBZ (s a b:Str) (r:List Str):Str.join s (a::b::r)=a++s++Str.join s (b::r):=rfl
def join_1 (s a:Str):Str.join s [a]=a:=rfl
def pcs (x y N:Int):Nat->List Pc
 | 0=>[pl (.let_ "a" x),pl (.take "b" "a"),pl (.reckon "plus" "b" "b" "h"),pl (.put "a" "b")]
 | 1=>[pl (.let_ "c" N)]
 | 2=>[pl (.let_ "a" x),pl (.take "b" "a")]
 | 3=>[pl (.let_ "a" x),pl (.put "a" "c")]
 | 4=>[pl (.let_ "a" x),pl (.take "b" "a"),(iQ "b" [] [qR .wait],fun f=>[.unl "b" (f+3-1),.jump (f+3),.wait])]
 | 5=>[(eQ [qR (.let_ "a" x),qR (.take "b" "a"),qR (.put "a" "h"),iQ "b" [qR .wait] []] [qR (.let_ "c" N)],fun f=>[.either (f+10-1),.let_ "a" x,.take "b" "a",.put "a" "h",.unl "b" (f+1+3+3-0),.wait,.jump (f+1+3+3),.settle,.jump (f+10),.let_ "c" N])]
 | 6=>[(tQ "x" "e" [qR (.let_ "a" x),qR (.put "a" "h"),qR (.take "b" "a"),qR (.throw "x" "c")] [qR (.let_ "d" y),qR (.take "f" "d")],fun f=>[.guard "x" "e" (f+9-2),.let_ "a" x,.put "a" "h",.take "b" "a",.throw "x" "c",.settle,.jump (f+9),.let_ "d" y,.take "f" "d"])]
 | 7=>[pl (.let_ "a" x),pl (.take "b" "a"),(iQ "b" [qR (.throw "y" "b")] [],fun f=>[.unl "b" (f+3-0),.throw "y" "b",.jump (f+3)])]
 | 8=>[pl (.let_ "a" x),pl (.let_ "d" y),pl (.take "b" "a"),pl (.take "e" "d"),pl (.reckon "less" "f" "b" "e"),(iQ "f" [qR (.put "a" "e"),qR (.put "d" "b")] [],fun f=>[.unl "f" (f+4-0),.put "a" "e",.put "d" "b",.jump (f+4)])]
 | _=>[pl (.let_ "a" x),pl (.let_ "d" y),pl (.take "b" "a"),(iQ "b" [qR (.reckon "minus" "b" "b" "h"),qR (.put "a" "b"),qR (.put "d" "h")] [qR .wait],fun f=>[.unl "b" (f+6-1),.reckon "minus" "b" "b" "h",.put "a" "b",.put "d" "h",.jump (f+6),.wait])]
noncomputable def pcS (A D N:Str):Nat->Str
 | 0=>A++" ; take b a ; plus b b h ; put a b"
 | 1=>"let c "++N
 | 2=>A++" ; take b a"
 | 3=>A++" ; put a c"
 | 4=>A++" ; take b a ; if b ( ) else ( wait )"
 | 5=>"either ( "++A++" ; take b a ; put a h ; if b ( wait ) else ( ) ) or"++" ( let c "++N++" )"
 | 6=>"try ( "++A++" ; put a h ; take b a ; throw x c ) on x e ( "++D++" ; take f d )"
 | 7=>A++" ; take b a ; if b ( throw y b ) else ( )"
 | 8=>A++" ; "++D++" ; take b a ; take e d ; less f b e ; if f ( put a e ; put d b ) else ( )"
 | _=>A++" ; "++D++" ; take b a ; if b ( minus b b h ; put a b ; put d h ) else ( wait )"
def yzm {P:Nat->Prop}(h0:P 0) (h1:P 1) (h2:P 2) (h3:P 3) (h4:P 4) (h5:P 5) (h6:P 6) (h7:P 7) (h8:P 8) (h9:P 9):∀ j,j<10->P j
 | 0,_=>h0|1,_=>h1|2,_=>h2|3,_=>h3|4,_=>h4|5,_=>h5|6,_=>h6|7,_=>h7|8,_=>h8|9,_=>h9
 | n+10,h=>absurd h (by omega)
section
variable {x y N:Int}
def yCa (hx:0<=x/\x<B64) (hy:0<=y/\y<B64) (hN:0<=N/\N<B64):∀ j,j<10->AllOk (pcs x y N j):=by
 have W:∀ n ar,ar<=8->PF (n+1) ar (qR .wait):=fun n ar ha=>yCu trivial ha
 have la:gdR (.let_ "a" x):=⟨slA,hx⟩
 have ld:gdR (.let_ "d" y):=⟨slD,hy⟩
 have lc:gdR (.let_ "c" N):=⟨slC,hN⟩
 have tk:gdR (.take "b" "a"):=⟨yoL,slA⟩
 have nx:yhW "x"/\fr "x":=⟨fun _=>by kernel_rfl!,yhb _ (by rfl')⟩
 have ny:yhW "y"/\fr "y":=⟨fun _=>by kernel_rfl!,yhb _ (by rfl')⟩
 have P:∀ {r:Rw}{n:Nat},gdR r->PF (n+1) 1 (qR r):=fun g=>yCu g (by decide)
 apply yzm
 .exact .c (ydL la) (.c (ydL tk) (.c (ydL ⟨by simp [W5],yoL,yoL,slH⟩) (.c (ydL ⟨slA,yoL⟩) .n)))
 .exact .c (ydL lc) .n
 .exact .c (ydL la) (.c (ydL tk) .n)
 .exact .c (ydL la) (.c (ydL ⟨slA,slC⟩) .n)
 .exact .c (ydL la) (.c (ydL tk) (ypG (yBY (n:=40) (by decide) yoL .n (.c (P (n:=39) trivial) .n (by decide))) (fun _=>by kernel_rfl!) (fun _ _=>by kernel_rfl!) (by kernel_rfl!) fun _=>Nat.le_add_left 3 7))
 .exact ypG (yFA (n:=40) (by decide) (.c (P (n:=39) la) (.c (P (n:=39) tk) (.c (P (n:=39) ⟨slA,slH⟩) (.c (yBY (n:=36) (by decide) yoL (.c (yCu (n:=35) trivial (by decide)) .n (by decide)) .n) .n (by decide)) (Nat.le_of_ble_eq_true rfl)) (Nat.le_of_ble_eq_true rfl)) (Nat.le_of_ble_eq_true rfl)) (.c (P (n:=39) lc) .n (by decide))) (fun _=>by kernel_rfl!) (fun _ _=>by kernel_rfl!) (by kernel_rfl!) fun _=>Nat.le_add_left 10 0
 .exact ypG (yFB (n:=40) (by decide) nx slE (.c (P (n:=39) la) (.c (P (n:=39) ⟨slA,slH⟩) (.c (P (n:=39) tk) (.c (P (n:=39) ⟨nx,slC⟩) .n (by decide)) (Nat.le_of_ble_eq_true rfl)) (Nat.le_of_ble_eq_true rfl)) (Nat.le_of_ble_eq_true rfl)) (.c (P (n:=39) ld) (.c (P (n:=39) ⟨slF,slD⟩) .n (by decide)) (Nat.le_of_ble_eq_true rfl))) (fun _=>by kernel_rfl!) (fun _ _=>by kernel_rfl!) (by kernel_rfl!) fun _=>Nat.le_add_left 9 1
 .exact .c (ydL la) (.c (ydL tk) (ypG (yBY (n:=40) (by decide) yoL (.c (P (n:=39) ⟨ny,yoL⟩) .n (by decide)) .n) (fun _=>by kernel_rfl!) (fun _ _=>by kernel_rfl!) (by kernel_rfl!) fun _=>Nat.le_add_left 3 7))
 .exact .c (ydL la) (.c (ydL ld) (.c (ydL tk) (.c (ydL ⟨slE,slD⟩) (.c (ydL ⟨by simp [W5],slF,yoL,slE⟩) (ypG (yBY (n:=40) (by decide) slF (.c (P (n:=39) ⟨slA,slE⟩) (.c (P (n:=39) ⟨slD,yoL⟩) .n (by decide)) (Nat.le_of_ble_eq_true rfl)) .n) (fun _=>by kernel_rfl!) (fun _ _=>by kernel_rfl!) (by kernel_rfl!) fun _=>Nat.le_add_left 4 6)))))
 .exact .c (ydL la) (.c (ydL ld) (.c (ydL tk) (ypG (yBY (n:=40) (by decide) yoL (.c (P (n:=39) ⟨by simp [W5],yoL,yoL,slH⟩) (.c (P (n:=39) ⟨slA,yoL⟩) (.c (P (n:=39) ⟨slD,slH⟩) .n (by decide)) (Nat.le_of_ble_eq_true rfl)) (Nat.le_of_ble_eq_true rfl)) (.c (P (n:=39) trivial) .n (by decide))) (fun _=>by kernel_rfl!) (fun _ _=>by kernel_rfl!) (by kernel_rfl!) fun _=>Nat.le_add_left 6 4)))
def yyT:∀ j,j<10->pcS ("let a "++tI x) ("let d "++tI y) (tI N) j=Str.join " ; " ((pcs x y N j).map fun p=>Str.join " " p.1.2):=by apply yzm<;>refine yyS ?_<;>simp only [pcS,pcs,wR,iQ,eQ,tQ,sd,map_cons,map_nil,wl,wr,List.cons_append,List.nil_append,append_nil,yBZ,join_1,yEi,append_assoc]<;>kernel_rfl!
end
noncomputable def shR (f:Int):Rw->Rw
 | .either k=>.either (f+k)
 | .guard a b k=>.guard a b (f+k)
 | .jump k=>.jump (f+k)
 | .unl s k=>.unl s (f+k)
 | r=>r
noncomputable def zn:Nat->Option Nat->List Rw->List (Option Nat)
 | _,_,[]=>[]
 | i,z,r::l=>z::zn (i+1) (match r with|.either _=>some i|.guard ..=>some i|.settle=>none|_=>z) l
def zo (S:List Rw) (i:Nat):Option Nat:=((zn 0 none S)[i]?).getD none
def tg (S:List Rw) (k:Int) (z:Option Nat):Bool:=decide (0<=k) && decide (k.toNat<=S.length) && (zo S k.toNat == z)
def ckR (S:List Rw) (i:Nat):Rw->Bool
 | .unl _ k=>(zo S (i+1) == zo S i) && tg S k (zo S i)
 | .jump k=>tg S k (zo S i)
 | .either k=>(zo S i == none) && (zo S (i+1) == some i) && tg S k none
 | .guard _ _ k=>(zo S i == none) && (zo S (i+1) == some i) && tg S k none
 | .settle=>(zo S i).isSome && (zo S (i+1) == none)
 | .wait=>true
 | .throw ..=>true
 | .lay=>false
 | _=>zo S (i+1) == zo S i
def chk (S:List Rw):Bool:=decide (0<S.length) && (List.range S.length).all fun i=>(match S[i]? with|some r=>okR r && ckR S i r|none=>false) && (match zo S i with|none=>true|some j=>(match S[j]? with|some b=>yhZ b && okR b && tg S (toB b) none|none=>false))
def DR:List (List Rw)->Nat->List Rw
 | [],_=>[.lay]
 | S::l,f=>S.map (shR f)++DR l (f+S.length)
def zR (S:List Rw) (f i:Nat):Option Rw:=(zo S i).bind fun j=>(S[j]?).map (shR f)
def Pos:List (List Rw)->Nat->Nat->Option Rw->Prop
 | [],f,t,z=>t=f/\z=none
 | S::l,f,t,z=>(∃ i,i<S.length/\t=f+i/\z=zR S f i)\/Pos l (f+S.length) t z
noncomputable def cnd (P:Nat->Option Rw->Prop) (t:Nat) (z:Option Rw):Rw->Prop
 | .unl _ k=>P (t+1) z/\P k.toNat z
 | .jump k=>P k.toNat z
 | .either k=>z=none/\P (t+1) (some (.either k))/\P k.toNat none
 | .guard a b k=>z=none/\P (t+1) (some (.guard a b k))/\P k.toNat none
 | .settle=>z≠none/\P (t+1) none
 | .wait=>True
 | .throw ..=>True
 | .lay=>z=none
 | _=>P (t+1) z
def yzn:Rw->Prop|.let_ _ n=>0<=n/\n<B64|_=>True
structure ywm (rws:List Rw) (P:Nat->Option Rw->Prop):Prop where
 st:P 0 none
 nx:∀ t z,P t z->∃ r,rws[t]?=some r/\okR r=true/\cnd P t z r
 zz:∀ t b,P t (some b)->yhZ b=true/\okR b=true/\P (toB b).toNat none
 lt:∀ r∈rws,yzn r
def yvj {P Q:Nat->Option Rw->Prop}(h:∀ t z,P t z->Q t z) (c:cnd P t z r):cnd Q t z r:=by
 cases r with
 | unl s k=>exact ⟨h _ _ c.1,h _ _ c.2⟩
 | jump k=>exact h _ _ c
 | either k=>exact ⟨c.1,h _ _ c.2.1,h _ _ c.2.2⟩
 | guard a b k=>exact ⟨c.1,h _ _ c.2.1,h _ _ c.2.2⟩
 | settle=>exact ⟨c.1,h _ _ c.2⟩
 | wait=>trivial
 | throw a b=>trivial
 | lay=>exact c
 | _=>exact h _ _ c
section
variable {S:List Rw}{l:List (List Rw)}{f:Nat}
def yFC:zo S 0=none:=by unfold zo;cases S<;>rfl
def Pos.st:∀ {l:List (List Rw)}{f:Nat},(∀ S∈l,chk S=true)->Pos l f f none
 | [],_,_=>⟨rfl,rfl⟩
 | S::l,f,H=>.inl ⟨0,by have:=H S mem_cons_self;unfold chk at this;rw [Bool.and_eq_true_iff] at this;exact of_decide_eq_true this.1,rfl,by unfold zR;rw [yFC];rfl⟩
def yoM (H:∀ S∈l,chk S=true) (hk:k<=S.length):Pos (S::l) f (f+k) (zR S f k):=by
 by_cases e:k<S.length
 .exact .inl ⟨k,e,rfl,rfl⟩
 .have:k=S.length:=by omega
  subst this;refine .inr ?_;have zl:∀ (S:List Rw) (i:Nat) (z:Option Nat),(zn i z S).length=S.length:=fun S=>by
   induction S with
   | nil=>intro _ _;rfl
   | cons r S ih=>intro i z;show (zn _ _ S).length+1=_;rw [ih];rfl
  have e1:zR S f S.length=none:=by unfold zR zo;rw [getElem?_eq_none (by rw [zl];omega)];rfl
  rw [e1];exact Pos.st H
def ywn (H:∀ S∈l,chk S=true) (e:tg S k z=true):Pos (S::l) f ((f:Int)+k).toNat (z.bind fun j=>(S[j]?).map (shR f)):=by unfold tg at e;simp only [Bool.and_eq_true_iff,decide_eq_true_eq,beq_iff_eq] at e;have:=yoM (f:=f) H e.1.2;unfold zR at this;rw [e.2] at this;rwa [show ((f:Int)+k).toNat=f+k.toNat by omega]
def ywo (e:okR r=true):okR (shR f r)=true:=by cases r<;>simp only [shR,okR,Bool.and_eq_true_iff,decide_eq_true_eq] at e ⊢<;>first|exact e|omega|exact ⟨e.1,by omega⟩
theorem ysx:∀ (l:List (List Rw)) (f t:Nat) (z:Option Rw),(∀ S∈l,chk S=true)->Pos l f t z->f<=t/\(∃ r,(DR l f)[t-f]?=some r/\okR r=true/\cnd (Pos l f) t z r)/\∀ b,z=some b->yhZ b=true/\okR b=true/\Pos l f (toB b).toNat none
 | [],f,t,z,_,⟨e1,e2⟩=>by subst e1;exact ⟨Nat.le_refl _,⟨.lay,by rw [sub_self];rfl,rfl,e2⟩,fun b e=>by rw [e2] at e;cases e⟩
 | S::l,f,t,z,H,.inr p=>by obtain ⟨h1,⟨r,h2,h3,h4⟩,h5⟩:=ysx l (f+S.length) t z (fun S h=>H S (mem_cons_of_mem _ h)) p;refine ⟨by omega,⟨r,?_,h3,yvj (fun _ _=>.inr) h4⟩,fun b e=>⟨(h5 b e).1,(h5 b e).2.1,.inr (h5 b e).2.2⟩⟩;show (S.map (shR f)++DR l (f+S.length))[t-f]?=_;rw [getElem?_append_right (by rw [length_map];omega),length_map,show t-f-S.length=t-(f+S.length) by omega,h2]
 | S::l,f,t,z,H,.inl ⟨i,hi,et,ez⟩=>by
  have C:=H S mem_cons_self;have H':=fun S h=>H S (mem_cons_of_mem _ h)
  unfold chk at C;rw [Bool.and_eq_true_iff] at C;have c:=List.all_eq_true.mp C.2 i (List.mem_range.mpr hi);rw [Bool.and_eq_true_iff] at c;obtain ⟨c1,c2⟩:=c;rw [List.getElem?_eq_getElem hi] at c1;rw [Bool.and_eq_true_iff] at c1;obtain ⟨o1,o2⟩:=c1;subst et;have N:zo S (i+1)=zo S i->Pos (S::l) f (f+i+1) z:=fun e=>by have:=yoM (f:=f) (k:=i+1) H' hi;unfold zR at this;rw [e] at this;rw [ez];exact this
  have T:∀ {k:Int},tg S k (zo S i)=true->Pos (S::l) f ((f:Int)+k).toNat z:=fun e=>by rw [ez];exact ywn H' e
  have T0:∀ {k:Int},tg S k none=true->Pos (S::l) f ((f:Int)+k).toNat none:=fun e=>ywn H' e
  have B:∀ {b:Rw},S[i]=b->zo S (i+1)=some i->Pos (S::l) f (f+i+1) (some (shR f b)):=fun eb e=>by have:=yoM (f:=f) (k:=i+1) H' hi;unfold zR at this;rw [e,bind_some,List.getElem?_eq_getElem hi,eb] at this;exact this
  refine ⟨by omega,⟨shR f S[i],?_,ywo o1,?_⟩,fun b e=>?_⟩
  .show (S.map (shR f)++DR l (f+S.length))[f+i-f]?=_;rw [getElem?_append_left (by rw [length_map];omega),getElem?_map,show f+i-f=i by omega,List.getElem?_eq_getElem hi];rfl
  .generalize er:S[i]=r at *;cases r with
   | unl s k =>
    simp only [ckR,Bool.and_eq_true_iff,beq_iff_eq] at o2;exact ⟨N o2.1,T o2.2⟩
   | jump k=>exact T o2
   | either k =>
    simp only [ckR,Bool.and_eq_true_iff,beq_iff_eq] at o2;exact ⟨by rw [ez];unfold zR;rw [o2.1.1];rfl,B rfl o2.1.2,T0 o2.2⟩
   | guard a b k =>
    simp only [ckR,Bool.and_eq_true_iff,beq_iff_eq] at o2;exact ⟨by rw [ez];unfold zR;rw [o2.1.1];rfl,B rfl o2.1.2,T0 o2.2⟩
   | settle =>
    simp only [ckR,Bool.and_eq_true_iff,beq_iff_eq] at o2;have p:=yoM (f:=f) (k:=i+1) H' hi;unfold zR at p;rw [o2.2] at p;refine ⟨fun e=>?_,p⟩;obtain ⟨j,ej⟩:=Option.isSome_iff_exists.mp o2.1;rw [ej] at c2;rw [e] at ez;unfold zR at ez;rw [ej,bind_some] at ez;dsimp only at c2;cases q:S[j]? with
    | none=>rw [q] at c2;cases c2
    | some b=>rw [q] at ez;cases ez
   | wait=>trivial
   | throw a b=>trivial
   | lay=>cases o2
   | _=>exact N (by simpa [ckR] using o2)
  .rw [ez] at e;unfold zR at e;cases ej:zo S i with
   | none=>rw [ej] at e;cases e
   | some j =>
    rw [ej,bind_some] at e;rw [ej] at c2;dsimp only at c2;cases q:S[j]? with
    | none=>rw [q] at e;cases e
    | some b' =>
     rw [q] at e c2;cases e;simp only [Bool.and_eq_true_iff] at c2;refine ⟨?_,ywo c2.1.2,?_⟩
     .revert c2;cases b'<;>simp [yhZ,shR]
     .have:=T0 c2.2
      revert this c2;cases b'<;>simp [yhZ,shR,toB]
end
theorem ywp:∀ {l:List (List Rw)}{f:Nat},(∀ S∈l,∀ r∈S,yzn r)->∀ r∈DR l f,yzn r
 | [],_,_,r,h=>by rw [List.mem_singleton.mp h];trivial
 | S::l,f,H,r,h=>by
  rcases List.mem_append.mp h with h|h
  .obtain ⟨q,hq,rfl⟩:=List.mem_map.mp h;have:=H S mem_cons_self q hq;cases q<;>exact this
  .exact ywp (fun S h=>H S (mem_cons_of_mem _ h)) r h
def yyU (H:∀ S∈l,chk S=true) (K:∀ S∈l,∀ r∈S,yzn r):ywm (DR l 0) (Pos l 0):=⟨Pos.st H,fun t z p=>(ysx l 0 t z H p).2.1,fun t b p=>(ysx l 0 t _ H p).2.2 b rfl,ywp K⟩
noncomputable def sgR (x y N:Int):Nat->List Rw
 | 0=>[.let_ "a" x,.take "b" "a",.reckon "plus" "b" "b" "h",.put "a" "b"]
 | 1=>[.let_ "c" N]
 | 2=>[.let_ "a" x,.take "b" "a"]
 | 3=>[.let_ "a" x,.put "a" "c"]
 | 4=>[.let_ "a" x,.take "b" "a",.unl "b" 4,.jump 5,.wait]
 | 5=>[.either 9,.let_ "a" x,.take "b" "a",.put "a" "h",.unl "b" 7,.wait,.jump 7,.settle,.jump 10,.let_ "c" N]
 | 6=>[.guard "x" "e" 7,.let_ "a" x,.put "a" "h",.take "b" "a",.throw "x" "c",.settle,.jump 9,.let_ "d" y,.take "f" "d"]
 | 7=>[.let_ "a" x,.take "b" "a",.unl "b" 5,.throw "y" "b",.jump 5]
 | 8=>[.let_ "a" x,.let_ "d" y,.take "b" "a",.take "e" "d",.reckon "less" "f" "b" "e",.unl "f" 9,.put "a" "e",.put "d" "b",.jump 9]
 | _=>[.let_ "a" x,.let_ "d" y,.take "b" "a",.unl "b" 8,.reckon "minus" "b" "b" "h",.put "a" "b",.put "d" "h",.jump 9,.wait]
section
variable {x y N:Int}
def yCb:∀ j,j<10->chk (sgR x y N j)=true:=by apply yzm<;>kernel_rfl!
def yEj:∀ j,j<10->cat (pcs x y N j) (f:Nat)=(sgR x y N j).map (shR f):=by apply yzm<;>simp [cat,pcs,sgR,shR]<;>omega
def ywq:∀ j,j<10->lgs (pcs x y N j)<=10/\(pcs x y N j).length<=6/\(pcs x y N j).length≠0:=by apply yzm<;>exact ⟨of_decide_eq_true (by kernel_rfl!),of_decide_eq_true (by kernel_rfl!),of_decide_eq_true (by kernel_rfl!)⟩
end
theorem ysy:∀ {a b:List Pc}{f:Int},cat (a++b) f=cat a f++cat b (f+((cat a f).length:Nat))
 | [],b,f=>by simp [cat]
 | p::a,b,f=>by show p.2 f++cat (a++b) _=p.2 f++cat a _++_;rw [ysy,append_assoc,show cat (p::a) f=p.2 f++cat a (f+((p.2 f).length:Nat)) from rfl,length_append,Int.natCast_add,Int.add_assoc]
structure Pce where
 j:Nat
 x:Int
 y:Int
 N:Int
structure Pce.Ok (p:Pce):Prop where
 j:p.j<10
 x:0<=p.x/\p.x<B64
 y:0<=p.y/\p.y<B64
 N:0<=p.N/\p.N<B64
def Pce.pc (p:Pce):List Pc:=pcs p.x p.y p.N p.j
def Pce.sg (p:Pce):List Rw:=sgR p.x p.y p.N p.j
def Pce.tx (p:Pce):Str:=pcS ("let a "++tI p.x) ("let d "++tI p.y) (tI p.N) p.j
def dSg (ps:List Pce):List (List Rw):=[.let_ "h" 1]::ps.map Pce.sg
def dTx (ps:List Pce):Str:=Str.join " ; " ("let h 1"::ps.map Pce.tx)
theorem yCc:∀ {ps:List Pce}{f:Nat},(∀ p∈ps,p.Ok)->cat (ps.flatMap Pce.pc) (f:Nat)++[Rw.lay]=DR (ps.map Pce.sg) f
 | [],_,_=>rfl
 | p::ps,f,H=>by have P:=H p mem_cons_self;have e:cat p.pc (f:Nat)=p.sg.map (shR f):=yEj _ P.j;rw [List.flatMap_cons,ysy,e,append_assoc,length_map];show _++(cat (ps.flatMap Pce.pc) ((f+p.sg.length:Nat):Int)++_)=p.sg.map (shR f)++DR (ps.map Pce.sg) _;rw [yCc fun p h=>H p (mem_cons_of_mem _ h)]
theorem ysz:∀ (ls:List (List Str)) (a:List Str),a≠[]->(∀ l∈ls,l≠[])->Str.join s (Str.join s a::ls.map (Str.join s))=Str.join s (a++ls.flatten)
 | [],a,_,_=>by rw [List.flatten_nil,append_nil];rfl
 | l::ls,a,ha,H=>by have hl:=H l mem_cons_self;show Str.join s a++s++Str.join s (Str.join s l::ls.map (Str.join s))=_;rw [ysz ls l hl fun l h=>H l (mem_cons_of_mem _ h),List.flatten_cons,yhp ha fun z=>hl (List.append_eq_nil_iff.mp z).1]
def ywr (H:∀ p∈ps,p.Ok) (hl:ps.length<=3):Rdb (dTx ps,DR (dSg ps) 0)/\(dTx ps).length<=69000:=by
 have e0:DR (dSg ps) 0=cat (pl (.let_ "h" 1)::ps.flatMap Pce.pc) 0++[Rw.lay]:=by
  show Rw.let_ "h" 1::DR (ps.map Pce.sg) 1=Rw.let_ "h" 1::(cat (ps.flatMap Pce.pc) ((1:Nat):Int)++[Rw.lay])
  rw [yCc H]
 rw [e0];have q:∀ ps:List Pce,(∀ p∈ps,p.Ok)->AllOk (ps.flatMap Pce.pc)/\(ps.flatMap Pce.pc).length<=6*ps.length/\lgs (ps.flatMap Pce.pc)<=10*(ps.length:Int):=by
  intro ps
  induction ps with
  | nil=>exact fun _=>⟨.n,Nat.le_refl _,Int.le_refl _⟩
  | cons p ps ih =>
   intro H;obtain ⟨i1,i2,i3⟩:=ih fun p h=>H p (mem_cons_of_mem _ h)
   have P:=H p mem_cons_self;obtain ⟨l1,l2,_⟩:=ywq (x:=p.x) (y:=p.y) (N:=p.N) p.j P.j;have e:lgs ((p::ps).flatMap Pce.pc)=lgs p.pc+lgs (ps.flatMap Pce.pc):=by unfold lgs;rw [List.flatMap_cons,map_append,List.sum_append]
   refine ⟨fun q hq=>?_,?_,?_⟩
   .rw [List.flatMap_cons] at hq;rcases List.mem_append.mp hq with hq|hq
    .exact yCa P.x P.y P.N p.j P.j q hq
    .exact i1 q hq
   .rw [List.flatMap_cons,length_append,length_cons];show (pcs p.x p.y p.N p.j).length+_<=_;omega
   .rw [e,length_cons];show lgs (pcs p.x p.y p.N p.j)+_<=_;omega
 obtain ⟨q1,q2,q3⟩:=q ps H;refine yBX (.c (ydL (r:=.let_ "h" 1) ⟨slH,by decide⟩) q1) ?_ (by omega) ?_
 .unfold dTx;rw [show ps.map Pce.tx=(ps.map fun p=>p.pc.map fun p=>Str.join " " p.1.2).map (Str.join " ; ") by rw [map_map];exact List.map_congr_left fun p hp=>yyT _ (H p hp).j]
  refine (ysz (s:=" ; ") _ ["let h 1"] (fun z=>by cases z) fun l hl=>?_).trans ?_
  .obtain ⟨p,hp,rfl⟩:=List.mem_map.mp hl;intro z;have:=congrArg length z;rw [length_map] at this;exact (ywq _ (H p hp).j).2.2 this
  .rw [map_cons,List.map_flatMap,List.flatMap_def];rfl
 .unfold lgs at q3 ⊢;rw [map_cons,List.sum_cons];show ((1:Nat):Int)+_<=79;omega
def yCd (hx:0<=x/\x<B64) (hy:0<=y/\y<B64) (hN:0<=N/\N<B64):∀ j,j<10->∀ r∈sgR x y N j,yzn r:=by apply yzm<;>simp [sgR,yzn,hx,hy,hN]
def yyV (H:∀ p∈ps,p.Ok):ywm (DR (dSg ps) 0) (Pos (dSg ps) 0):=yyU (fun S hS=>by
 rcases mem_cons.mp hS with rfl|hS
 .kernel_rfl!
 .obtain ⟨p,hp,rfl⟩:=List.mem_map.mp hS;exact yCb _ (H p hp).j) fun S hS=>by
 rcases mem_cons.mp hS with rfl|hS
 .intro r hr;rw [List.mem_singleton.mp hr];exact ⟨by decide,by decide⟩
 .obtain ⟨p,hp,rfl⟩:=List.mem_map.mp hS;exact yCd (H p hp).x (H p hp).y (H p hp).N _ (H p hp).j
def inB (v:Int):Prop:=0<=v/\v<B64
def GV (l:List Int):Prop:=l.length=8/\∀ v∈l,inB v
noncomputable def DOk (W:Nat) (d:List Key×List PV):Prop:=∃ m:List (Nat×Int×Int),d=(sK m,sA m)/\(m.map (·.1)).Nodup/\∀ p∈m,p.1<W/\inB p.2.1
def yEk:inB (rk w x y):=by
 unfold rk inB;have:=yrH (x+y) (show (0:Int)<B64 by decide);have:=yrH (x-y) (show (0:Int)<B64 by decide);have:=yrH (x*y) (show (0:Int)<B64 by decide)
 repeat' split
 all_goals first|assumption|exact ⟨by decide,by decide⟩
def in0:inB 0:=⟨by decide,by decide⟩
def GV.at_ (g:GV l) (k:Nat):inB (l.getD k 0):=by
 by_cases e:k<l.length
 .rw [getD_eq_getElem?_getD,List.getElem?_eq_getElem e];exact g.2 _ (getElem_mem e)
 .rw [getD_eq_getElem?_getD,getElem?_eq_none (by omega)];exact in0
theorem GV.set (g:GV l) (hv:inB v):GV (l.set k v):=⟨by rw [length_set];exact g.1,fun u hu=>(List.mem_or_eq_of_mem_set hu).elim (g.2 u) fun e=>e ▸ hv⟩
section
variable {W:Nat}{d e:List Key×List PV}{dd:List (List Key×List PV)}
def DOk.nil:DOk W ([],[]):=⟨[],rfl,List.nodup_nil,fun _ h=>by cases h⟩
def DOk.put (D:DOk W d) (hk:k<W) (hv:inB v):DOk W (ycM d.1 d.2 (.inl (k:Int)) (.int v)):=by
 obtain ⟨m,rfl,nd,hb⟩:=D;refine ⟨ydE m k v 0,yyL (f:=fun p=>.int p.2.1) rfl,?_,fun p hp=>?_⟩
 .rw [yoJ];split
  .exact nd
  .rename_i e;rw [List.nodup_append];exact ⟨nd,by simp,fun x hx y hy z=>by rw [List.mem_singleton.mp hy] at z;exact e (z ▸ hx)⟩
 .rcases ysq hp with rfl|hp
  .exact ⟨hk,hv⟩
  .exact hb p hp
def DOk.mrg (D:DOk W d) (E:DOk W e):DOk W (yit d.1 d.2 e.1 e.2):=by
 obtain ⟨m,rfl,_,hb⟩:=D;have:∀ (m:List (Nat×Int×Int)) (e:List Key×List PV),(∀ p∈m,p.1<W/\inB p.2.1)->DOk W e->DOk W (yit (sK m) (sA m) e.1 e.2):=by
  intro m
  induction m with
  | nil=>exact fun e _ E=>E
  | cons p m ih=>exact fun e hb E=>ih _ (fun p h=>hb p (mem_cons_of_mem _ h)) (E.put (hb p mem_cons_self).1 (hb p mem_cons_self).2)
 exact this m e hb E
def DOk.len (D:DOk W d):d.1.length<=W:=by
 obtain ⟨m,rfl,nd,hb⟩:=D;have:=yid W _ nd fun k hk=>by obtain ⟨p,hp,rfl⟩:=List.mem_map.mp hk;exact (hb p hp).1
 show (m.map _).length<=W;rwa [length_map] at this ⊢
def DOk.get (D:DOk W d) (e:yjN d.1 d.2 j=some x):∃ v,x=.int v/\inB v:=by
 obtain ⟨m,rfl,_,hb⟩:=D;have:∀ m:List (Nat×Int×Int),(∀ p∈m,p.1<W/\inB p.2.1)->yjN (sK m) (sA m) j=some x->∃ v,x=.int v/\inB v:=by
  intro m
  induction m with
  | nil=>exact fun _ e=>by cases e
  | cons p m ih =>
   intro hb e;have e:(if (Sum.inl (p.1:Int):Key)=j then some (PV.int p.2.1) else yjN (sK m) (sA m) j)=some x:=e;split at e
   .cases e;exact ⟨_,rfl,(hb p mem_cons_self).2⟩
   .exact ih (fun p h=>hb p (mem_cons_of_mem _ h)) e
 exact this m hb e
theorem yws (H:∀ d∈dd,DOk W d) :∀ k,ywf dd j k=.non\/∃ v,ywf dd j k=.int v/\inB v
 | 0=>.inl rfl
 | k+1=>by
  unfold ywf;split
  .rename_i d hd;split
   .rename_i x hx;exact .inr ((H d (mem_of_getElem? hd)).get hx)
   .exact yws H k
  .exact .inl rfl
theorem ysA:∀ m:List (Nat×Int×Int),yrj (sK m)=some (m.map fun p=>(p.1:Int))
 | []=>rfl
 | p::m=>by show (yrj (sK m)).map ((p.1:Int)::·)=_;rw [ysA m];rfl
theorem yoN:∀ {l:List (Int×PV)}{p:Int×PV},p∈ynn l->p∈l
 | q::l,p,hp=>by
  have ins:∀ (l:List (Int×PV)),p∈yvV q l->p=q\/p∈l:=by
   intro l
   induction l with
   | nil=>exact fun h=>.inl (List.mem_singleton.mp h)
   | cons r l ih =>
    intro h;unfold yvV at h;split at h
    .exact mem_cons.mp h
    .rcases mem_cons.mp h with e|h
     .exact .inr (e ▸ mem_cons_self)
     .exact (ih h).imp id (mem_cons_of_mem _)
  rcases ins _ hp with rfl|h
  .exact mem_cons_self
  .exact mem_cons_of_mem _ (yoN h)
def ynB {m:List (Nat×Int×Int)}(hm:m.length<4):∃ ls:List (Nat×Int),sortI (sK m) (sA m)=some (ls.map ycR)/\∀ p∈ls,∃ q∈m,p=(q.1,q.2.1):=by
 have z:∀ m:List (Nat×Int×Int),(m.map fun p=>(p.1:Int)).zip (sA m)=m.map fun p=>((p.1:Int),PV.int p.2.1):=by
  intro m
  induction m with
  | nil=>rfl
  | cons p m ih=>show _::(m.map _).zip (sA m)=_;rw [ih];rfl
 have f:∀ l:List (Int×PV),(∀ p∈l,∃ q∈m,p=((q.1:Int),PV.int q.2.1))->∃ ls:List (Nat×Int),(l.map fun p=>PV.tup [.int p.1,p.2])=ls.map ycR/\∀ p∈ls,∃ q∈m,p=(q.1,q.2.1):=by
  intro l
  induction l with
  | nil=>exact fun _=>⟨[],rfl,fun _ h=>by cases h⟩
  | cons p l ih =>
   intro H;obtain ⟨ls,e,k⟩:=ih fun p h=>H p (mem_cons_of_mem _ h)
   obtain ⟨q,hq,rfl⟩:=H p mem_cons_self;refine ⟨(q.1,q.2.1)::ls,by rw [map_cons,e];rfl,fun p hp=>?_⟩;rcases mem_cons.mp hp with rfl|hp
   .exact ⟨q,hq,rfl⟩
   .exact k p hp
 obtain ⟨ls,e,k⟩:=f (ynn (m.map fun p=>((p.1:Int),PV.int p.2.1))) fun p hp=>by obtain ⟨q,hq,e⟩:=List.mem_map.mp (yoN hp);exact ⟨q,hq,e.symm⟩
 refine ⟨ls,?_,k⟩;unfold sortI;rw [ysA];dsimp only;rw [if_pos (by rw [length_map];omega),z,e]
end
def ZS (z:Option Rw) (sd:List (Rw×List Int)):Prop:=match z with|none=>sd=[]|some b=>∃ q,sd=[(b,q)]/\GV q
structure RW (W:Nat) (rws:List Rw) (P:Nat->Option Rw->Prop) (s:RS):Prop where
 ps:∃ z,P s.t z/\ZS z s.sd
 hs:GV s.hs
 dd:∀ d∈s.dd,DOk W d
 ln:s.dd.length=s.sd.length+1
section
variable {W:Nat}{rws:List Rw}{P:Nat->Option Rw->Prop}{s:RS}
def RW.ok (G:ywm rws P) (R:RW W rws P s) (hW:W<=16):okS s=true:=by
 obtain ⟨z,hp,hz⟩:=R.ps;unfold okS;simp only [and_eq_true,beq_iff_eq,decide_eq_true_eq,List.all_eq_true];have hd:∀ d∈s.dd,d.1.length<400:=fun d h=>by have:=(R.dd d h).len;omega
 cases z with
 | none =>
  have e:s.sd=[]:=hz;rw [e];exact ⟨⟨⟨⟨R.hs.1,by rw [R.ln,e]⟩,by decide⟩,fun _ h=>by cases h⟩,hd⟩
 | some b =>
  obtain ⟨q,e,gq⟩:=hz;obtain ⟨b1,b2,_⟩:=G.zz _ _ hp;rw [e];exact ⟨⟨⟨⟨R.hs.1,by rw [R.ln,e]⟩,by show 1<90;decide⟩,fun x hx=>by rw [List.mem_singleton.mp hx];exact ⟨⟨b1,b2⟩,gq.1⟩⟩,hd⟩
def RW.start (G:ywm rws P) (g:GV bf):RW W rws P (S0 bf):=⟨⟨none,G.st,rfl⟩,g,fun d h=>by rw [List.mem_singleton.mp h];exact .nil,rfl⟩
end
section
variable {W:Nat}{rws:List Rw}{P:Nat->Option Rw->Prop}{s:RS}{r:Rw}{z:Option Rw}
def yvk (hW:1<=W) (x:Int):∃ n:Nat,x%(W:Nat)=(n:Nat)/\n<W:=⟨(x%(W:Nat)).toNat,by have:=Int.emod_nonneg x (show ((W:Nat):Int)≠0 by omega);omega,by have:=Int.emod_lt_of_pos x (show (0:Int)<(W:Nat) by omega);omega⟩
theorem RW.go (G:ywm rws P) (R:RW W rws P s) (h1:1<=W) (hW:W<=16) (hp:P s.t z) (hz:ZS z s.sd) (er:rws[s.t]?=some r) (okr:okR r=true) (c:cnd P s.t z r) (lk:yhc W s r=false):∃ s',ypB W r s=some s'/\RW W rws P s'/\s'.sn=s.sn:=by
 have okk:(okR r && okS s)=true:=by rw [okr,R.ok G hW];rfl
 have lv:∀ {g:Rw->List Int->List Int},(∀ b q,GV q->GV (g b q))->¬tkL s.sd r s.sd.length=0->∃ s',yji s r g=some s'/\RW W rws P s'/\s'.sn=s.sn:=fun {g} hg hk=>by
  obtain ⟨L,hL⟩:∃ L,tkL s.sd r s.sd.length=L+1:=⟨tkL s.sd r s.sd.length-1,by omega⟩
  obtain ⟨x,hx,_⟩:=yko hL;cases z with
  | none=>rw [show s.sd=[] from hz] at hx;cases hx
  | some b =>
   obtain ⟨q,e,gq⟩:=hz;have l0:L=0:=by have:=(List.getElem?_eq_some_iff.mp hx).1;rw [e] at this;have:L<1:=this;omega
   subst l0;have ex:x=(b,q):=by rw [e] at hx;cases hx;rfl
   subst ex;have ln:=R.ln;rw [e] at ln;have ln:s.dd.length=2:=ln;refine ⟨⟨(toB b).toNat,g b q,s.sd.take 0,s.dd.take 1,s.sn⟩,?_,⟨⟨none,(G.zz _ _ hp).2.2,rfl⟩,hg b q gq,fun d hd=>R.dd d (List.mem_of_mem_take hd),?_⟩,rfl⟩
   .unfold yji;rw [hL];dsimp only;rw [hx]
   .show (s.dd.take 1).length=0+1;rw [length_take];omega
 unfold ypB;rw [if_pos okk];cases r with
 | let_ a n=>exact ⟨_,rfl,⟨⟨z,c,hz⟩,R.hs.set (G.lt _ (mem_of_getElem? er)),R.dd,R.ln⟩,rfl⟩
 | take a q =>
  dsimp only;rcases yws R.dd (j:=.inl (s.hs.getD (sx q) 0%(W:Nat))) s.dd.length with e|⟨v,e,hv⟩
  .have:isN (yrY s W q)=false:=lk;unfold yrY at this;rw [e] at this;cases this
  .have e:yrY s W q=.int v:=e;rw [e];exact ⟨_,rfl,⟨⟨z,c,hz⟩,R.hs.set hv,R.dd,R.ln⟩,rfl⟩
 | put p q =>
  obtain ⟨n,en,hn⟩:=yvk h1 (s.hs.getD (sx p) 0);have ne:s.dd≠[]:=fun e=>by have:=R.ln;rw [e] at this;simp at this
  refine ⟨_,rfl,⟨⟨z,c,hz⟩,R.hs,?_,?_⟩,rfl⟩
  .show ∀ d∈ygO s.dd _ _,DOk W d;unfold ygO;rw [List.getLast?_eq_some_getLast ne,en];intro d hd;rcases List.mem_append.mp hd with hd|hd
   .exact R.dd d (List.dropLast_subset _ hd)
   .rw [List.mem_singleton.mp hd];exact (R.dd _ (List.getLast_mem ne)).put hn (R.hs.at_ _)
  .show (ygO s.dd _ _).length=_;unfold ygO;rw [List.getLast?_eq_some_getLast ne];have:=R.ln;simp only [length_append,List.length_dropLast,List.length_singleton];show _=s.sd.length+1;omega
 | unl a k =>
  refine ⟨_,rfl,⟨⟨z,?_,hz⟩,R.hs,R.dd,R.ln⟩,rfl⟩;show P (if _ then _ else _) z;split
  .exact c.2
  .exact c.1
 | jump k=>exact ⟨_,rfl,⟨⟨z,c,hz⟩,R.hs,R.dd,R.ln⟩,rfl⟩
 | either k =>
  obtain ⟨rfl,c1,_⟩:=c;have e:s.sd=[]:=hz;refine ⟨_,rfl,⟨⟨some (.either k),c1,s.hs,?_,R.hs⟩,R.hs,?_,?_⟩,rfl⟩
  .show s.sd++_=_;rw [e];rfl
  .intro d hd;rcases List.mem_append.mp hd with hd|hd
   .exact R.dd d hd
   .rw [List.mem_singleton.mp hd];exact .nil
  .show (s.dd++_).length=(s.sd++_).length+1;rw [length_append,length_append,R.ln];rfl
 | guard a b k =>
  obtain ⟨rfl,c1,_⟩:=c;have e:s.sd=[]:=hz;refine ⟨_,rfl,⟨⟨some (.guard a b k),c1,s.hs,?_,R.hs⟩,R.hs,?_,?_⟩,rfl⟩
  .show s.sd++_=_;rw [e];rfl
  .intro d hd;rcases List.mem_append.mp hd with hd|hd
   .exact R.dd d hd
   .rw [List.mem_singleton.mp hd];exact .nil
  .show (s.dd++_).length=(s.sd++_).length+1;rw [length_append,length_append,R.ln];rfl
 | settle =>
  obtain ⟨c0,c1⟩:=c;cases z with
  | none=>exact absurd rfl c0
  | some b =>
   obtain ⟨q,e,gq⟩:=hz;have ln:=R.ln;rw [e] at ln;obtain ⟨e',d',ed⟩:∃ e' d',s.dd=[e',d']:=by
    match h:s.dd,ln with
    | [x,y],_=>exact ⟨x,y,rfl⟩
   have D:=R.dd;rw [ed] at D;dsimp only;rw [if_neg (by rw [e];exact fun z=>by cases z)];refine ⟨_,rfl,⟨⟨none,c1,?_⟩,R.hs,?_,?_⟩,rfl⟩
   .show s.sd.dropLast=[]
    rw [e];rfl
   .show ∀ d∈yjh s.dd,DOk W d;rw [ed];intro d hd;rw [List.mem_singleton.mp (show d∈[yit d'.1 d'.2 e'.1 e'.2] from hd)];exact (D d' (by simp)).mrg (D e' (by simp))
   .show (yjh s.dd).length=s.sd.dropLast.length+1;rw [ed,e];rfl
 | reckon v a p q =>
  dsimp only;rw [if_pos (show 0<=s.hs.getD (sx p) 0/\s.hs.getD (sx p) 0<B64 from R.hs.at_ _)];exact ⟨_,rfl,⟨⟨z,c,hz⟩,R.hs.set yEk,R.dd,R.ln⟩,rfl⟩
 | wait=>exact lv (fun _ _ g=>g) (by have:=of_decide_eq_false lk;omega)
 | throw a b=>exact lv (fun _ _ g=>g.set (R.hs.at_ _)) (by have:=of_decide_eq_false lk;omega)
 | lay=>cases lk
end
structure HW (W:Nat) (x:HD):Prop where
 ds:∀ i,i<x.ds.length->∃ rws P,x.ds[i]?=some (.lst (rws.map yT))/\ywm rws P
 le:x.nth<=x.ds.length
 bf:GV x.bf
 nf:NF W x.s
 due:Due x.ds x.nth x.rows
 run:x.nth<x.ds.length->∃ rws P,x.rows=rws.map yT/\ywm rws P/\RW W rws P x.s
structure St where
 bx:List Int
 sp:List Int
 en:List PV
 xs:List HD
def iV (l:List Int):PV:=.lst (l.map .int)
noncomputable def EnOk (e:PV):Prop:=∃ (i j:Int) (k:Str) (ts:List PV) (a b:List (Nat×Int)) (c:List Int),e=.tup [.int i,.int j,.tup (.str k::ts),.lst (a.map ycR),.lst (b.map ycR),iV c]/\∀ t∈ts,(∃ s,t=.str s)\/∃ n,t=.int n
structure SW (W n:Nat) (S:St):Prop where
 b:S.bx.length=W
 p:S.sp.length=W
 bb:∀ v∈S.bx,inB v
 x:∀ x∈S.xs,HW W x
 e:∀ e∈S.en,EnOk e
 n:S.en.length<=n
def Turn (W:Nat) (S:St) (i:Nat) (told:PV) (S':St):Prop:=∀ h g as own,HH h g W S.bx S.sp S.en as S.xs own->∃ h' as',yw [.loc g.H,.int (i:Nat)] h=some (told,h')/\HH h' g W S'.bx S'.sp S'.en as' S'.xs own
structure TO (W n:Nat) (S:St) (i:Nat) (told:PV) (S':St):Prop where
 t:Turn W S i told S'
 w:SW W (n+1) S'
 k:∃ (k:Str) (ns:List Int),told=.tup (.str k::ns.map .int)/\(k = "idle"->ns=[]/\S'=S)
 e:∃ l,S'.en=S.en++l
 l:S'.xs.length=S.xs.length
def NF0:NF W (S0 bf):=⟨List.nodup_nil,fun _ h=>(by cases h),by show 0<=900;decide⟩
section
variable {W n i:Nat}{S:St}{x:HD}
def HW.next (w:HW W x) (hn:x.nth<x.ds.length) {bf:List Int}(g:GV bf):∃ rows',Due x.ds (x.nth+1) rows'/\HW W { x with nth:=x.nth+1,bf:=bf,rows:=rows',s:=S0 bf }:=by
 by_cases e:x.nth+1<x.ds.length
 .obtain ⟨rws,P,e1,G⟩:=w.ds _ e;exact ⟨_,.inl ⟨e,e1⟩,w.ds,hn,g,NF0,.inl ⟨e,e1⟩,fun _=>⟨rws,P,rfl,G,.start G g⟩⟩
 .have e2:x.nth+1=x.ds.length:=by omega
  exact ⟨[],.inr ⟨e2,rfl⟩,w.ds,hn,g,NF0,.inr ⟨e2,rfl⟩,fun h=>absurd h e⟩
def HW.anew (w:HW W x):HW W { x with sl:=false,s:=S0 x.bf }:=⟨w.ds,w.le,w.bf,NF0,w.due,fun h=>by obtain ⟨rws,P,e,G,_⟩:=w.run h;exact ⟨rws,P,e,G,.start G w.bf⟩⟩
def HW.wake (w:HW W x) :HW W (yfL sp x):=by
 unfold yfL;split
 .exact w.anew
 .exact w
def yhr {Z:Type}{l:List Z}{i:Nat}(h:i<l.length):∃ a x b,l=a++x::b/\a.length=i:=⟨l.take i,l[i],l.drop (i+1),by rw [<- List.drop_eq_getElem_cons h,List.take_append_drop],by rw [length_take];omega⟩
theorem ywt:∀ {l:List (Nat×Int)}{bx:List Int},(∀ v∈bx,inB v)->(∀ p∈l,inB p.2)->∀ v∈yvc bx l,inB v
 | [],_,h,_=>h
 | p::l,bx,h,k=>ywt (l:=l) (fun v hv=>(List.mem_or_eq_of_mem_set hv).elim (h v) fun e=>e ▸ k p mem_cons_self) fun p hp=>k p (mem_cons_of_mem _ hp)
theorem yyW (w:SW W n S) (h1:1<=W) (h3:W<=3) (hn:n<900) (hi:i<S.xs.length):∃ told S',TO W n S i told S':=by
 obtain ⟨bx,sp,en,xs⟩:=S;obtain ⟨rfl,wp,wb,wx,we,wn⟩:=w;dsimp only at *;obtain ⟨xs1,x,xs2,rfl,rfl⟩:=yhr hi;have wX:=wx x (by simp);have upd:∀ {x':HD},HW bx.length x'->∀ y∈xs1++x'::xs2,HW bx.length y:=fun {x'} hx y hy=>by
  rcases List.mem_append.mp hy with z|z
  .exact wx y (mem_append_left _ z)
  .rcases mem_cons.mp z with rfl|z
   .exact hx
   .exact wx y (mem_append_right _ (mem_cons_of_mem _ z))
 have foc:∀ {h g as own} {told:PV}{S':St},HH h g bx.length bx sp en as (xs1++x::xs2) own->(∀ as1 a as2,as1.length=xs1.length->HH h g bx.length bx sp en (as1++a::as2) (xs1++x::xs2) own->∃ h' as',yw [.loc g.H,.int (as1.length:Nat)] h=some (told,h')/\HH h' g bx.length S'.bx S'.sp S'.en as' S'.xs own)->∃ h' as',yw [.loc g.H,.int (xs1.length:Nat)] h=some (told,h')/\HH h' g bx.length S'.bx S'.sp S'.en as' S'.xs own:=fun {h g as own told S'} X k=>by obtain ⟨as1,a,as2,rfl,l⟩:=yhr (l:=as) (i:=xs1.length) (by rw [X.ly.len,length_append,length_cons];omega);have:=k as1 a as2 l X;rwa [l] at this
 have sn4:x.s.sn.length<4:=by
  have:=yid bx.length _ wX.nf.nd fun k hk=>by obtain ⟨p,hp,rfl⟩:=List.mem_map.mp hk;exact wX.nf.hb p hp
  rw [length_map] at this;omega
 by_cases st:stX x = "awake"
 .have hnl:x.nth<x.ds.length:=by
   have:=wX.le
   by_cases e:x.nth=x.ds.length
   .unfold stX at st;rw [if_pos e] at st;exact absurd st (by rfl')
   .omega
  have hsl:x.sl=false:=by
   cases e:x.sl with
   | false=>rfl
   | true =>
    unfold stX at st;rw [if_neg (by omega),if_pos e] at st;exact absurd st (by rfl')
  obtain ⟨rws,P,er,G,R⟩:=wX.run hnl;obtain ⟨z,hp,hz⟩:=R.ps;obtain ⟨r,e1,okr,c⟩:=G.nx _ _ hp;have ok:=R.ok G (by omega);have stay:∀ {x':HD},HW bx.length x'->SW bx.length (n+1) ⟨bx,sp,en,xs1++x'::xs2⟩:=fun hx=>⟨rfl,wp,wb,upd hx,we,by show en.length<=n+1;omega⟩
  cases lk:yhc bx.length x.s r with
  | false =>
   obtain ⟨s',e2,R',es⟩:=R.go G h1 (by omega) hp hz e1 okr c lk;refine ⟨.tup [.str "gone",.int x.s.t],⟨bx,sp,en,xs1++{ x with s:=s' }::xs2⟩,fun h g as own X=>foc X fun as1 a as2 l X=>?_,stay ⟨wX.ds,wX.le,wX.bf,?_,wX.due,fun _=>⟨rws,P,er,G,R'⟩⟩,⟨"gone",[(x.s.t:Nat)],rfl,fun z=>absurd z (by rfl')⟩,⟨[],by simp⟩,by simp⟩
   .obtain ⟨h',c',q1,q2⟩:=yEd X l h1 er hnl hsl e1 ok okr lk e2;exact ⟨h',_,q1,q2⟩
   .obtain ⟨a,b,c⟩:=wX.nf;exact ⟨by rw [es];exact a,by rw [es];exact b,by rw [es];exact c⟩
  | true =>
   cases fr:stB x.s.sn sp with
   | true =>
    refine ⟨.tup [.str "anew",.int x.s.t],⟨bx,sp,en,xs1++{ x with sl:=false,s:=S0 x.bf }::xs2⟩,fun h g as own X=>foc X fun as1 a as2 l X=>?_,stay wX.anew,⟨"anew",[(x.s.t:Nat)],rfl,fun z=>absurd z (by rfl')⟩,⟨[],by simp⟩,by simp⟩;obtain ⟨h',c',q1,q2⟩:=yEf X l wp h1 er hnl hsl wX.nf fr e1 ok okr lk wX.due;exact ⟨h',_,q1,q2⟩
   | false =>
    obtain ⟨ls,eL,kL⟩:=ynB (m:=x.s.sn) sn4;cases r with
    | take p q =>
     obtain ⟨k,ek,hk⟩:=yvk h1 (x.s.hs.getD (sx q) 0);have hv:inB (bx.getD k 0):=by rw [getD_eq_getElem?_getD,List.getElem?_eq_getElem hk];exact wb _ (getElem_mem hk)
     refine ⟨.tup [.str "seen",.int x.s.t,.int (k:Nat),.int (bx.getD k 0)],⟨bx,sp,en,xs1++{ x with s:=⟨x.s.t+1,x.s.hs.set (sx p) (bx.getD k 0),x.s.sd,x.s.dd,ydE x.s.sn k (bx.getD k 0) (sp.getD k 0)⟩ }::xs2⟩,fun h g as own X=>foc X fun as1 a as2 l X=>?_,stay ⟨wX.ds,wX.le,wX.bf,wX.nf.put hk (by omega),wX.due,fun _=>⟨rws,P,er,G,⟨z,c,hz⟩,R.hs.set hv,R.dd,R.ln⟩⟩,⟨"seen",[(x.s.t:Nat),(k:Nat),bx.getD k 0],rfl,fun z=>absurd z (by rfl')⟩,⟨[],by simp⟩,by simp⟩;obtain ⟨h',q1,q2⟩:=yEe X l wp h1 er hnl hsl wX.nf fr e1 ok okr lk ek hk;exact ⟨h',_,q1,q2⟩
    | wait =>
     refine ⟨.tup [.str "asleep",.int x.s.t],⟨bx,sp,en,xs1++{ x with sl:=true }::xs2⟩,fun h g as own X=>foc X fun as1 a as2 l X=>?_,stay ⟨wX.ds,wX.le,wX.bf,wX.nf,wX.due,fun _=>⟨rws,P,er,G,R⟩⟩,⟨"asleep",[(x.s.t:Nat)],rfl,fun z=>absurd z (by rfl')⟩,⟨[],by simp⟩,by simp⟩;obtain ⟨h',q1,q2⟩:=yBN X l wp h1 er hnl hsl wX.nf fr e1 ok lk;exact ⟨h',_,q1,q2⟩
    | throw p q =>
     obtain ⟨rows',du,wN⟩:=wX.next hnl wX.bf;refine ⟨.tup [.str "fell",.int x.s.t],⟨bx,sp,en++[yCt xs1.length x (.tup [.str "fell",.str p,.int (x.s.hs.getD (sx q) 0)]) (ls.map ycR) [] x.bf],xs1++{ x with nth:=x.nth+1,rows:=rows',s:=S0 x.bf }::xs2⟩,fun h g as own X=>foc X fun as1 a as2 l X=>?_,⟨rfl,wp,wb,upd wN,fun e he=>?_,by show (en++_).length<=n+1;rw [length_append];show en.length+1<=_;omega⟩,⟨"fell",[(x.s.t:Nat)],rfl,fun z=>absurd z (by rfl')⟩,⟨_,rfl⟩,by simp⟩
     .obtain ⟨h',c',q1,q2⟩:=yEg X l wp h1 er hnl hsl wX.nf fr e1 ok okr lk eL du (by omega);rw [l] at q2;exact ⟨h',_,q1,q2⟩
     .rcases List.mem_append.mp he with he|he
      .exact we e he
      .rw [List.mem_singleton.mp he];exact ⟨_,_,"fell",[.str p,.int _],ls,[],x.bf,rfl,fun t ht=>by simp at ht;rcases ht with rfl|rfl<;>first|exact .inl ⟨_,rfl⟩|exact .inr ⟨_,rfl⟩⟩
    | lay =>
     subst c;have e0:x.s.sd=[]:=hz;obtain ⟨d,ed⟩:∃ d,x.s.dd=[d]:=by
      have:=R.ln;rw [e0] at this
      match h:x.s.dd,this with
      | [d],_=>exact ⟨d,rfl⟩
     obtain ⟨m,rfl,nd,hb⟩:=R.dd d (by rw [ed];simp);have ml:m.length<4:=by
      have:=yid bx.length _ nd fun k hk=>by obtain ⟨p,hp,rfl⟩:=List.mem_map.mp hk;exact (hb p hp).1
      rw [length_map] at this;omega
     obtain ⟨lw,eW,kW⟩:=ynB ml;have hlw:∀ p∈lw,p.1<bx.length/\inB p.2:=fun p hp=>by obtain ⟨q,hq,rfl⟩:=kW p hp;exact hb q hq
     obtain ⟨rows',du,wN⟩:=wX.next hnl R.hs;refine ⟨.tup [.str "done",.int x.s.t],⟨yvc bx lw,ypR sp lw,en++[yCt xs1.length x (.tup [.str "done"]) (ls.map ycR) (lw.map ycR) x.s.hs],(xs1++{ x with nth:=x.nth+1,bf:=x.s.hs,rows:=rows',s:=S0 x.s.hs }::xs2).map (yfL (ypR sp lw))⟩,fun h g as own X=>foc X fun as1 a as2 l X=>?_,⟨yoH _ _,by rw [ykr];exact wp,ywt wb fun p hp=>(hlw p hp).2,fun y hy=>?_,fun e he=>?_,by show (en++_).length<=n+1;rw [length_append];show en.length+1<=_;omega⟩,⟨"done",[(x.s.t:Nat)],rfl,fun z=>absurd z (by rfl')⟩,⟨_,rfl⟩,by simp⟩
     .obtain ⟨h',as',q1,q2,_⟩:=yEh X l wp h1 er hnl hsl wX.nf fr e1 ok ed eW (fun p hp=>(hlw p hp).1) eL du (by omega) fun y hy=>by
       have:y∈xs1++x::xs2:=by
        rcases List.mem_append.mp hy with z|z
        .exact mem_append_left _ z
        .exact mem_append_right _ (mem_cons_of_mem _ z)
       exact ⟨(wx y this).due,(wx y this).nf⟩
      rw [l] at q2;exact ⟨h',_,q1,q2⟩
     .obtain ⟨y',hy',e'⟩:=List.mem_map.mp hy;rw [<- e'];exact (upd wN y' hy').wake
     .rcases List.mem_append.mp he with he|he
      .exact we e he
      .rw [List.mem_singleton.mp he];exact ⟨_,_,"done",[],ls,lw,x.s.hs,rfl,fun t ht=>by cases ht⟩
    | _=>cases lk
 .refine ⟨.tup [.str "idle"],⟨bx,sp,en,xs1++x::xs2⟩,fun h g as own X=>foc X fun as1 a as2 l X=>?_,⟨rfl,wp,wb,wx,we,by show en.length<=n+1;omega⟩,⟨"idle",[],rfl,fun _=>⟨rfl,rfl⟩⟩,⟨[],by simp⟩,rfl⟩;exact ⟨h,_,yEc X l (eq_false st),X⟩
end
inductive Rn (W:Nat):Nat->St->List Nat->List PV->St->Prop
 | nil {n:Nat}{S:St}:Rn W n S [] [] S
 | cons {n i:Nat}{S S' S'':St}{t:PV}{is:List Nat}{ts:List PV}:TO W n S i t S'->Rn W (n+1) S' is ts S''->Rn W n S (i::is) (t::ts) S''
section
variable {W:Nat}{h:AH}
theorem yCe (h1:1<=W) (h3:W<=3):∀ (is:List Nat) (n:Nat) (S:St),SW W n S->n+is.length<=900->(∀ i∈is,i<S.xs.length)->∃ ts S',Rn W n S is ts S'/\SW W (n+is.length) S'/\S'.xs.length=S.xs.length
 | [],n,S,w,_,_=>⟨[],S,.nil,w,rfl⟩
 | i::is,n,S,w,hn,hi=>by
  rw [length_cons] at hn;obtain ⟨t,S',T⟩:=yyW w h1 h3 (by omega) (hi i mem_cons_self);obtain ⟨ts,S'',q1,q2,q3⟩:=yCe h1 h3 is (n+1) S' T.w (by omega) fun i h=>by rw [T.l];exact hi i (mem_cons_of_mem _ h)
  refine ⟨t::ts,S'',.cons T q1,?_,by rw [q3,T.l]⟩;rw [length_cons,show n+(is.length+1)=n+1+is.length by omega];exact q2
theorem yoO:∀ {a b:List Nat}{n:Nat}{S S'':St}{ts:List PV},Rn W n S (a++b) ts S''->∃ S',Rn W n S a (ts.take a.length) S'/\Rn W (n+a.length) S' b (ts.drop a.length) S''
 | [],b,n,S,S'',ts,r=>⟨S,.nil,r⟩
 | i::a,b,n,S,S'',_,.cons (t:=t) (ts:=ts) T r=>by obtain ⟨S',q1,q2⟩:=yoO r;refine ⟨S',.cons T q1,?_⟩;rw [length_cons,show n+(a.length+1)=n+1+a.length by omega];exact q2
theorem Rn.len:∀ {is:List Nat}{n:Nat}{S S':St}{ts:List PV},Rn W n S is ts S'->ts.length=is.length
 | [],_,_,_,_,.nil=>rfl
 | _::_,_,_,_,_,.cons _ r=>by rw [length_cons,length_cons,r.len]
theorem Rn.en:∀ {is:List Nat}{n:Nat}{S S':St}{ts:List PV},Rn W n S is ts S'->∃ l,S'.en=S.en++l
 | [],_,_,_,_,.nil=>⟨[],by simp⟩
 | _::_,_,_,_,_,.cons T r=>by obtain ⟨l,e⟩:=r.en;obtain ⟨k,e'⟩:=T.e;exact ⟨k++l,by rw [e,e',append_assoc]⟩
theorem Rn.sw:∀ {is:List Nat}{n:Nat}{S S':St}{ts:List PV},SW W n S->Rn W n S is ts S'->SW W (n+is.length) S'
 | [],_,_,_,_,w,.nil=>w
 | _::is,n,_,_,_,_,.cons T r=>by have:=r.sw T.w;rwa [length_cons,show n+(is.length+1)=n+1+is.length by omega]
theorem yoP {g:HC}:∀ {is:List Nat}{n:Nat}{S S':St}{ts:List PV}{h:AH}{as:List (Nat×Lc)}{own:List (Nat×Nd)}{Y:PSt},Rn W n S is ts S'->(∀ x,yfS [0] Y x=[.val x,.val (.loc g.H)])->HH h g W S.bx S.sp S.en as S.xs own->∃ h' as',yiS (yg 15 "turn" yw (ye 1) (yc (ye 0) (yh))) (yfS [0] Y) (is.map fun i:Nat=>.int (i:Nat)) h=some (ts,h')/\HH h' g W S'.bx S'.sp S'.en as' S'.xs own
 | [],_,_,_,_,h,as,own,Y,.nil,_,X=>⟨h,as,rfl,X⟩
 | i::is,_,_,_,_,h,as,own,Y,.cons (t:=t) (ts:=ts) T r,hY,X=>by
  obtain ⟨h1,as1,q1,X1⟩:=T.t h g as own X;obtain ⟨h2,as2,q2,X2⟩:=yoP r hY X1;refine ⟨h2,as2,?_,X2⟩;have e1:yg 15 "turn" yw (ye 1) (yc (ye 0) (yh)) (yfS [0] Y (.int (i:Nat))) h=some (t,h1):=by
   rw [hY]
   simpa [ycq,yB (m:="turn") (X.at_.get 0 rfl) (by rfl'),q1]
  show ob (yg 15 "turn" yw (ye 1) (yc (ye 0) (yh)) (yfS [0] Y (.int (i:Nat))) h) _=_;rw [e1,ybw,q2,ybw]
def gives (r:Rn W n S is ts S') (X:HH h g W S.bx S.sp S.en as S.xs own) (hl:is.length<=1000):∃ h' as',ybk [.loc g.H,.lst (is.map fun i:Nat=>.int (i:Nat))] h=some (.lst ts,h')/\HH h' g W S'.bx S'.sp S'.en as' S'.xs own:=by obtain ⟨h',as',q,X'⟩:=yoP (Y:=[.val (.loc g.H),.val (.lst (is.map fun i:Nat=>.int (i:Nat)))]) r (fun _=>rfl) X;refine ⟨h',as',?_,X'⟩;unfold ybk;rw [yo];show ob (yO (xFz (yfj (xIL (ye 1)) [0] _)) [.val (.loc g.H),.val (.lst (is.map fun i:Nat=>.int (i:Nat)))] h) fnK=_;rw [ynf,yzi,yra,yrN rfl,ybw,if_pos (by rw [length_map];omega),q];rfl
noncomputable def Fl:Nat->PV->Prop
 | _,.int _=>True
 | _,.str _=>True
 | n+1,.tup xs=>∀ x∈xs,Fl n x
 | n+1,.lst xs=>∀ x∈xs,Fl n x
 | _,_=>False
theorem yoQ:∀ {xs:List PV},(∀ x∈xs,f x x=some true)->ygs f xs xs=some true
 | [],_=>rfl
 | x::xs,H=>yBO (H x mem_cons_self) (yoQ fun x h=>H x (mem_cons_of_mem _ h))
theorem yyX:∀ (n:Nat) {k:Nat}{x:PV},Fl n x->n<k->eqP k h x x=some true
 | 0,k+1,x,F,_=>by cases x<;>first|exact yBP|exact yBQ|exact False.elim F
 | n+1,k+2,x,F,hk=>by
  cases x with
  | tup xs=>exact yyP (yoQ fun x hx=>yyX n (F x hx) (by omega))
  | lst xs=>exact yyQ (yoQ fun x hx=>yyX n (F x hx) (by omega))
  | _=>first|exact yBP|exact yBQ|exact False.elim F
def yie (F:∀ x∈xs,Fl n x) (hn:n<40):yiy (.lst xs) (.lst xs) h=some (.bl false,h)/\yxP (.lst xs) (.lst xs) h=some (.bl true,h)/\yiy (.tup xs) (.tup xs) h=some (.bl false,h):=by
 have e:ygs (eqP 40 h) xs xs=some true:=yoQ fun x hx=>yyX n (F x hx) hn
 have e1:pairE (eqP 40 h) h (.lst xs) (.lst xs)=some true:=by unfold pairE ybH;dsimp only;rw [if_pos rfl,e]
 have e2:pairE (eqP 40 h) h (.tup xs) (.tup xs)=some true:=by unfold pairE;dsimp only;rw [e];simp
 exact ⟨by unfold yiy;rw [e1];rfl,by unfold yxP;rw [e1],by unfold yiy;rw [e2];rfl⟩
def TO.fl {n i:Nat}{S S':St}{t:PV}(T:TO W n S i t S'):∃ xs,t=.tup xs/\∀ x∈xs,Fl 0 x:=by
 obtain ⟨k,ns,e,_⟩:=T.k;refine ⟨_,e,fun x hx=>?_⟩;rcases mem_cons.mp hx with rfl|hx
 .trivial
 .obtain ⟨i,_,rfl⟩:=List.mem_map.mp hx;trivial
theorem Rn.fl:∀ {is:List Nat}{n:Nat}{S S':St}{ts:List PV},Rn W n S is ts S'->∀ t∈ts,Fl 1 t
 | [],_,_,_,_,.nil,t,ht=>by cases ht
 | _::_,_,_,_,_,.cons T r,t,ht=>by
  rcases mem_cons.mp ht with rfl|ht
  .obtain ⟨xs,rfl,F⟩:=T.fl;exact F
  .exact r.fl t ht
def yyY {k:Str}{ns:List Int}(e:k = "idle"->ns=[]):yiy (.tup (.str k::ns.map .int)) (.tup [.str "idle"]) h=some (.bl (!decide (k = "idle")),h):=by
 unfold yiy pairE;dsimp only;have e1:ygs (eqP 40 h) (.str k::ns.map .int) [.str "idle"]=some (decide (k = "idle")):=by show (match eqP 40 h (.str k) (.str "idle"),ygs (eqP 40 h) (ns.map .int) [] with|some b,some c=>some (b && c)|_,_=>none)=_;rw [show ygs (eqP 40 h) (ns.map .int) []=some true by cases ns<;>rfl,show eqP 40 h (.str k) (.str "idle")=some (decide (k = "idle")) by show some (eqV (.str k) (.str "idle"))=_;simp [eqV];rfl];simp
 rw [e1];dsimp only
 by_cases q:k = "idle"
 .rw [e q];simp [q]
 .simp [q]
end
def mx (c:Int):Int:=c*48271%999999999989
noncomputable def pN (c:Int):Int:=if mx c/800%4=0 then 0 else if mx c/800%4=1 then 1 else if mx c/800%4=2 then mx c/160%5 else c%18446744073709551616
def pce (c:Int):Pce:=⟨(mx c%10).toNat,mx c/10%4,mx c/40%4,pN c⟩
def ywu (c:Int):(pce c).Ok:=by
 refine ⟨by show (mx c%10).toNat<10;omega,?_,?_,?_⟩
 .show 0<=mx c/10%4/\mx c/10%4<B64;unfold B64;omega
 .show 0<=mx c/40%4/\mx c/40%4<B64;unfold B64;omega
 .show 0<=pN c/\pN c<B64;unfold pN B64
  repeat' split
  all_goals omega
section
variable {h:AH}{ns:List Int}
def yEl (hn:0<=n/\n<B64):n.natAbs.log2<1920:=by
 by_cases hz:n.natAbs=0
 .rw [hz];decide
 .rw [Nat.log2_lt hz];have e1:n.natAbs<2 ^ 64:=by
   have:(2:Nat) ^ 64=18446744073709551616:=by decide
   rw [this];unfold B64 at hn;omega
  exact lt_of_lt_of_le e1 (Nat.pow_le_pow_right (by decide) (by decide))
def yyZ (hn:0<=n/\n<B64):yix [.int n] h=some (.str (tI n),h):=by rw [yqZ,if_pos (yEl hn)]
def yza (hn:0<=n/\n<B64):(tI n).length<=20:=str_len hn.1 (by decide) (Int.lt_trans hn.2 yrI)
def yCf {a b:Str}(l:a.length+b.length<=100000):ycV (.str a) (.str b) h=some (.str (a++b),h):=by rw [yqX,if_pos l]
def ynC (e:xs[i]?=some x):ybM (.lst xs) (.int (i:Nat)) h=some (x,h):=by unfold ybM;simp only [ydp e]
def yvl:ycH [.int c] h=some (.str (pce c).tx,h):=by
 obtain ⟨pj,px,py,pn⟩:=ywu c;have s1:∀ h,yix [.int (mx c/10%4)] h=some (.str (tI (mx c/10%4)),h):=fun h=>yyZ px
 have s2:∀ h,yix [.int (mx c/40%4)] h=some (.str (tI (mx c/40%4)),h):=fun h=>yyZ py
 have s3:∀ h,yix [.int (pN c)] h=some (.str (tI (pN c)),h):=fun h=>yyZ pn
 have l1:(tI (mx c/10%4)).length<=20:=yza px;have l2:(tI (mx c/40%4)).length<=20:=yza py;have l3:(tI (pN c)).length<=20:=yza pn;have i1:∀ h,ybM (.lst [.int 0,.int 1,.int (mx c/160%5),.int (c%18446744073709551616)]) (.int (mx c/800%4)) h=some (.int (pN c),h):=fun h=>by
  unfold pN;have:mx c/800%4=0\/mx c/800%4=1\/mx c/800%4=2\/mx c/800%4=3:=by omega
  rcases this with e|e|e|e<;>rw [e]<;>rfl
 have m1:PX.MulOk c 48271=True:=ylu (by decide) (by decide);have em:c*48271%999999999989=mx c:=rfl;have ix:∀ (A D N:Str) h,ybM (.lst ((List.range 10).map fun j=>PV.str (pcS A D N j))) (.int (mx c%10)) h=some (.str (pcS A D N (mx c%10).toNat),h):=fun A D N h=>by
  obtain ⟨j,ej,hj⟩:∃ j:Nat,mx c%10=(j:Nat)/\j<10:=⟨(mx c%10).toNat,by omega,by omega⟩
  rw [ej,Int.toNat_natCast];exact ynC (by rw [getElem?_map,List.getElem?_range hj];rfl)
 have tx:(pce c).tx=pcS ("let a "++tI (mx c/10%4)) ("let d "++tI (mx c/40%4)) (tI (pN c)) (mx c%10).toNat:=rfl;rw [tx];clear tx pj px py pn;have la:("let a "++tI (mx c/10%4)).length<=26:=by rw [ydD,show ("let a ":Str).length=6 by rfl'];omega
 have ld:("let d "++tI (mx c/40%4)).length<=26:=by rw [ydD,show ("let d ":Str).length=6 by rfl'];omega
 have a1:∀ h,ycV (.str "let a ") (.str (tI (mx c/10%4))) h=some (.str ("let a "++tI (mx c/10%4)),h):=fun h=>yCf (by rw [<- ydD];omega)
 have a2:∀ h,ycV (.str "let d ") (.str (tI (mx c/40%4))) h=some (.str ("let d "++tI (mx c/40%4)),h):=fun h=>yCf (by rw [<- ydD];omega)
 generalize "let a "++tI (mx c/10%4)=A at *;generalize "let d "++tI (mx c/40%4)=D at *;generalize tI (pN c)=N at *;clear l1 l2;have k1:("either ( ":Str).length<=99:=by rfl'
 have k2:(" ; take b a ; put a h ; if b ( wait ) else ( ) ) or":Str).length<=99:=by rfl'
 have k3:(" ( let c ":Str).length<=99:=by rfl'
 have k4:("try ( ":Str).length<=99:=by rfl'
 have k5:(" ; put a h ; take b a ; throw x c ) on x e ( ":Str).length<=99:=by rfl'
 have k6:(" ; ":Str).length<=99:=by rfl'
 unfold ycH;rw [yo];show ob (yl _ _ [.val (.int c),.no,.no,.no,.no,.no,.no] h) fnK=_;replace ix:=ix A D N h
 simpa [m1,em,s1,a1,s2,a2,i1,s3,-yqX,-yjJ,-yqZ]
 clear a1 a2 s1 s2
 simpa [ybw,-yjJ]
 repeat first|rw [if_pos (by first|omega|(simp only [ydD,length_append,length_cons,length_nil];omega))]|(rw [yom rfl];simpa [ybw,-yjJ])
 show ob (ybM (PV.lst ((List.range 10).map fun j=>PV.str (pcS A D N j))) (.int (mx c%10)) h) _=_;rw [ix];rfl
theorem yoR:∀ l:List Str,(l.map (·.length)).sum<=(Str.join " ; " l).length
 | []=>zero_le _
 | [x]=>by simp [Str.join]
 | x::y::r=>by have:=yoR (y::r);show _<=(x++" ; "++Str.join " ; " (y::r)).length;rw [ydD,ydD,map_cons,List.sum_cons];omega
def cells (c:Int):List Int:=[c,c*69621%2147483629,c*40692%2147483399]
def yfM (c:Int):List Pce:=((cells c).take (1+c%3).toNat).map pce
def ysB:(∀ p∈yfM c,p.Ok)/\(yfM c).length<=3:=by
 constructor
 .intro p hp;obtain ⟨c,_,rfl⟩:=List.mem_map.mp hp;exact ywu c
 .unfold yfM;rw [length_map,length_take];show min _ 3<=3;omega
def yzb:yew [.int c] h=some (.str (dTx (yfM c)),h):=by
 have m1:PX.MulOk c 69621=True:=ylu (by decide) (by decide);have m2:PX.MulOk c 40692=True:=ylu (by decide) (by decide);have cp:ykL [PV.int c,.int (c*69621%2147483629),.int (c*40692%2147483399)] none (some (1+c%3))=((cells c).take (1+c%3).toNat).map .int:=by
  have:c%3=0\/c%3=1\/c%3=2:=by omega
  rcases this with e|e|e<;>rw [e]<;>rfl
 have cm:∀ Y,yiS (yW ycH (yc (ye 0) (yh))) (yfS [] Y) (((cells c).take (1+c%3).toNat).map .int) h=some (((yfM c).map Pce.tx).map .str,h):=fun Y=>by
  unfold yfM;rw [map_map,map_map];refine yfF _ _ fun c _=>?_
  show yW ycH (yc (ye 0) (yh)) [.val (.int c)] h=_;have:=yvl (h:=h) (c:=c)
  simpa [this]
  rfl
 have ll:((((cells c).take (1+c%3).toNat).map PV.int).length<=100000)=True:=eq_true (by rw [length_map,length_take];show min _ 3<=_;omega);obtain ⟨d1,d2⟩:=ysB (c:=c);have jn:∀ h,ynd (.str " ; ") [.lst ((("let h 1":Str)::(yfM c).map Pce.tx).map .str)] h=some (.str (dTx (yfM c)),h):=fun h=>yBu (yiT _) (by rfl') (Nat.le_trans (Nat.add_le_add (Nat.le_trans (yoR _) (ywr d1 d2).2) (show _<=4 by rw [length_cons,length_map];omega)) (by decide))
 have ct:∀ h,yqQ (.lst [.str "let h 1"]) (.lst (((yfM c).map Pce.tx).map .str)) h=some (.lst ((("let h 1":Str)::(yfM c).map Pce.tx).map .str),h):=fun h=>by rw [yxF,if_pos (by rw [length_map,length_map];show 1+_<=_;omega)];rfl
 unfold yew;rw [yo];show ob (yl _ (yO (xBM isStr ynd _ (yc (xFz (ypP yqQ _ (xFz (yfj (xIL (xFz (yjB yiw (ye 1) _ _))) [] _)))) _))) [.val (.int c),.no] h) fnK=_;have i1:xIL (xFz (yjB yiw (ye 1) (yci) (yen (xOp yfd (xC (.int 1)) (xOp oMod (ye 0) (xC (.int 3))))))) [.val (.int c),.val (.lst [.int c,.int (c*69621%2147483629),.int (c*40692%2147483399)])] h=some (((cells c).take (1+c%3).toNat).map .int,h):=by
  unfold xIL
  simpa [cp]
 simpa [m1,m2,i1,ll,cm,ct,jn,-yxF]
end
def yvm (cs:List Int) (lo hi:Option Int):ykL (cs.map PV.int) lo hi=(ykL cs lo hi).map .int:=by unfold ykL;rw [length_map,List.map_take,List.map_drop]
def yoS {Z:Type}(xs:List Z) (k:Nat):ykL xs none (some (k:Int))=xs.take k:=by
 unfold ykL;simp only [HT.sIx_nat,HT.sIx_none,List.drop_zero,Nat.sub_zero]
 by_cases e:k<=xs.length
 .rw [Nat.min_eq_left e]
 .rw [Nat.min_eq_right (by omega),List.take_length,List.take_of_length_le (by omega)]
def ywv {Z:Type}(xs:List Z) (k:Nat):ykL xs (some (k:Int)) none=xs.drop k:=by
 unfold ykL;simp only [HT.sIx_nat,HT.sIx_none]
 by_cases e:k<=xs.length
 .rw [Nat.min_eq_left e,List.take_of_length_le (by rw [length_drop];omega)]
 .rw [Nat.min_eq_right (by omega),List.drop_of_length_le (by omega),List.drop_of_length_le (by omega)];exact List.take_nil
section
variable {h:AH}{ns:List Int}
def ypH (k:Nat):ycA [.scr ns,.int (k:Nat)] h=some (.int (ns.getD k 0),h):=by
 unfold ycA;rw [yo];show ob (yl _ _ [.val (.scr ns),.val (.int (k:Nat))] h) fnK=_
 by_cases e:k<ns.length
 .have e1:(((k:Nat):Int)<(ns.length:Nat))=True:=eq_true (by omega);have e3:atI ns (k:Nat)=some (ns.getD k 0):=ydp (by rw [List.getElem?_eq_getElem e,getD_eq_getElem?_getD,List.getElem?_eq_getElem e];rfl);have e2:ybM (.scr ns) (.int (k:Nat)) h=some (.int (ns.getD k 0),h):=by unfold ybM;simp only [e3]
  simpa [e1,e2,e3]
 .have e1:(((k:Nat):Int)<(ns.length:Nat))=False:=eq_false (by omega);rw [show ns.getD k 0=0 by rw [getD_eq_getElem?_getD,getElem?_eq_none (by omega)];rfl]
  simpa [e1]
def bW (H:Int):Nat:=(2+H%2).toNat
def bxV (H:Int):List Int:=(List.range (bW H)).map fun k:Nat=>H/12/((k:Int)+1)%3
def ylX:(bxV H).length=bW H/\1<=bW H/\bW H<=3/\∀ v∈bxV H,inB v:=by refine ⟨by unfold bxV;simp,by unfold bW;omega,by unfold bW;omega,fun v hv=>?_⟩;obtain ⟨k,_,rfl⟩:=List.mem_map.mp hv;unfold inB B64;omega
def yvn:ydR [.int H] h=some (.loc h.length,h++[Nd.lst ((bxV H).map .int)]):=by
 have e1:yc (xOp yfd (xC (.int 2)) (xOp oMod (ye 0) (xC (.int 2)))) (yh) [.val (.int H)] h=some ([.int (2+H%2)],h):=by symm
 have i1:yis (yc (xOp yfd (xC (.int 2)) (xOp oMod (ye 0) (xC (.int 2)))) (yh)) [.val (.int H)] h=some (ygW 0 (bW H),h):=yol e1 (by omega) (by omega);have l1:((ygW 0 (bW H)).length<=100000)=True:=eq_true (by have:=(ylX (H:=H)).2.2.1;simp [ygW];omega);have cm:yiS (xOp oMod (xOp oDiv (xOp oDiv (ye 1) (xC (.int 12))) (xOp yfd (ye 0) (xC (.int 1)))) (xC (.int 3))) (yfS [0] [.val (.int H)]) (ygW 0 (bW H)) h=some ((bxV H).map .int,h):=by
  unfold ygW bxV;rw [map_map];refine (yfF (fun k:Nat=>PV.int (0+(k:Int))) _ fun k hk=>?_);have hk:=List.mem_range.mp hk;have:=(ylX (H:=H)).2.2.1;have c1:((0:Int)<(k:Int)+1/\(k:Int)+1<1073741824)=True:=eq_true (by omega);show xOp oMod (xOp oDiv (xOp oDiv (ye 1) (xC (.int 12))) (xOp yfd (ye 0) (xC (.int 1)))) (xC (.int 3)) [.val (.int (0+(k:Int))),.val (.int H)] h=_;rw [zero_add]
  simpa [c1]
  rfl
 unfold ydR;rw [yo];show ob (yO (yfo (yfj (yis _) [0] _)) [.val (.int H)] h) fnK=_
 simpa [i1,l1,cm]
def nV (l:List Nat):List PV:=l.map fun i:Nat=>.int (i:Nat)
noncomputable def tuS (ns:List Int) (m:Nat) (is:List Nat) (v3 v4 v5 v6:PVar):PSt:=[.val (.scr ns),.val (.int (m:Nat)),.own (.lst (nV is)),v3,v4,v5,v6]
theorem yCg (h1:1<=m) (h4:m<=4) :∀ (l:List PV) (is:List Nat) (M:Int) (v6:PVar),is.length+l.length<=1000->(∀ i∈is,i<m)->∃ is' M' v6',yeL (yn 6) tuB l (tuS ns m is v3 (.val (.int M)) (.val (.bl r)) v6) h=some (.nx (tuS ns m is' v3 (.val (.int M')) (.val (.bl r)) v6'),h)/\is'.length=is.length+l.length/\∀ i∈is',i<m
 | [],is,M,v6,_,H=>⟨is,M,v6,rfl,rfl,H⟩
 | x::l,is,M,v6,hl,H=>by
  rw [length_cons] at hl;obtain ⟨k,ek,hk⟩:=yvk h1 M;obtain ⟨is',M',v6',q1,q2,q3⟩:=yCg h1 h4 l (is++[k]) (if r then M else M/m) (.val x) (by rw [length_append];show _+1+_<=_;omega) fun i hi=>by
   rcases List.mem_append.mp hi with hi|hi
   .exact H i hi
   .rw [List.mem_singleton.mp hi];exact hk
  refine ⟨is',M',v6',?_,by rw [q2,length_append,length_cons,length_nil,length_cons];omega,q3⟩;have bd:tuB (tuS ns m is v3 (.val (.int M)) (.val (.bl r)) (.val x)) h=some (.nx (tuS ns m (is++[k]) v3 (.val (.int (if r then M else M/m))) (.val (.bl r)) (.val x)),h):=by
   have m1:∀ h,oMod (.int M) (.int (m:Nat)) h=some (.int (k:Nat),h):=fun h=>by symm;rw [if_pos (by omega),ek]
   have m2:∀ h,oDiv (.int M) (.int (m:Nat)) h=some (.int (M/m),h):=fun h=>by symm;rw [if_pos (by omega)]
   have a1:yfi 2 (xOp oMod (ye 4) (ye 1)) (tuS ns m is v3 (.val (.int M)) (.val (.bl r)) (.val x)) h=some (.nx (tuS ns m (is++[k]) v3 (.val (.int M)) (.val (.bl r)) (.val x)),h):=by
    rw [yom (xs:=nV is) rfl];unfold tuS
    simpa [m1,-yCp]
    rw [if_pos (by unfold nV;rw [length_map];omega)];unfold nV;rw [map_append];rfl
   unfold tuB;rw [yjH,a1,ybw,ypn];unfold tuS;cases r<;>simpa [m2,-yCp]<;>rfl
  show yeL _ _ (x::l) _ h=_;rw [ynz rfl (show tuB (tuS ns m is v3 (.val (.int M)) (.val (.bl r)) (.val x)) h=_ from bd),q1]
def tuO:XS:=yl (ybq (xOp oMod (xOp yxu (ye 3) (xC (.int 16807))) (xC (.int 2147483587))) (yn 4)) (yl (ybq (xOp (oEq) (xOp oMod (ye 4) (xC (.int 5))) (xC (.int 0))) (yn 5)) (yl (ybq (xOp oDiv (ye 4) (xC (.int 5))) (yn 4)) (yhm (yis (yc (xC (.int 6)) (yh))) (yn 6) tuB)))
theorem yww (h1:1<=m) (h4:m<=4):∀ (l:List Int) (is:List Nat) (v3 v4 v5 v6:PVar),is.length+6*l.length<=900->(∀ i∈is,i<m)->∃ is' v3' v4' v5' v6',yeL (yn 3) tuO (l.map .int) (tuS ns m is v3 v4 v5 v6) h=some (.nx (tuS ns m is' v3' v4' v5' v6'),h)/\is'.length<=is.length+6*l.length/\∀ i∈is',i<m
 | [],is,v3,v4,v5,v6,_,H=>⟨is,v3,v4,v5,v6,rfl,Nat.le_refl _,H⟩
 | c::l,is,v3,v4,v5,v6,hl,H=>by
  rw [length_cons] at hl;obtain ⟨is1,M',v6',q1,q2,q3⟩:=yCg (h:=h) (ns:=ns) (v3:=.val (.int c)) (r:=decide (c*16807%2147483587%5=0)) h1 h4 [.int 0,.int 1,.int 2,.int 3,.int 4,.int 5] is (c*16807%2147483587/5) v6 (by show _+6<=_;omega) H;have q2:is1.length=is.length+6:=q2;obtain ⟨is',w3,w4,w5,w6,k1,k2,k3⟩:=yww h1 h4 l is1 (.val (.int c)) (.val (.int M')) (.val (.bl (decide (c*16807%2147483587%5=0)))) v6' (by omega) q3;refine ⟨is',w3,w4,w5,w6,?_,by rw [length_cons];omega,k3⟩;have m1:PX.MulOk c 16807=True:=ylu (by decide) (by decide);have i6:∀ Y,yis (yc (xC (.int 6)) (yh)) Y h=some ([.int 0,.int 1,.int 2,.int 3,.int 4,.int 5],h):=fun Y=>rfl
  have bd:tuO (tuS ns m is (.val (.int c)) v4 v5 v6) h=some (.nx (tuS ns m is1 (.val (.int c)) (.val (.int M')) (.val (.bl (decide (c*16807%2147483587%5=0)))) v6'),h):=by
   unfold tuO;unfold tuS at *
   simpa [m1,i6,q1]
  show yeL _ _ (PV.int c::l.map .int) _ h=_;rw [ynz rfl (show tuO (tuS ns m is (.val (.int c)) v4 v5 v6) h=_ from bd),k1]
def yvo (h1:1<=m) (h4:m<=4):∃ is:List Nat,ydT [.scr ns,.int (m:Nat)] h=some (.lst (nV is),h)/\is.length<=360/\∀ i∈is,i<m:=by
 obtain ⟨is,v3,v4,v5,v6,q1,q2,q3⟩:=yww (h:=h) (ns:=ns) h1 h4 (ns.take 60) [] .no .no .no .no (by have:(ns.take 60).length<=60:=by { rw [length_take];omega };show 0+_<=_;omega) (fun _ h=>by cases h);have q2:is.length<=360:=by have:(ns.take 60).length<=60:=by { rw [length_take];omega };have:is.length<=0+6*(ns.take 60).length:=q2;omega
 refine ⟨is,?_,q2,q3⟩;have q1:yeL (yn 3) tuO ((ns.take 60).map .int) [.val (.scr ns),.val (.int (m:Nat)),.own (.lst []),.no,.no,.no,.no] h=some (.nx (tuS ns m is v3 v4 v5 v6),h):=q1;have i1:xIL (xFz (yjB yiw (ye 0) (yci) (yen (xC (.int 60))))) [.val (.scr ns),.val (.int (m:Nat)),.own (.lst []),.no,.no,.no,.no] h=some ((ns.take 60).map .int,h):=by unfold xIL;symm;rw [show (60:Int)=((60:Nat):Int) from rfl,yoS,List.map_take]
 unfold ydT;rw [yo];show ob (yl _ (yl (yhm _ (yn 3) tuO) _) [.val (.scr ns),.val (.int (m:Nat)),.no,.no,.no,.no,.no] h) fnK=_
 simpa [i1,q1]
 unfold tuS;symm
def ycx (H:Int):Nat:=(2+H/2%3).toNat
def hcs (ns:List Int):List Int:=ykL ns (some 1) (some 13)
def ysC:(hcs ns).length<=12:=by unfold hcs ykL;rw [show (1:Int)=((1:Nat):Int) from rfl,show (13:Int)=((13:Nat):Int) from rfl,HT.sIx_nat,HT.sIx_nat,length_take];omega
def hnd (cs:List Int) (m k j:Nat):List (List Pce):=((List.range k).filter fun i=>i%m == j).map fun i=>yfM (cs.getD i 0%10 ^ 40)
def ysD (h2:2<=m) (h4:m<=4) (hk:k<=12) (hj:j<m):(hnd cs m k j).length<=6:=by
 unfold hnd;rw [length_map];have:∀ m,m<5->∀ k,k<13->∀ j,j<4->2<=m->((List.range k).filter fun i=>i%m == j).length<=6:=by rfl'
 exact this m (by omega) k (by omega) j (by omega) h2
def ysE:∀ ps∈hnd cs m k j,(∀ p∈ps,p.Ok)/\ps.length<=3:=fun ps h=>by obtain ⟨i,_,rfl⟩:=List.mem_map.mp h;exact ysB
def txL (l:List (List Pce)):Nd:=.lst (l.map fun ps=>.str (dTx ps))
def hK (h:AH) (cs:List Int) (m k:Nat):AH:=h++(List.range m).map (fun j=>txL (hnd cs m k j))++[Nd.lst ((List.range m).map fun j=>.loc (h.length+j))]
def yzc (hm:0<m):(hK h cs m k).set (h.length+k%m) (txL (hnd cs m k (k%m)++[yfM (cs.getD k 0%10 ^ 40)]))=hK h cs m (k+1):=by
 have hj:k%m<m:=Nat.mod_lt _ hm;unfold hK;rw [List.set_append_left _ _ (by simp;omega),List.set_append_right _ _ (by omega),Nat.add_sub_cancel_left];congr 2;refine List.ext_getElem (by simp) fun i h1 h2=>?_
 simp only [length_set,length_map,List.length_range] at h1;rw [List.getElem_set];simp only [List.getElem_map,List.getElem_range];have e:hnd cs m (k+1) i=hnd cs m k i++if k%m=i then [yfM (cs.getD k 0%10 ^ 40)] else []:=by
  unfold hnd;rw [List.range_succ,List.filter_append,map_append];congr 1
  by_cases q:k%m=i
  .simp [q]
  .simp [q]
 rw [e];split
 .rename_i q;rw [q]
 .rw [append_nil]
end
section
variable {h:AH}{ns:List Int}
def yjk (en:h[n]?=some (.lst xs)) (e:xs[i]?=some x):ybM (.loc n) (.int (i:Nat)) h=some (x,h):=by unfold ybM;simp only [en,ydp e]
def yoT (en:h[n]?=some (.lst xs)) (hl:xs.length<=1000):yeN (.loc n) [x] h=some (.non,h.set n (.lst (xs++[x])))/\yea (.loc n) h=true:=by
 constructor
 .unfold yeN;simp only [en];rw [if_pos (by omega)]
 .unfold yea ybH;simp only [en]
def yEm:(hK h cs m k)[h.length+m]?=some (.lst ((List.range m).map fun j=>.loc (h.length+j))):=by unfold hK;rw [getElem?_append_right (by simp)];simp
def yFc (hj:j<m):(hK h cs m k)[h.length+j]?=some (txL (hnd cs m k j)):=by unfold hK;rw [getElem?_append_left (by simp;omega),getElem?_append_right (by omega),Nat.add_sub_cancel_left,getElem?_map,List.getElem?_range hj];rfl
def yFD (hj:j<h.length):(hK h cs m k)[j]?=h[j]?:=by unfold hK;rw [getElem?_append_left (by simp;omega),getElem?_append_left (by omega)]
theorem yFd:∀ (l:List PV) (h:AH),yiS (yfo (yec (yh))) (yfS [] Y) l h=some ((List.range l.length).map fun j=>.loc (h.length+j),h++(List.range l.length).map fun _=>Nd.lst [])
 | [],h=>by simp [yiS]
 | x::l,h=>by show ob (some (PV.loc h.length,h++[Nd.lst []])) _=_;rw [ybw];show ob (yiS _ _ l (h++[Nd.lst []])) _=_;rw [yFd l,ybw];rw [length_cons,List.range_succ_eq_map,length_append,List.length_singleton];simp [Nat.add_assoc,Nat.add_comm 1]
def ysF:ydS [.scr ns,.int H] h=some (.loc (h.length+ycx H),hK h (hcs ns) (ycx H) (hcs ns).length):=by
 have hm:2<=ycx H/\ycx H<=4:=by unfold ycx;omega
 have e1:yc (xOp yfd (xC (.int 2)) (xOp oMod (xOp oDiv (ye 1) (xC (.int 2))) (xC (.int 3)))) (yh) [.val (.scr ns),.val (.int H),.no,.no,.no] h=some ([.int (2+H/2%3)],h):=by symm
 have i1:yis (yc (xOp yfd (xC (.int 2)) (xOp oMod (xOp oDiv (ye 1) (xC (.int 2))) (xC (.int 3)))) (yh)) [.val (.scr ns),.val (.int H),.no,.no,.no] h=some (ygW 0 (ycx H),h):=yol e1 (by omega) (by omega);have rl:(ygW 0 (ycx H)).length=ycx H:=by simp [ygW]
 have l1:((ygW 0 (ycx H)).length<=100000)=True:=eq_true (by omega);have cm:=yFd (Y:=[.val (.scr ns),.val (.int H),.no,.no,.no]) (ygW 0 (ycx H)) h;rw [rl] at cm;generalize ycx H=m at *;have hs:yiw (.scr ns) (some 1) (some 13)=fun h=>some (.lst ((hcs ns).map .int),h):=by funext h;show some (Nd.lst (ykL (ns.map PV.int) _ _),h)=_;rw [yvm];rfl
 have hc:=ysC (ns:=ns);generalize hcs ns=cs at *;unfold ydS;rw [yo];show ob (yl _ (yl _ (yl (yhm _ (yn 4) haB) _)) [.val (.scr ns),.val (.int H),.no,.no,.no] h) fnK=_;clear e1
 simpa [i1,l1,cm,hs,-yAG]
 clear i1 l1 cm hs rl;have hl:(h++(List.range m).map fun _=>Nd.lst []).length=h.length+m:=by simp
 rw [hl];show ob (yis _ _ (hK h cs m 0)) _=_;have e2:yc (xCB ybU (yc (ye 3) yh)) yh [.val (.scr ns),.val (.int H),.val (.loc (h.length+m)),.val (.lst (cs.map .int)),.no] (hK h cs m 0)=some ([.int (cs.length:Nat)],hK h cs m 0):=by symm;rw [length_map]
 rw [yol e2 (by omega) (by omega),ybw,Int.toNat_natCast];refine ylz (fun k Y h1=>h1=hK h cs m k/\∃ v,Y=[.val (.scr ns),.val (.int H),.val (.loc (h.length+m)),.val (.lst (cs.map .int)),v]) ⟨rfl,.no,rfl⟩ ?_ ?_
 .intro k x Y h1 hx ⟨q1,v,q2⟩;subst q1;subst q2;unfold ygW at hx;rw [getElem?_map] at hx;have hk:k<cs.length:=Classical.byContradiction fun z=>by rw [getElem?_eq_none (by rw [List.length_range];omega)] at hx;cases hx
  rw [List.getElem?_range hk] at hx;have hx:some (PV.int (0+(k:Int)))=some x:=hx;rw [zero_add] at hx;cases hx;refine ⟨_,[.val (.scr ns),.val (.int H),.val (.loc (h.length+m)),.val (.lst (cs.map .int)),.val (.int (k:Int))],hK h cs m (k+1),rfl,.inl ?_,rfl,_,rfl⟩;have j1:k%m<m:=Nat.mod_lt _ (by omega);have ln:=ycW (yEm (h:=h) (cs:=cs) (m:=m) (k:=k));rw [length_map,List.length_range] at ln;have md:∀ h,oMod (.int (k:Nat)) (.int (m:Nat)) h=some (.int ((k%m:Nat):Int),h):=fun h=>by symm;rw [if_pos (by omega)];rfl
  have ix:=yjk (yEm (h:=h) (cs:=cs) (m:=m) (k:=k)) (i:=k%m) (by rw [getElem?_map,List.getElem?_range j1];rfl);have ic:=ynC (h:=hK h cs m k) (xs:=cs.map PV.int) (i:=k) (x:=.int (cs.getD k 0)) (by rw [getElem?_map,List.getElem?_eq_getElem hk,getD_eq_getElem?_getD,List.getElem?_eq_getElem hk];rfl);have de:=yzb (h:=hK h cs m k) (c:=cs.getD k 0%10000000000000000000000000000000000000000);obtain ⟨ap,il⟩:=yoT (yFc (h:=h) (cs:=cs) (k:=k) j1) (x:=.str (dTx (yfM (cs.getD k 0%10 ^ 40)))) (by rw [length_map];have:=ysD (cs:=cs) hm.1 hm.2 (Nat.le_trans (le_of_lt hk) hc) j1;omega);have st:=yzc (h:=h) (cs:=cs) (k:=k) (show 0<m by omega);have ap:yeN (.loc (h.length+k%m)) [.str (dTx (yfM (cs.getD k 0%10000000000000000000000000000000000000000)))] (hK h cs m k)=some (.non,hK h cs m (k+1)):=by refine ap.trans ?_;rw [<- st];unfold txL;rw [map_append];rfl
  unfold haB;clear st hx
  simpa [ln,md,ix,ic,de,ap,il,-yCp,-yjJ]
  have pw:PX.PowOk 10 40=True:=eq_true (by unfold PX.PowOk;decide)
  simpa [pw,de,ap]
 .intro Y h1 ⟨q1,v,q2⟩;subst q1;subst q2;rw [show (ygW 0 cs.length).length=cs.length by simp [ygW]];symm
end
def yEn (x:HD):List PV:=(sortI (sK x.s.sn) (sA x.s.sn)).getD []
def hvV (x:HD):PV:=.lst [.str (stX x),.int (x.nth:Nat),iV x.s.hs,.lst (yEn x)]
def lkV (S:St):List PV:=[iV S.bx,iV S.sp,.lst S.en]++S.xs.map hvV
def ykv:Fl (n+1) (iV l):=fun x hx=>by obtain ⟨i,_,rfl⟩:=List.mem_map.mp hx;cases n<;>trivial
def ykw {l:List (Nat×Int)}:Fl (n+2) (.lst (l.map ycR)):=fun x hx=>by obtain ⟨i,_,rfl⟩:=List.mem_map.mp hx;intro y hy;simp at hy;rcases hy with rfl|rfl<;>cases n<;>trivial
def EnOk.fl (E:EnOk e):Fl 3 e:=by
 obtain ⟨i,j,k,ts,a,b,c,rfl,ht⟩:=E;intro x hx;simp only [mem_cons,not_mem_nil,or_false] at hx;rcases hx with rfl|rfl|rfl|rfl|rfl|rfl
 .trivial
 .trivial
 .intro y hy;rcases mem_cons.mp hy with rfl|hy
  .trivial
  .rcases ht y hy with ⟨s,rfl⟩|⟨s,rfl⟩<;>trivial
 .exact ykw
 .exact ykw
 .exact ykv
section
variable {h:AH}{g:HC}{W n:Nat}{S:St}{as:List (Nat×Lc)}{own:List (Nat×Nd)}
def SW.saw (w:SW W n S) (h3:W<=3) {x:HD}(hx:x∈S.xs):∃ ls:List (Nat×Int),sortI (sK x.s.sn) (sA x.s.sn)=some (ls.map ycR)/\yEn x=ls.map ycR:=by
 have F:=(w.x x hx).nf;have:=yid W _ F.nd fun k hk=>by obtain ⟨p,hp,rfl⟩:=List.mem_map.mp hk;exact F.hb p hp
 rw [length_map] at this;obtain ⟨ls,e,_⟩:=ynB (m:=x.s.sn) (by omega);exact ⟨ls,e,by unfold yEn;rw [e];rfl⟩
theorem SW.fl (w:SW W n S) (h3:W<=3):∀ x∈lkV S,Fl 4 x:=fun x hx=>by
 rcases List.mem_append.mp hx with hx|hx
 .simp only [mem_cons,not_mem_nil,or_false] at hx;rcases hx with rfl|rfl|rfl
  .exact ykv
  .exact ykv
  .exact fun e he=>(w.e e he).fl
 .obtain ⟨y,hy,rfl⟩:=List.mem_map.mp hx;obtain ⟨ls,_,e⟩:=w.saw h3 hy;intro z hz;rw [e] at hz;simp only [mem_cons,not_mem_nil,or_false] at hz;rcases hz with rfl|rfl|rfl|rfl
  .trivial
  .trivial
  .exact ykv
  .exact ykw
def SW.shp (w:SW W n S):∀ e∈S.en,Shp e:=fun e he=>by obtain ⟨i,j,k,ts,a,b,c,rfl,_⟩:=w.e e he;exact ⟨_,_,_,_,_,_,rfl⟩
def ynD (X:HH h g W S.bx S.sp S.en as S.xs own) (w:SW W n S) (hn:n<1000):yV [.loc g.H] h=some (.lst S.en,h):=yve X w.shp (by have:=w.n;omega)
def yzd (w:SW W n S) (hn:n<1000):ydC [.lst S.en] h=some (.lst S.en,h):=by
 unfold ydC;rw [yo];show ob (yO (xFz (yfj (xIL (ye 0)) [] _)) [.val (.lst S.en)] h) fnK=_;rw [ynf,yzi,yra,yrN rfl,ybw,if_pos (by have:=w.n;omega)];have:=yfF (e:=yfC (yc (xOp (ybx) (ye 0) (xC (.int 0))) (yc (xOp (ybx) (ye 0) (xC (.int 1))) (yc (xOp (ybx) (ye 0) (xC (.int 2))) (yc (xFz (yfc (yM) (yc (xOp (ybx) (ye 0) (xC (.int 3))) (yh)))) (yc (xFz (yfc (yM) (yc (xOp (ybx) (ye 0) (xC (.int 4))) (yh)))) (yc (xFz (yfc (yM) (yc (xOp (ybx) (ye 0) (xC (.int 5))) (yh)))) (yh)))))))) (inn:=yfS [] [.val (.lst S.en)]) (fun e:PV=>e) (fun e=>e) (ts:=S.en) (h:=h) fun e he=>by obtain ⟨a,b,c,x,y,z,rfl⟩:=w.shp e he;kernel_rfl!
 rw [List.map_id',] at this;rw [this];rfl
def yCv:XS:=yfi 3 (xFz (yec (yc (yg 15 "state" ydi (ye 0) (yc (ye 5) (yh))) (yc (yg 15 "which" ydj (ye 0) (yc (ye 5) (yh))) (yc (yg 15 "slots" ydk (ye 0) (yc (ye 5) (yh))) (yc (yg 15 "saw" yei (ye 0) (yc (ye 5) (yh))) (yh)))))))
def ykx (X:HH h g W S.bx S.sp S.en as S.xs own) (w:SW W n S) (h3:W<=3) (hn:n<1000) (h4:S.xs.length<=4) (b:Bool):ycI [.loc g.H,.int (S.xs.length:Nat),.bl b] h=some (.lst (lkV S),h):=by
 have H0:=X.at_.get 0 rfl;have q1:=ywl X;have q2:=yyR X;have q3:=ynD X w hn;have body:∀ v4 v5,ob (yl (yhm (yis (yc (ye 1) (yh))) (yn 5) yCv) (yqG 3 (yO (ye 3))) [.val (.loc g.H),.val (.int (S.xs.length:Nat)),.val (.bl b),.own (.lst [iV S.bx,iV S.sp,.lst S.en]),v4,v5] h) fnK=some (.lst (lkV S),h):=fun v4 v5=>by
  have i1:yis (yc (ye 1) (yh)) [.val (.loc g.H),.val (.int (S.xs.length:Nat)),.val (.bl b),.own (.lst [iV S.bx,iV S.sp,.lst S.en]),v4,v5] h=some (ygW 0 S.xs.length,h):=yol (j:=(S.xs.length:Nat)) rfl (by omega) (by omega);rw [yjH,yqW,i1,ybw,yxB];have:ob (yeL (yn 5) yCv (ygW 0 S.xs.length) [.val (.loc g.H),.val (.int (S.xs.length:Nat)),.val (.bl b),.own (.lst [iV S.bx,iV S.sp,.lst S.en]),v4,v5] h) (fun o h1=>ob (sqK (yqG 3 (yO (ye 3))) o h1) fnK)=some (.lst (lkV S),h):=by
   refine ylz (fun k Y h1=>h1=h/\∃ v,Y=[.val (.loc g.H),.val (.int (S.xs.length:Nat)),.val (.bl b),.own (.lst ([iV S.bx,iV S.sp,.lst S.en]++(S.xs.take k).map hvV)),v4,v]) ⟨rfl,v5,by simp⟩ ?_ ?_
   .intro k x Y h1 hx ⟨e1,v,e2⟩;subst e1;subst e2;unfold ygW at hx;rw [getElem?_map] at hx;have hk:k<S.xs.length:=Classical.byContradiction fun z=>by rw [getElem?_eq_none (by rw [List.length_range];omega)] at hx;cases hx
    rw [List.getElem?_range hk] at hx;have hx:some (PV.int (0+(k:Int)))=some x:=hx;rw [zero_add] at hx;cases hx;obtain ⟨xs1,y,xs2,ex,lx⟩:=yhr hk;have hks:S.xs[k]?=some y:=by rw [ex,getElem?_append_right (by omega),lx,sub_self];rfl
    refine ⟨_,[.val (.loc g.H),.val (.int (S.xs.length:Nat)),.val (.bl b),.own (.lst ([iV S.bx,iV S.sp,.lst S.en]++(S.xs.take (k+1)).map hvV)),v4,.val (.int (k:Int))],h1,rfl,.inl ?_,rfl,_,rfl⟩;rw [List.take_add_one,hks,map_append];obtain ⟨ls,eL,eS⟩:=w.saw h3 (x:=y) (by rw [ex];simp);obtain ⟨as1,a,as2,rfl,la⟩:=yhr (l:=as) (i:=k) (by rw [X.ly.len];exact hk);have X':=X;rw [ex] at X';have l:as1.length=xs1.length:=by omega
    have r1:=yBR X' l;have r2:=yBS X' l;have r3:=yBT X' l;have r4:=yFy X' l eL;rw [la] at r1 r2 r3 r4;unfold yCv;rw [yom rfl];clear X X' q1 q2 q3 ex hks
    simpa [ycq,yB (m:="state") H0 (by rfl'),yB (m:="which") H0 (by rfl'),yB (m:="slots") H0 (by rfl'),yB (m:="saw") H0 (by rfl'),r1,r2,r3,r4]
    rw [if_pos (by rw [length_append,length_map,length_take];show 3+_<_;omega)];rw [append_assoc,<- eS];rfl
   .intro Y h1 ⟨e1,v,e2⟩;subst e1;subst e2;rw [show (ygW 0 S.xs.length).length=S.xs.length by simp [ygW],List.take_length];symm;rfl
  exact this
 unfold ycI;rw [yo];show ob (yl _ (yl _ (yl (yhm (yis _) (yn 5) yCv) _)) [.val (.loc g.H),.val (.int (S.xs.length:Nat)),.val (.bl b),.no,.no,.no] h) fnK=_;have b1:=body .no .no;have b2:=body (.val (.lst S.en)) .no;clear body;have a1:∀ v4,ygV (yec (yc (yg 15 "boxes" ybT (ye 0) (yh)) (yc (yg 15 "stamps" ybX (ye 0) (yh)) (yc (yg 15 "journal" yV (ye 0) (yh)) (yh))))) 3 [.val (.loc g.H),.val (.int (S.xs.length:Nat)),.val (.bl b),.no,v4,.no] h=some (.nx [.val (.loc g.H),.val (.int (S.xs.length:Nat)),.val (.bl b),.own (.lst [iV S.bx,iV S.sp,.lst S.en]),v4,.no],h):=fun v4=>by
  clear b1 b2 X
  simpa [ycq,yB (m:="boxes") H0 (by rfl'),yB (m:="stamps") H0 (by rfl'),yB (m:="journal") H0 (by rfl'),q1,q2,q3]
  rfl
 rw [yjH,a1,ybw,ypn,yjH];cases b
 .rw [show ∀ T,ybN (yz (ye 2)) T yS [.val (.loc g.H),.val (.int (S.xs.length:Nat)),.val (.bl false),.own (.lst [iV S.bx,iV S.sp,.lst S.en]),.no,.no] h=some (.nx [.val (.loc g.H),.val (.int (S.xs.length:Nat)),.val (.bl false),.own (.lst [iV S.bx,iV S.sp,.lst S.en]),.no,.no],h) from fun _=>rfl,ybw,ypn];exact b1
 .have a2:yl (ybq (yg 15 "journal" yV (ye 0) (yh)) (yn 4)) (ygV (yec (yc (yg 15 "boxes" ybT (ye 0) (yh)) (yc (yg 15 "stamps" ybX (ye 0) (yh)) (yc (ye 4) (yh))))) 3) [.val (.loc g.H),.val (.int (S.xs.length:Nat)),.val (.bl true),.own (.lst [iV S.bx,iV S.sp,.lst S.en]),.no,.no] h=some (.nx [.val (.loc g.H),.val (.int (S.xs.length:Nat)),.val (.bl true),.own (.lst [iV S.bx,iV S.sp,.lst S.en]),.val (.lst S.en),.no],h):=by
   clear b1 b2 X a1
   simpa [ycq,yB (m:="boxes") H0 (by rfl'),yB (m:="stamps") H0 (by rfl'),yB (m:="journal") H0 (by rfl'),q1,q2,q3]
   rfl
  rw [show ∀ T,ybN (yz (ye 2)) T yS [.val (.loc g.H),.val (.int (S.xs.length:Nat)),.val (.bl true),.own (.lst [iV S.bx,iV S.sp,.lst S.en]),.no,.no] h=T [.val (.loc g.H),.val (.int (S.xs.length:Nat)),.val (.bl true),.own (.lst [iV S.bx,iV S.sp,.lst S.en]),.no,.no] h from fun _=>rfl,a2,ybw,ypn];exact b2
end
def hC (g:HC) (W:Nat) (S:St) (as:List (Nat×Lc)):List (Nat×Nd):=H5 g S.bx S.sp S.en (as.map (·.1))++CR W as S.xs []
section
variable {h h':AH}{W:Nat}{g g1 g2 g3:HC}{S S1 S2 S3:St}{as:List (Nat×Lc)}{own m:List (Nat×Nd)}
def HH.c (X:HH h g W S.bx S.sp S.en as S.xs own):At h (hC g W S as++own):=by have:=X.at_;rw [ygR,<- append_assoc] at this;exact this
def HH.of (A:At h (hC g W S as++own)) (l:LyOk as S.xs):HH h g W S.bx S.sp S.en as S.xs own:=⟨by rw [ygR,<- append_assoc];exact A,l⟩
def T3 (h:AH) (W:Nat) (g1 g2 g3:HC) (S1 S2 S3:St) (own:List (Nat×Nd)):Prop:=∃ a1 a2 a3,At h (hC g1 W S1 a1++(hC g2 W S2 a2++(hC g3 W S3 a3++own)))/\LyOk a1 S1.xs/\LyOk a2 S2.xs/\LyOk a3 S3.xs
def T3.a (T:T3 h W g1 g2 g3 S1 S2 S3 own):∃ as w,HH h g1 W S1.bx S1.sp S1.en as S1.xs w/\∀ {h' S' as'},HH h' g1 W S'.bx S'.sp S'.en as' S'.xs w->T3 h' W g1 g2 g3 S' S2 S3 own:=by obtain ⟨a1,a2,a3,A,l1,l2,l3⟩:=T;exact ⟨a1,_,HH.of A l1,fun X=>⟨_,a2,a3,X.c,X.ly,l2,l3⟩⟩
def T3.b (T:T3 h W g1 g2 g3 S1 S2 S3 own):∃ as w,HH h g2 W S2.bx S2.sp S2.en as S2.xs w/\∀ {h' S' as'},HH h' g2 W S'.bx S'.sp S'.en as' S'.xs w->T3 h' W g1 g2 g3 S1 S' S3 own:=by obtain ⟨a1,a2,a3,A,l1,l2,l3⟩:=T;exact ⟨a2,hC g1 W S1 a1++(hC g3 W S3 a3++own),HH.of (A.perm (List.perm_append_comm_assoc _ _ _)) l2,fun X=>⟨a1,_,a3,X.c.perm (List.perm_append_comm_assoc _ _ _),l1,X.ly,l3⟩⟩
def T3.d (T:T3 h W g1 g2 g3 S1 S2 S3 own):∃ as w,HH h g3 W S3.bx S3.sp S3.en as S3.xs w/\∀ {h' S' as'},HH h' g3 W S'.bx S'.sp S'.en as' S'.xs w->T3 h' W g1 g2 g3 S1 S2 S' own:=by
 obtain ⟨a1,a2,a3,A,l1,l2,l3⟩:=T;have p:∀ x y z o:List (Nat×Nd),(x++(y++(z++o))).Perm (z++(x++(y++o))):=fun x y z o=>((List.perm_append_comm_assoc y z o).append_left x).trans (List.perm_append_comm_assoc x z _)
 exact ⟨a3,hC g1 W S1 a1++(hC g2 W S2 a2++own),HH.of (A.perm (p _ _ _ _).symm) l3,fun X=>⟨a1,a2,_,X.c.perm (p _ _ _ _),l1,l2,X.ly⟩⟩
def T3.o (T:T3 h W g1 g2 g3 S1 S2 S3 own):At h own:=by obtain ⟨a1,a2,a3,A,_⟩:=T;exact A.sub ((List.sublist_append_right _ _).trans ((List.sublist_append_right _ _).trans (List.sublist_append_right _ _)))
def At.ext {e:List (Nat×Nd)}(A:At h m) (old:∀ i,i<h.length->h'[i]?=h[i]?) (nd:(e.map (·.1)).Nodup) (ge:∀ p∈e,h.length<=p.1) (ke:∀ p∈e,h'[p.1]?=some p.2):At h' (e++m):=by
 have lt:∀ p∈m,p.1<h.length:=fun p hp=>A.lt hp
 refine ⟨?_,fun p hp=>?_⟩
 .rw [map_append,List.nodup_append];refine ⟨nd,A.1,fun x hx y hy z=>?_⟩;obtain ⟨p,hp,rfl⟩:=List.mem_map.mp hx;obtain ⟨q,hq,rfl⟩:=List.mem_map.mp hy;have:=ge p hp;have:=lt q hq;omega
 .rcases List.mem_append.mp hp with hp|hp
  .exact ke p hp
  .rw [old _ (lt p hp)];exact A.2 p hp
def dsV (cs:List Int) (m j:Nat):List (Str×List Rw):=(hnd cs m cs.length j).map fun ps=>(dTx ps,DR (dSg ps) 0)
def S00 (H:Int) (cs:List Int) (m:Nat):St:=⟨bxV H,replicate (bW H) 0,[],(List.range m).map fun j=>hd0 (dsV cs m j)⟩
def sw0 {m:Nat}:SW (bW H) 0 (S00 H cs m):=by
 obtain ⟨b1,b2,b3,b4⟩:=ylX (H:=H);refine ⟨b1,by simp [S00],b4,fun x hx=>?_,(fun _ h=>by cases h),Nat.le_refl _⟩;obtain ⟨j,_,rfl⟩:=List.mem_map.mp hx;have z8:GV Z8:=⟨rfl,fun v hv=>by rw [show v=0 by simpa [Z8] using hv];exact in0⟩
 have pr:∀ d∈dsV cs m j,∃ P,ywm d.2 P:=fun d hd=>by obtain ⟨ps,hp,rfl⟩:=List.mem_map.mp hd;exact ⟨_,yyV (ysE ps hp).1⟩
 generalize dsV cs m j=ds at *;refine ⟨fun i hi=>?_,zero_le _,z8,NF0,yFb ds,fun hn=>?_⟩
 .have hi:i<ds.length:=by simpa [hd0] using hi
  obtain ⟨P,G⟩:=pr ds[i] (getElem_mem hi);refine ⟨_,P,?_,G⟩;show (ds.map yoK)[i]?=_;rw [getElem?_map,List.getElem?_eq_getElem hi];rfl
 .cases ds with
  | nil=>exact absurd hn (by show ¬ 0<0;decide)
  | cons d r =>
   obtain ⟨P,G⟩:=pr d mem_cons_self;exact ⟨_,P,rfl,G,.start G z8⟩
end
section
variable {h:AH}{ns:List Int}{cs:List Int}{m n b:Nat}
structure Hd' (h:AH) (cs:List Int) (m n b:Nat):Prop where
 o:h[n]?=some (.lst ((List.range m).map fun j=>.loc (b+j)))
 i:∀ j,j<m->h[b+j]?=some (txL (hnd cs m cs.length j))
def Hd'.app (H:Hd' h cs m n b) {l:List Nd}:Hd' (h++l) cs m n b:=⟨by rw [getElem?_append_left (List.getElem?_eq_some_iff.mp H.o).1];exact H.o,fun j hj=>by rw [getElem?_append_left (List.getElem?_eq_some_iff.mp (H.i j hj)).1];exact H.i j hj⟩
theorem cpy:∀ (k i:Nat) (h:AH),Hd' h cs m n b->i+k=m->yno n (yfo (yfc (yM) (yc (ye 0) (yh)))) (yfS [] Y) k i h=some ((List.range k).map fun t=>.loc (h.length+t),h++(List.range k).map fun t=>txL (hnd cs m cs.length (i+t)))
 | 0,i,h,H,e=>by unfold yno;simp only [H.o];rw [if_pos (by simp;omega)];simp
 | k+1,i,h,H,e=>by
  have hi:i<m:=by omega
  have e1:=yeo (H.i i hi);have ih:=cpy (Y:=Y) k (i+1) (h++[txL (hnd cs m cs.length i)]) H.app (by omega);unfold yno;simp only [H.o];rw [show ((List.range m).map fun j=>PV.loc (b+j))[i]?=some (.loc (b+i)) by rw [getElem?_map,List.getElem?_range hi];rfl];have e2:yfo (yfc (yM) (yc (ye 0) (yh))) (yfS [] Y (.loc (b+i))) h=some (.loc h.length,h++[txL (hnd cs m cs.length i)]):=by
   show yfo (yfc (yM) (yc (ye 0) (yh))) [.val (.loc (b+i))] h=_;unfold txL at *
   simpa [e1]
  dsimp only;rw [e2,ybw,ih,ybw];rw [List.range_succ_eq_map,length_append,List.length_singleton];simp [Nat.add_assoc,Nat.add_comm 1,Nat.add_left_comm]
def At.mem (A:At h l) (hm:(a,d)∈l):h[a]?=some d:=A.2 (a,d) hm
def yFE {n:Nat}(h:0<n):ixN n 0=some 0:=by unfold ixN;simp [h]
noncomputable def lwS (ns:List Int) (H:Int) (n L:Nat) (v4 v5 v6:PVar):PSt:=[.val (.scr ns),.val (.int H),.val (.loc n),.val (.loc L),v4,v5,v6,.no,.no,.no,.no,.no,.no,.no,.no,.no]
def yky {rest:List (Nat×Nd)}(A:At h ((L,.lst gs)::rest)) (hg:gs.length<=100) (D:Hd' h cs m n b) (hm:2<=m/\m<=4) (hc:cs.length<=12) :
  ∃ h' g as w5 w6,mkB (lwS ns H n L v4 v5 v6) h=some (.nx (lwS ns H n L v4 w5 w6),h')/\HH h' g (bW H) (S00 H cs m).bx (S00 H cs m).sp (S00 H cs m).en as (S00 H cs m).xs ((L,.lst (gs++[.loc g.H]))::rest):=by
 obtain ⟨b1,b2,b3,b4⟩:=ylX (H:=H);have eb:=yvn (h:=h) (H:=H);generalize hk1:h++[Nd.lst ((bxV H).map .int)]=k1 at *;have l1:k1.length=h.length+1:=by rw [<- hk1];simp
 have D1:Hd' k1 cs m n b:=by rw [<- hk1];exact D.app
 have cp:=cpy (Y:=lwS ns H n L v4 (.val (.loc h.length)) v6) m 0 k1 D1 (by omega);generalize hk2:k1++(List.range m).map (fun t=>txL (hnd cs m cs.length (0+t)))=k2 at *;have l2:k2.length=h.length+1+m:=by rw [<- hk2];simp;omega
 generalize hk3:k2++[Nd.lst ((List.range m).map fun t=>.loc (k1.length+t))]=k3 at *;have old:∀ i,i<h.length->k3[i]?=h[i]?:=fun i hi=>by rw [<- hk3,getElem?_append_left (by omega),<- hk2,getElem?_append_left (by omega),<- hk1,getElem?_append_left hi]
 have c1:k3[h.length]?=some (.lst ((bxV H).map .int)):=by rw [<- hk3,getElem?_append_left (by omega),<- hk2,getElem?_append_left (by omega),<- hk1];simp
 have c2:k3[k2.length]?=some (.lst ((List.range m).map fun t=>.loc (k1.length+t))):=by rw [<- hk3];simp
 have c3:∀ t,t<m->k3[k1.length+t]?=some (txL (hnd cs m cs.length t)):=fun t ht=>by rw [<- hk3,getElem?_append_left (by omega),<- hk2,getElem?_append_right (by omega),Nat.add_sub_cancel_left,getElem?_map,List.getElem?_range ht];simp
 obtain ⟨h4,g,as,q1,qg,q2⟩:=ysv (h:=k3) (bx:=bxV H) (nb:=h.length) (n:=k2.length) (hs:=(List.range m).map fun t=>(k1.length+t,dsV cs m t)) (by omega) (by omega) b4 (fun p hp=>by
  obtain ⟨t,ht,rfl⟩:=List.mem_map.mp hp;refine ⟨by show (dsV cs m t).length<=6;unfold dsV;rw [length_map];exact ysD hm.1 hm.2 hc (List.mem_range.mp ht),fun d hd=>?_⟩;obtain ⟨ps,hps,rfl⟩:=List.mem_map.mp hd;exact (ywr (ysE ps hps).1 (ysE ps hps).2).1) (by simp;omega) (by simp;omega) c1 (by rw [c2,map_map];rfl) fun p hp=>by
  obtain ⟨t,ht,rfl⟩:=List.mem_map.mp hp;rw [c3 t (List.mem_range.mp ht)];unfold txL dsV;rw [map_map];rfl
 have A3:At k3 ([(h.length,Nd.lst ((bxV H).map .int)),(k2.length,.lst ((List.range m).map fun t=>.loc (k1.length+t))),(k1.length+0,txL (hnd cs m cs.length 0))]++((L,.lst gs)::rest)):=A.ext old (by simp;omega) (fun p hp=>by simp at hp;rcases hp with rfl|rfl|rfl<;>show _<=_<;>simp<;>omega) fun p hp=>by
  simp only [mem_cons,not_mem_nil,or_false] at hp;rcases hp with rfl|rfl|rfl
  .exact c1
  .exact c2
  .exact c3 0 (by omega)
 have i0:=ycN (A3.mem (a:=L) (d:=.lst gs) (by simp));have X:=(q2 _ A3).at_;have ly:=(q2 _ A3).ly;have exs:(List.map (fun p=>hd0 p.snd) (List.map (fun t=>(length k1+t,dsV cs m t)) (List.range m)))=(S00 H cs m).xs:=by rw [map_map];rfl
 rw [exs] at X ly;rw [b1,ygR,<- append_assoc] at X;have X:At h4 (hC g (bW H) (S00 H cs m) as++((h.length,Nd.lst ((bxV H).map .int))::(k2.length,.lst ((List.range m).map fun t=>.loc (k1.length+t)))::(k1.length+0,txL (hnd cs m cs.length 0))::(L,.lst gs)::rest)):=X;have fin:∀ {h':AH}{d1 d2 d3:Nd},At h' (hC g (bW H) (S00 H cs m) as++((h.length,d1)::(k2.length,d2)::(k1.length+0,d3)::(L,.lst (gs++[.loc g.H]))::rest))->HH h' g (bW H) (S00 H cs m).bx (S00 H cs m).sp (S00 H cs m).en as (S00 H cs m).xs ((L,.lst (gs++[.loc g.H]))::rest):=fun A=>HH.of (A.sub (((((List.Sublist.refl _).cons _).cons _).cons _).append_left _)) ly
 generalize hC g (bW H) (S00 H cs m) as=C at *;clear A3 q2 exs old c3;obtain ⟨p1,i1⟩:=yoT (X.mem (a:=L) (d:=.lst gs) (by simp)) (x:=.loc g.H) (Nat.le_trans hg (by decide));have X:=At.upd (a:=C++[_,_,_]) (.lst (gs++[.loc g.H])) (show At h4 ((C++[_,_,_])++(L,.lst gs)::rest) by simpa using X);generalize h4.set L (.lst (gs++[.loc g.H]))=h5 at *;have X:At h5 (C++((h.length,Nd.lst ((bxV H).map .int))::(k2.length,.lst ((List.range m).map fun t=>.loc (k1.length+t)))::(k1.length+0,txL (hnd cs m cs.length 0))::(L,.lst (gs++[.loc g.H]))::rest)):=by simpa using X
 have bl:((bxV H).map PV.int).length<=1000:=by rw [length_map];omega
 obtain ⟨p2,i2⟩:=yoT (X.mem (a:=h.length) (d:=.lst ((bxV H).map .int)) (by simp)) (x:=.int 3) bl;have X:=At.upd (a:=C) (.lst ((bxV H).map .int++[.int 3])) X;generalize h5.set h.length (.lst ((bxV H).map .int++[.int 3]))=h6 at *;have f3:=X.mem (a:=h.length) (d:=.lst ((bxV H).map .int++[.int 3])) (by simp);have p3:∀ Y,ygZ (ye 5) (xC (.int 0)) (xC (.int 9)) (lwS ns H n L v4 (.val (.loc h.length)) Y) h6=some (.nx (lwS ns H n L v4 (.val (.loc h.length)) Y),h6.set h.length (.lst (((bxV H).map PV.int++[PV.int 3]).set 0 (PV.int 9)))):=fun Y=>by have e:ygZ (ye 5) (xC (.int 0)) (xC (.int 9)) (lwS ns H n L v4 (.val (.loc h.length)) Y) h6=(match h6[h.length]? with|some (.lst xs)=>(match ixN xs.length 0 with|some j=>some (Out.nx (lwS ns H n L v4 (.val (.loc h.length)) Y),h6.set h.length (.lst (xs.set j (.int 9))))|none=>none)|_=>none):=rfl;rw [e,f3];dsimp only;rw [yFE (by simp)]
 have X:=At.upd (a:=C) (.lst (((bxV H).map PV.int++[PV.int 3]).set 0 (PV.int 9))) X;generalize h6.set h.length (.lst (((bxV H).map PV.int++[PV.int 3]).set 0 (PV.int 9)))=h7 at *;have ix:ybM (.loc k2.length) (.int 0) h7=_:=yjk (X.mem (a:=k2.length) (d:=.lst ((List.range m).map fun t=>.loc (k1.length+t))) (by simp)) (i:=0) (x:=.loc (k1.length+0)) (by rw [getElem?_map,List.getElem?_range (by omega)];rfl);have p4:=yri (X.mem (a:=k1.length+0) (d:=txL (hnd cs m cs.length 0)) (by simp));have i4:=ycN (X.mem (a:=k1.length+0) (d:=txL (hnd cs m cs.length 0)) (by simp));have X:=At.upd (a:=C++[_,_]) (.lst []) (show At h7 ((C++[_,_])++(k1.length+0,txL (hnd cs m cs.length 0))::_) by simpa using X);generalize h7.set (k1.length+0) (.lst [])=h8 at *;obtain ⟨p5,i5⟩:=yoT (X.mem (a:=k2.length) (d:=.lst ((List.range m).map fun t=>.loc (k1.length+t))) (by simp)) (x:=.lst [.str ""]) (by simp;omega);have X:=At.upd (a:=C++[_]) (.lst (((List.range m).map fun t=>PV.loc (k1.length+t))++[.lst [.str ""]])) (show At h8 ((C++[_])++(k2.length,.lst ((List.range m).map fun t=>.loc (k1.length+t)))::_) by simpa using X);generalize h8.set k2.length (.lst (((List.range m).map fun t=>PV.loc (k1.length+t))++[.lst [.str ""]]))=h9 at *;refine ⟨h9,g,as,.val (.loc h.length),.val (.loc k2.length),?_,fin (d1:=.lst (((bxV H).map PV.int++[PV.int 3]).set 0 (PV.int 9))) (d2:=.lst (((List.range m).map fun t=>PV.loc (k1.length+t))++[.lst [.str ""]])) (d3:=.lst []) (by simpa using X)⟩;have e6:ydu (ye 2) [] (yfo (yfc (yM) (yc (ye 0) (yh)))) (lwS ns H n L v4 (.val (.loc h.length)) v6) k1=some (.lst ((List.range m).map fun t=>.loc (k1.length+t)),k2):=by unfold ydu;rw [show ye 2 (lwS ns H n L v4 (.val (.loc h.length)) v6) k1=some (.loc n,k1) from rfl,ybw];simp only [D1.o];rw [if_pos (by simp;omega),length_map,List.length_range,cp];rfl
 rw [qg] at p1;unfold mkB;clear X fin f3 cp c1 c2 A D D1;unfold lwS at *
 simpa [eb,e6,hk3,i0,yrs,q1,i1,p1,i2,p2,p3,ix,i4,p4,i5,p5]
end
section
variable {h:AH}{ns cs:List Int}{m n b L W:Nat}{H:Int}
def Hc (cs:List Int) (m n b:Nat):List (Nat×Nd):=(n,.lst ((List.range m).map fun j=>.loc (b+j)))::(List.range m).map fun j=>(b+j,txL (hnd cs m cs.length j))
def Hd'.of (A:At h l) (s:∀ p∈Hc cs m n b,p∈l):Hd' h cs m n b:=⟨A.mem (s _ mem_cons_self),fun j hj=>A.mem (s _ (mem_cons_of_mem _ (List.mem_map.mpr ⟨j,List.mem_range.mpr hj,rfl⟩)))⟩
def yEo {Z:Type}(x y z o:List Z) (e:Z):(z++e::(y++(x++o))).Perm (x++(y++(z++e::o))):=by
 have p1:(e::(y++(x++o))).Perm (x++(y++e::o)):=by refine .trans (.trans (.cons e ?_) List.perm_middle.symm) (.of_eq (append_assoc x y (e::o)));rw [<- append_assoc];exact List.perm_append_comm.append_right o
 exact ((p1.append_left z).trans (List.perm_append_comm_assoc z x _)).trans ((List.perm_append_comm_assoc z y _).append_left x)
def yEp (A:At h ((L,.lst [])::Hc cs m n b)) (hm:2<=m/\m<=4) (hc:cs.length<=12) :
  ∃ h' g1 g2 g3 w4 w5 w6,yeL (yn 4) mkB [.int 0,.int 1,.int 2] (lwS ns H n L v4 v5 v6) h=some (.nx (lwS ns H n L w4 w5 w6),h')/\T3 h' (bW H) g1 g2 g3 (S00 H cs m) (S00 H cs m) (S00 H cs m) ((L,.lst [.loc g1.H,.loc g2.H,.loc g3.H])::Hc cs m n b):=by
 obtain ⟨h1,g1,a1,x5,x6,q1,X1⟩:=yky (ns:=ns) (H:=H) (v4:=.val (.int 0)) (v5:=v5) (v6:=v6) A (by simp) (Hd'.of A fun p=>mem_cons_of_mem _) hm hc;have A1:=X1.c.perm List.perm_middle.symm;obtain ⟨h2,g2,a2,y5,y6,q2,X2⟩:=yky (ns:=ns) (H:=H) (v4:=.val (.int 1)) (v5:=x5) (v6:=x6) A1 (by simp) (Hd'.of A1 fun p hp=>mem_cons_of_mem _ (mem_append_right _ hp)) hm hc;have A2:=X2.c.perm List.perm_middle.symm;obtain ⟨h3,g3,a3,z5,z6,q3,X3⟩:=yky (ns:=ns) (H:=H) (v4:=.val (.int 2)) (v5:=y5) (v6:=y6) A2 (by simp) (Hd'.of A2 fun p hp=>mem_cons_of_mem _ (mem_append_right _ (mem_append_right _ hp))) hm hc;refine ⟨h3,g1,g2,g3,.val (.int 2),z5,z6,?_,a1,a2,a3,X3.c.perm (yEo _ _ _ _ _).symm,X1.ly,X2.ly,X3.ly⟩;rw [ynz rfl (show mkB (lwS ns H n L (.val (.int 0)) v5 v6) h=_ from q1),ynz rfl (show mkB (lwS ns H n L (.val (.int 1)) x5 x6) h1=_ from q2),ynz rfl (show mkB (lwS ns H n L (.val (.int 2)) y5 y6) h2=_ from q3)];rfl
noncomputable def lwF (ns:List Int) (H:Int) (n L:Nat) (v4 v5 v6 v7 v8 v9 v10 v11 v12 v13 v14 v15:PVar):PSt:=[.val (.scr ns),.val (.int H),.val (.loc n),.val (.loc L),v4,v5,v6,v7,v8,v9,v10,v11,v12,v13,v14,v15]
variable {g1 g2 g3:HC}{rest:List (Nat×Nd)}{S1 S2:St}{v4 v5 v6 v7 v8 v9 v10 v11 v12 v15:PVar}
theorem yoU:∀ {is:List Nat}{k:Nat}{S S':St}{ts:List PV}{h:AH}{v13 v14:PVar},Rn W k S is ts S'->T3 h W g1 g2 g3 S1 S2 S ((L,.lst [.loc g1.H,.loc g2.H,.loc g3.H])::rest)->∃ h' w13 w14,yeL (yvL 2 (ygU (yn 13) (ygU (yn 14) (yxk)))) zpB (yuo (nV is) ts) (lwF ns H n L v4 v5 v6 v7 v8 v9 v10 v11 v12 v13 v14 v15) h=some (.nx (lwF ns H n L v4 v5 v6 v7 v8 v9 v10 v11 v12 w13 w14 v15),h')/\T3 h' W g1 g2 g3 S1 S2 S' ((L,.lst [.loc g1.H,.loc g2.H,.loc g3.H])::rest)
 | [],_,_,_,_,h,v13,v14,.nil,T=>⟨h,v13,v14,rfl,T⟩
 | i::is,_,S,S'',_,h,v13,v14,.cons (t:=t) (ts:=ts) (S':=S') O r,T=>by
  obtain ⟨k,nl,et,ek⟩:=O.k;have step:∃ h1,zpB (lwF ns H n L v4 v5 v6 v7 v8 v9 v10 v11 v12 (.val (.int (i:Nat))) (.val t) v15) h=some (.nx (lwF ns H n L v4 v5 v6 v7 v8 v9 v10 v11 v12 (.val (.int (i:Nat))) (.val t) v15),h1)/\T3 h1 W g1 g2 g3 S1 S2 S' ((L,.lst [.loc g1.H,.loc g2.H,.loc g3.H])::rest):=by
   have ne:=yyY (h:=h) (k:=k) (ns:=nl) fun e=>(ek e).1
   rw [<- et] at ne
   by_cases e:k = "idle"
   .rw [(ek e).2];refine ⟨h,?_,T⟩;have ne:yiy t (.tup [.str "idle"]) h=some (.bl false,h):=by rw [ne];simp [e]
    unfold zpB lwF;clear T r O et ek
    simpa [ne]
   .obtain ⟨as,w,X,back⟩:=T.d;obtain ⟨h1,as',q,X'⟩:=O.t h g3 as w X;refine ⟨h1,?_,back X'⟩;have ne:yiy t (.tup [.str "idle"]) h=some (.bl true,h):=by rw [ne];simp [e]
    have ix:ybM (.loc L) (.int 2) h=some (.loc g3.H,h):=yjk (i:=2) (T.o.mem mem_cons_self) rfl;obtain ⟨xs,ex,F⟩:=O.fl;have ns:yiy t t h1=some (.bl false,h1):=by rw [ex];exact (yie F (by decide)).2.2
    have H0:=X.at_.get 0 rfl;unfold zpB lwF;clear T r O et ek X X' back ex
    simpa [ne,ix,ycq,yB (m:="turn") H0 (by rfl'),q,ns]
  obtain ⟨h1,q1,T1⟩:=step;obtain ⟨h2,w13,w14,q2,T2⟩:=yoU r T1;refine ⟨h2,w13,w14,?_,T2⟩;show yeL _ zpB (.tup [.int (i:Nat),t]::yuo (nV is) ts) _ h=_;rw [yvQ,show yvL 2 (ygU (yn 13) (ygU (yn 14) (yxk))) (.tup [.int (i:Nat),t]) (lwF ns H n L v4 v5 v6 v7 v8 v9 v10 v11 v12 v13 v14 v15)=some (lwF ns H n L v4 v5 v6 v7 v8 v9 v10 v11 v12 (.val (.int (i:Nat))) (.val t) v15) from rfl,bind_some,q1,ybw];show yeL _ zpB (yuo (nV is) ts) _ h1=_;rw [q2]
end
def lqC:XS:=yl (ybN (yz (xOp (yiy) (yW ybk (yc (xOp (ybM) (ye 3) (xC (.int 1))) (yc (xFz (yjB yiw (ye 7) (yen (ye 8)) (yci))) (yh)))) (xFz (yjB yiw (ye 9) (yen (ye 8)) (yci))))) (yO (xC (.bl false))) (yS)) (yl (yhm (xIZ (yc (ye 7) (yc (ye 9) (yh)))) (yvL 2 (ygU (yn 13) (ygU (yn 14) (yxk)))) zpB) (lqD))
def lqB:XS:=yl (ybN (yz (xOp (yiy) (yW ybk (yc (xOp (ybM) (ye 3) (xC (.int 1))) (yc (xFz (yjB yiw (ye 7) (yci) (yen (ye 8)))) (yh)))) (xFz (yjB yiw (ye 9) (yci) (yen (ye 8)))))) (yO (xC (.bl false))) (yS)) (yl (ybq (yg 15 "journal" yV (xOp (ybM) (ye 3) (xC (.int 1))) (yh)) (yn 10)) (yl (ybq (yW ydC (yc (ye 10) (yh))) (yn 11)) (yl (ybq (yg 15 "journal" yV (xOp (ybM) (ye 3) (xC (.int 0))) (yh)) (yn 12)) (yl (ybN (xOr (yz (xOp (oGt) (xCB (ybU) (yc (ye 10) (yh))) (xCB (ybU) (yc (ye 12) (yh))))) (yz (xOp (yiy) (ye 10) (xFz (yjB yiw (ye 12) (yci) (yen (xCB (ybU) (yc (ye 10) (yh))))))))) (yO (xC (.bl false))) (yS)) (lqC)))))
def lqA:XS:=yl (ybq (yW ybk (yc (xOp (ybM) (ye 3) (xC (.int 0))) (yc (ye 7) (yh)))) (yn 9)) (lqB)
structure LE where
 ns:List Int
 H:Int
 n:Nat
 L:Nat
 v4:PVar
 v5:PVar
 v6:PVar
def lwG (E:LE) (is:List Nat) (c:Nat) (v9 v10 v11 v12 v13 v14 v15:PVar):PSt:=lwF E.ns E.H E.n E.L E.v4 E.v5 E.v6 (.val (.lst (nV is))) (.val (.int (c:Nat))) v9 v10 v11 v12 v13 v14 v15
section
variable {h:AH}{cs:List Int}{m b W k c:Nat}{g1 g2 g3:HC}{rest own:List (Nat×Nd)}{S S' S1 S2 S3 Sn:St}{is:List Nat}{ts:List PV}{E:LE}
def yFF (T:T3 h W g1 g2 g3 S1 S2 S3 own) (r:Rn W k S1 is ts S') (hl:is.length<=1000):∃ h',ybk [.loc g1.H,.lst (nV is)] h=some (.lst ts,h')/\T3 h' W g1 g2 g3 S' S2 S3 own:=by obtain ⟨as,w,X,back⟩:=T.a;obtain ⟨h',as',q,X'⟩:=gives r X hl;exact ⟨h',q,back X'⟩
def yFe (T:T3 h W g1 g2 g3 S1 S2 S3 own) (r:Rn W k S2 is ts S') (hl:is.length<=1000):∃ h',ybk [.loc g2.H,.lst (nV is)] h=some (.lst ts,h')/\T3 h' W g1 g2 g3 S1 S' S3 own:=by obtain ⟨as,w,X,back⟩:=T.b;obtain ⟨h',as',q,X'⟩:=gives r X hl;exact ⟨h',q,back X'⟩
def ixs (T:T3 h W g1 g2 g3 S1 S2 S3 ((L,.lst [.loc g1.H,.loc g2.H,.loc g3.H])::rest)):ybM (.loc L) (.int 0) h=some (.loc g1.H,h)/\ybM (.loc L) (.int 1) h=some (.loc g2.H,h)/\ybM (.loc L) (.int 2) h=some (.loc g3.H,h):=⟨yjk (i:=0) (T.o.mem mem_cons_self) rfl,yjk (i:=1) (T.o.mem mem_cons_self) rfl,yjk (i:=2) (T.o.mem mem_cons_self) rfl⟩
def yFG (T:T3 h W g1 g2 g3 S S S ((E.L,.lst [.loc g1.H,.loc g2.H,.loc g3.H])::Hc cs m E.n b)) (w:SW W 0 S) (h3:W<=3) (h4:m<=4) (r:Rn W 0 S is ts Sn) (en:Sn.xs.length=m) (hl:is.length<=360) (hc:c<=is.length) :
  ∃ h',ob (lqA (lwG E is c .no .no .no .no .no .no .no) h) fnK=some (.bl true,h'):=by
 have wn:=r.sw w;have fl:=r.fl;have r0:=r;rw [<- List.take_append_drop c is] at r0;obtain ⟨Sc,r1,r2⟩:=yoO r0;have lc:(is.take c).length=c:=by rw [length_take];omega
 rw [lc] at r1 r2;have wc:=r1.sw w;rw [lc] at wc;obtain ⟨l,el⟩:=r2.en;have tk:ykL (nV is) none (some (c:Int))=nV (is.take c):=by rw [yoS];unfold nV;rw [List.map_take]
 have dr:ykL (nV is) (some (c:Int)) none=nV (is.drop c):=by rw [ywv];unfold nV;rw [List.map_drop]
 obtain ⟨h1,q1,T1⟩:=yFF T r (by omega);have eA:ob (lqA (lwG E is c .no .no .no .no .no .no .no) h) fnK=ob (lqB (lwG E is c (.val (.lst ts)) .no .no .no .no .no .no) h1) fnK:=by
  unfold lqA lwG lwF
  simpa [(ixs T).1,q1,-yjJ]
 obtain ⟨h2,q2,T2⟩:=yFe T1 r1 (by rw [lc];omega);obtain ⟨as1,w1,X1,_⟩:=T2.a;obtain ⟨as2,w2,X2,_⟩:=T2.b;have e1:=yie (h:=h2) (xs:=Sc.en) (fun t ht=>(wc.e t ht).fl) (by decide);have eB:ob (lqB (lwG E is c (.val (.lst ts)) .no .no .no .no .no .no) h1) fnK=ob (lqC (lwG E is c (.val (.lst ts)) (.val (.lst Sc.en)) (.val (.lst Sc.en)) (.val (.lst Sn.en)) .no .no .no) h2) fnK:=by
  have e:ykL Sn.en none (some (Sc.en.length:Int))=Sc.en:=by rw [yoS,el,List.take_left]
  have gt:((Sn.en.length:Int)<(Sc.en.length:Int))=False:=eq_false (by rw [el,length_append];omega);unfold lqB lwG lwF
  simpa [(ixs T1).2.1,tk,q2,yoS ts c,(yie (h:=h2) (xs:=ts.take c) (fun t ht=>fl t (List.mem_of_mem_take ht)) (by decide)).1,(ixs T2).1,(ixs T2).2.1,ycq,yB (m:="journal") (X1.at_.get 0 rfl) (by rfl'),yB (m:="journal") (X2.at_.get 0 rfl) (by rfl'),ynD X1 wn (by omega),ynD X2 wc (by omega),yzd (h:=h2) wc (by omega),e,e1.1,gt,-yjJ]
 obtain ⟨h5,q3,T3'⟩:=yFe T2 r2 (by rw [length_drop];omega);obtain ⟨h6,w13,w14,q4,T4⟩:=yoU (ns:=E.ns) (H:=E.H) (n:=E.n) (v4:=E.v4) (v5:=E.v5) (v6:=E.v6) (v7:=.val (.lst (nV is))) (v8:=.val (.int (c:Nat))) (v9:=.val (.lst ts)) (v10:=.val (.lst Sc.en)) (v11:=.val (.lst Sc.en)) (v12:=.val (.lst Sn.en)) (v13:=.no) (v14:=.no) (v15:=.no) r T3';have s14:yhm (xIZ (yc (ye 7) (yc (ye 9) (yh)))) (yvL 2 (ygU (yn 13) (ygU (yn 14) (yxk)))) zpB (lwG E is c (.val (.lst ts)) (.val (.lst Sc.en)) (.val (.lst Sc.en)) (.val (.lst Sn.en)) .no .no .no) h5=some (.nx (lwG E is c (.val (.lst ts)) (.val (.lst Sc.en)) (.val (.lst Sc.en)) (.val (.lst Sn.en)) w13 w14 .no),h6):=by refine .trans ?_ q4;show ob (if (nV is).length=ts.length then _ else _) _=_;rw [if_pos (by unfold nV;rw [length_map,r.len]),ybw];rfl
 have eC:ob (lqC (lwG E is c (.val (.lst ts)) (.val (.lst Sc.en)) (.val (.lst Sc.en)) (.val (.lst Sn.en)) .no .no .no) h2) fnK=ob (lqD (lwG E is c (.val (.lst ts)) (.val (.lst Sc.en)) (.val (.lst Sc.en)) (.val (.lst Sn.en)) w13 w14 .no) h6) fnK:=by
  unfold lqC lwG lwF at *
  simpa [(ixs T2).2.1,dr,q3,ywv ts c,(yie (h:=h5) (xs:=ts.drop c) (fun t ht=>fl t (List.mem_of_mem_drop ht)) (by decide)).1,s14,-yqW,-yjJ]
 obtain ⟨c1,d1,Y1,_⟩:=T4.a;obtain ⟨c2,d2,Y2,_⟩:=T4.b;obtain ⟨c3,d3,Y3,_⟩:=T4.d;have k1:=ykx Y1 wn h3 (by omega) (by omega) false;have k2:=ykx Y2 wn h3 (by omega) (by omega) true;have k3:=ykx Y3 wn h3 (by omega) (by omega) (decide (E.H%2=0));rw [en] at k1 k2 k3;have lm:=ycW (T4.o.mem (a:=E.n) (mem_cons_of_mem _ mem_cons_self));rw [length_map,List.length_range] at lm;obtain ⟨i1,i2,i3⟩:=ixs T4;have e2:yxP (.lst (Sn.bx.map .int)) (iV Sn.bx) h6=some (.bl true,h6):=(yie (h:=h6) (n:=0) (xs:=Sn.bx.map .int) (fun t ht=>by obtain ⟨i,_,rfl⟩:=List.mem_map.mp ht;trivial) (by decide)).2.1;have ix:ybM (.lst (lkV Sn)) (.int 0) h6=some (iV Sn.bx,h6):=ynC (i:=0) rfl;refine ⟨h6,?_⟩;rw [eA,eB,eC];unfold lqD lwG lwF
 simpa [i1,i2,i3,lm,k1,k2,k3,(yie (h:=h6) (xs:=lkV Sn) (wn.fl h3) (by decide)).1,(yie (h:=h6) (xs:=Sc.en) (fun t ht=>(wc.e t ht).fl) (by decide)).2.1,ycq,yB (m:="boxes") (Y1.at_.get 0 rfl) (by rfl'),ywl Y1,ix,e2,-yjJ]
end
section
variable {h:AH}{ns:List Int}
def yFH (hn:b+m<=n):(((n+1)::n::(List.range m).map fun j=>b+j)).Nodup:=by
 refine List.nodup_cons.2 ⟨fun z=>?_,List.nodup_cons.2 ⟨fun z=>?_,?_⟩⟩
 .rcases mem_cons.mp z with z|z
  .omega
  .obtain ⟨j,hj,e⟩:=List.mem_map.mp z;have:=List.mem_range.mp hj;omega
 .obtain ⟨j,hj,e⟩:=List.mem_map.mp z;have:=List.mem_range.mp hj;omega
 .exact (List.nodup_range).map (f:=fun j=>b+j) fun x y e=>by omega
def yvp:At (hK h cs m cs.length++[Nd.lst []]) ((h.length+m+1,.lst [])::Hc cs m (h.length+m) h.length):=by
 have hk:(hK h cs m cs.length).length=h.length+m+1:=by unfold hK;simp;omega
 have A0:At h []:=⟨List.nodup_nil,fun p hp=>by cases hp⟩
 have:=A0.ext (h':=hK h cs m cs.length++[Nd.lst []]) (e:=(h.length+m+1,.lst [])::Hc cs m (h.length+m) h.length) (fun i hi=>by rw [getElem?_append_left (by omega),yFD hi]) (by
  have:=yFH (n:=h.length+m) (m:=m) (b:=h.length) (Nat.le_refl _);unfold Hc;rw [map_cons,map_cons,map_map];exact this) (fun p hp=>by
  rcases mem_cons.mp hp with rfl|hp
  .show _<=_+_+_;omega
  .rcases mem_cons.mp hp with rfl|hp
   .show _<=_+_;omega
   .obtain ⟨j,_,rfl⟩:=List.mem_map.mp hp;show _<=_+_;omega) fun p hp=>by
  rcases mem_cons.mp hp with rfl|hp
  .rw [<- hk];simp
  .rcases mem_cons.mp hp with rfl|hp
   .rw [getElem?_append_left (by show _+_<_;omega)];exact yEm
   .obtain ⟨j,hj,rfl⟩:=List.mem_map.mp hp;have:=List.mem_range.mp hj;rw [getElem?_append_left (by show _+_<_;omega)];exact yFc this
 rwa [append_nil] at this
def yCh (ns:List Int) (hl:ns.length<=63):∃ h',yuD [.scr ns] h=some (.bl true,h'):=by
 obtain ⟨H,hH⟩:∃ H:Int,ns.getD 0 0%1000000000000000000000000000000=H:=⟨_,rfl⟩
 have hm:2<=ycx H/\ycx H<=4:=by unfold ycx;omega
 have hc:=ysC (ns:=ns);obtain ⟨b1,b2,b3,b4⟩:=ylX (H:=H);have c0:ycA [.scr ns,.int 0] h=some (.int (ns.getD 0 0),h):=ypH 0;have hh:=ysF (h:=h) (ns:=ns) (H:=H);have A:=yvp (h:=h) (cs:=hcs ns) (m:=ycx H);have hk:(hK h (hcs ns) (ycx H) (hcs ns).length).length=h.length+ycx H+1:=by unfold hK;simp;omega
 generalize hcs ns=cs at *;obtain ⟨h3,g1,g2,g3,w4,w5,w6,q4,T⟩:=yEp (ns:=ns) (H:=H) (v4:=.no) (v5:=.no) (v6:=.no) A hm hc;have em:(S00 H cs (ycx H)).xs.length=ycx H:=by unfold S00;simp
 obtain ⟨is,q5,hi,hlt⟩:=yvo (h:=h3) (ns:=ns) (m:=ycx H) (by omega) hm.2;obtain ⟨ts,Sn,r,_,en⟩:=yCe b2 b3 is 0 (S00 H cs (ycx H)) sw0 (by omega) (by rw [em];exact hlt);obtain ⟨c,ec,hcl⟩:=yvk (W:=is.length+1) (by omega) (H/1009);obtain ⟨h',e⟩:=yFG (E:=⟨ns,H,h.length+ycx H,h.length+ycx H+1,w4,w5,w6⟩) (c:=c) T sw0 b3 hm.2 r (by rw [en,em]) hi (by omega);refine ⟨h',.trans ?_ e⟩;have pw:PX.PowOk 10 30=True:=eq_true (by unfold PX.PowOk;decide);have lm:ybU [.loc (h.length+ycx H)] h3=some (.int (ycx H:Nat),h3):=by have:=ycW (T.o.mem (a:=h.length+ycx H) (mem_cons_of_mem _ mem_cons_self));rwa [length_map,List.length_range] at this
 have s4:yhm (yis (yc (xC (.int 3)) (yh))) (yn 4) mkB (lwS ns H (h.length+ycx H) (h.length+ycx H+1) .no .no .no) (hK h cs (ycx H) cs.length++[Nd.lst []])=some (.nx (lwS ns H (h.length+ycx H) (h.length+ycx H+1) w4 w5 w6),h3):=by rw [yqW,show ∀ Y h,yis (yc (xC (.int 3)) (yh)) Y h=some ([.int 0,.int 1,.int 2],h) from fun _ _=>rfl,ybw,q4]
 have l1:ybU [.lst (nV is)] h3=some (.int (is.length:Nat),h3):=by rw [yqY];unfold nV;rw [length_map]
 have d2:oMod (.int (H/1009)) (.int ((is.length:Nat)+1)) h3=some (.int (c:Nat),h3):=by symm;rw [if_pos (by omega),<- ec];rfl
 unfold lwS at s4;unfold yuD;rw [yo];show ob (yl _ (yl _ (yl _ (yl (yhm (yis (yc (xC (.int 3)) (yh))) (yn 4) mkB) (yl _ (yl _ lqA))))) [.val (.scr ns),.no,.no,.no,.no,.no,.no,.no,.no,.no,.no,.no,.no,.no,.no,.no] h) fnK=ob (lqA [.val (.scr ns),.val (.int H),.val (.loc (h.length+ycx H)),.val (.loc (h.length+ycx H+1)),w4,w5,w6,.val (.lst (nV is)),.val (.int (c:Nat)),.no,.no,.no,.no,.no,.no,.no] h3) fnK
 simpa [c0,pw,hH,hh,hk,s4,lm,q5,l1,d2,-yqY,-yqW]
end
end
def top (i:Nat):Stmt:=PySem.Challenge.pw_retryhall_k67_whole_cut_turns.main.body.getD i (.Pass ⟨0,0,0,0⟩)
abbrev FR:=Str×Str×Stmt×Nat×List Str
abbrev fRw (x q:Str) (s:Stmt) (k:Nat) (n:List Str):FR:=(x,q,s,k,n)
abbrev mRw (k:Nat) (x:Str) (n:Nat):Nat×Str×Nat:=(k,x,n)
def r0:FR:=fRw "__init__" "Log.__init__" (inClass (top 8) 0) 1 ["self"]
def r1:FR:=fRw "write" "Log.write" (inClass (top 8) 1) 3 ["self","box","number","top"]
def r2:FR:=fRw "own" "Log.own" (inClass (top 8) 2) 2 ["self","box","layer"]
def r3:FR:=fRw "begin" "Log.begin" (inClass (top 8) 3) 1 ["self"]
def r4:FR:=fRw "settle" "Log.settle" (inClass (top 8) 4) 1 ["self","top","beneath"]
def r5:FR:=fRw "drop" "Log.drop" (inClass (top 8) 5) 1 ["self"]
def r6:FR:=fRw "see" "Log.see" (inClass (top 8) 7) 3 ["self","box","number"]
def r7:FR:=fRw "saw" "Log.saw" (inClass (top 8) 8) 1 ["self"]
def r8:FR:=fRw "wrote" "Log.wrote" (inClass (top 8) 9) 1 ["self","lowest"]
def r9:FR:=fRw "reckon" "reckon" (top 15) 3 ["word","one","other"]
def r10:FR:=fRw "is_whole" "is_whole" (top 16) 1 ["value"]
def r11:FR:=fRw "is_number" "is_number" (top 17) 1 ["value"]
def r12:FR:=fRw "is_made_of" "is_made_of" (top 23) 2 ["text","signs"]
def r13:FR:=fRw "number_of" "number_of" (top 18) 1 ["text","number"]
def r14:FR:=fRw "is_word" "is_word" (top 19) 1 ["text"]
def r15:FR:=fRw "is_slot" "is_slot" (top 20) 1 ["text"]
def r16:FR:=fRw "slot_index" "slot_index" (top 21) 1 ["slot"]
def r17:FR:=fRw "is_name" "is_name" (top 22) 1 ["text"]
def r18:FR:=fRw "__init__" "Doer.__init__" (inClass (top 25) 0) 3 ["self","slots","width"]
def r19:FR:=fRw "held_in" "Doer.held_in" (inClass (top 25) 1) 2 ["self","slot"]
def r20:FR:=fRw "hold" "Doer.hold" (inClass (top 25) 2) 3 ["self","slot","number"]
def r21:FR:=fRw "box_at" "Doer.box_at" (inClass (top 25) 3) 2 ["self","place"]
def r22:FR:=fRw "do_reckon" "Doer.do_reckon" (inClass (top 25) 4) 5 ["self","word","slot","one","other"]
def r23:FR:=fRw "do_put" "Doer.do_put" (inClass (top 25) 5) 3 ["self","place","slot"]
def r24:FR:=fRw "sees_at" "Doer.sees_at" (inClass (top 25) 6) 2 ["self","place"]
def r25:FR:=fRw "take_own" "Doer.take_own" (inClass (top 25) 7) 3 ["self","slot","place"]
def r26:FR:=fRw "take_seen" "Doer.take_seen" (inClass (top 25) 8) 4 ["self","slot","place","numbers","box"]
def r27:FR:=fRw "takes" "takes" (top 27) 2 ["begun_by","row"]
def r28:FR:=fRw "__init__" "Run.__init__" (inClass (top 28) 0) 4 ["self","rows","slots","width"]
def r29:FR:=fRw "row" "Run.row" (inClass (top 28) 1) 1 ["self"]
def r30:FR:=fRw "is_stale" "Run.is_stale" (inClass (top 28) 2) 2 ["self","stamps"]
def r31:FR:=fRw "taker_layer" "Run.taker_layer" (inClass (top 28) 3) 2 ["self","row","layer"]
def r32:FR:=fRw "is_looked_over" "Run.is_looked_over" (inClass (top 28) 4) 1 ["self","row"]
def r33:FR:=fRw "see_next" "Run.see_next" (inClass (top 28) 5) 3 ["self","numbers","stamps","row","box"]
def r34:FR:=fRw "go_plain" "Run.go_plain" (inClass (top 28) 7) 2 ["self","row"]
def r35:FR:=fRw "lead" "Run.lead" (inClass (top 28) 8) 2 ["self","row"]
def r36:FR:=fRw "leave" "Run.leave" (inClass (top 28) 10) 2 ["self","row","layer","side","begun_by"]
def r37:FR:=fRw "throw" "Run.throw" (inClass (top 28) 9) 2 ["self","row","number","begun_by"]
def r38:FR:=fRw "go" "Run.go" (inClass (top 28) 6) 1 ["self","row"]
def r39:FR:=fRw "state" "Hand.state" (inClass (top 29) 1) 1 ["self"]
def r40:FR:=fRw "new_run" "Hand.new_run" (inClass (top 29) 2) 1 ["self","rows"]
def r41:FR:=fRw "begin_anew" "Hand.begin_anew" (inClass (top 29) 3) 1 ["self"]
def r42:FR:=fRw "fall_asleep" "Hand.fall_asleep" (inClass (top 29) 4) 1 ["self"]
def r43:FR:=fRw "go_on" "Hand.go_on" (inClass (top 29) 5) 2 ["self","slots"]
def r44:FR:=fRw "__init__" "Hand.__init__" (inClass (top 29) 0) 3 ["self","deeds","width"]
def r45:FR:=fRw "__init__" "Let.__init__" (inClass (top 33) 0) 3 ["self","slot","number"]
def r46:FR:=fRw "__init__" "Reckon.__init__" (inClass (top 34) 0) 5 ["self","word","slot","one","other"]
def r47:FR:=fRw "__init__" "Take.__init__" (inClass (top 35) 0) 3 ["self","slot","place"]
def r48:FR:=fRw "__init__" "Put.__init__" (inClass (top 36) 0) 3 ["self","place","slot"]
def r49:FR:=fRw "__init__" "If.__init__" (inClass (top 37) 0) 4 ["self","slot","parts","others"]
def r50:FR:=fRw "__init__" "Either.__init__" (inClass (top 38) 0) 3 ["self","parts","others"]
def r51:FR:=fRw "__init__" "Try.__init__" (inClass (top 39) 0) 5 ["self","parts","name","slot","others"]
def r52:FR:=fRw "__init__" "Throw.__init__" (inClass (top 40) 0) 3 ["self","name","slot"]
def r53:FR:=fRw "long" "Let.long" (inClass (top 33) 2) 1 ["self"]
def r54:FR:=fRw "long" "Reckon.long" (inClass (top 34) 2) 1 ["self"]
def r55:FR:=fRw "long" "Take.long" (inClass (top 35) 2) 1 ["self"]
def r56:FR:=fRw "long" "Put.long" (inClass (top 36) 2) 1 ["self"]
def r57:FR:=fRw "long" "Throw.long" (inClass (top 40) 2) 1 ["self"]
def r58:FR:=fRw "long" "Wait.long" (inClass (top 41) 1) 1 ["self"]
def r59:FR:=fRw "list_long" "list_long" (top 31) 1 ["parts"]
def r60:FR:=fRw "long" "If.long" (inClass (top 37) 2) 1 ["self"]
def r61:FR:=fRw "long" "Either.long" (inClass (top 38) 2) 1 ["self"]
def r62:FR:=fRw "long" "Try.long" (inClass (top 39) 2) 1 ["self"]
def r63:FR:=fRw "plain_rows" "plain_rows" (top 46) 1 ["part"]
def r64:FR:=fRw "first_row" "first_row" (top 48) 2 ["part","second"]
def r65:FR:=fRw "rows_between" "rows_between" (top 49) 2 ["part","behind"]
def r66:FR:=fRw "list_rows" "list_rows" (top 44) 2 ["parts","first","rows","part"]
def r67:FR:=fRw "part_rows" "part_rows" (top 45) 2 ["part","first"]
def r68:FR:=fRw "sided_rows" "sided_rows" (top 47) 2 ["part","first","behind","second","inner","outer"]
def r69:FR:=fRw "rows_of" "rows_of" (top 43) 1 ["deed"]
def r70:FR:=fRw "__init__" "Reader.__init__" (inClass (top 55) 0) 2 ["self","words"]
def r71:FR:=fRw "words_of" "words_of" (top 54) 1 ["text"]
def r72:FR:=fRw "ahead" "Reader.ahead" (inClass (top 55) 1) 1 ["self"]
def r73:FR:=fRw "taken" "Reader.taken" (inClass (top 55) 2) 1 ["self","word"]
def r74:FR:=fRw "pass_over" "Reader.pass_over" (inClass (top 55) 3) 2 ["self","wanted","word"]
def r75:FR:=fRw "slot_taken" "Reader.slot_taken" (inClass (top 55) 4) 1 ["self","word"]
def r76:FR:=fRw "name_taken" "Reader.name_taken" (inClass (top 55) 5) 1 ["self","word"]
def r77:FR:=fRw "number_taken" "Reader.number_taken" (inClass (top 55) 6) 1 ["self","word","number"]
def r78:FR:=fRw "reckon_taken" "Reader.reckon_taken" (inClass (top 55) 14) 2 ["self","word","slot","one","other"]
def r79:FR:=fRw "plain_taken" "Reader.plain_taken" (inClass (top 55) 13) 2 ["self","word","slot","place","name"]
def r80:FR:=fRw "list_taken" "Reader.list_taken" (inClass (top 55) 7) 2 ["self","around","parts"]
def r81:FR:=fRw "side_taken" "Reader.side_taken" (inClass (top 55) 8) 2 ["self","around","parts"]
def r82:FR:=fRw "part_taken" "Reader.part_taken" (inClass (top 55) 9) 2 ["self","around","word"]
def r83:FR:=fRw "if_taken" "Reader.if_taken" (inClass (top 55) 10) 2 ["self","around","slot","parts","others"]
def r84:FR:=fRw "either_taken" "Reader.either_taken" (inClass (top 55) 11) 2 ["self","around","parts","others"]
def r85:FR:=fRw "try_taken" "Reader.try_taken" (inClass (top 55) 12) 2 ["self","around","parts","name","slot","others"]
def r86:FR:=fRw "read" "read" (top 53) 1 ["text","reader","deed"]
def r87:FR:=fRw "check_boxes" "check_boxes" (top 60) 1 ["boxes"]
def r88:FR:=fRw "rows_of_deeds" "rows_of_deeds" (top 62) 1 ["texts"]
def r89:FR:=fRw "rows_of_hands" "rows_of_hands" (top 61) 1 ["hands"]
def r90:FR:=fRw "__init__" "Hall.__init__" (inClass (top 63) 0) 3 ["self","boxes","hands"]
def r91:FR:=fRw "boxes" "Hall.boxes" (inClass (top 63) 1) 1 ["self"]
def r92:FR:=fRw "stamps" "Hall.stamps" (inClass (top 63) 2) 1 ["self"]
def r93:FR:=fRw "hand_at" "Hall.hand_at" (inClass (top 63) 4) 2 ["self","hand"]
def r94:FR:=fRw "state" "Hall.state" (inClass (top 63) 5) 2 ["self","hand"]
def r95:FR:=fRw "which" "Hall.which" (inClass (top 63) 6) 2 ["self","hand"]
def r96:FR:=fRw "slots" "Hall.slots" (inClass (top 63) 7) 2 ["self","hand"]
def r97:FR:=fRw "saw" "Hall.saw" (inClass (top 63) 8) 2 ["self","hand"]
def r98:FR:=fRw "journal" "Hall.journal" (inClass (top 63) 9) 1 ["self"]
def r99:FR:=fRw "wake_stale" "Hall.wake_stale" (inClass (top 63) 13) 1 ["self","member"]
def r100:FR:=fRw "end_deed" "Hall.end_deed" (inClass (top 63) 14) 5 ["self","hand","end","laid","slots","member"]
def r101:FR:=fRw "lay_down" "Hall.lay_down" (inClass (top 63) 12) 2 ["self","hand","run","laid","pair","box"]
def r102:FR:=fRw "looked_over_told" "Hall.looked_over_told" (inClass (top 63) 11) 3 ["self","hand","row_number","member","row","box"]
def r103:FR:=fRw "turn" "Hall.turn" (inClass (top 63) 10) 2 ["self","hand","member","row_number"]
def r104:FR:=fRw "_law_cell_at" "_law_cell_at" (top 65) 2 ["_law_script","_law_k"]
noncomputable def r105:FR:=fRw "_law_piece" "_law_piece" (top 66) 1 ["_law_cell","_law_mixed","_law_one","_law_two","_law_number","_law_pieces","_law_some"]
def r106:FR:=fRw "_law_deed" "_law_deed" (top 67) 1 ["_law_cell","_law_cells"]
def r107:FR:=fRw "_law_boxes" "_law_boxes" (top 68) 1 ["_law_head"]
noncomputable def r108:FR:=fRw "_law_hands" "_law_hands" (top 69) 2 ["_law_script","_law_head","_law_hands_here","_law_cells","_law_k"]
noncomputable def r109:FR:=fRw "_law_turns" "_law_turns" (top 70) 2 ["_law_script","_law_many","_law_turns_here","_law_cell","_law_mixed","_law_run","_law_k"]
def r110:FR:=fRw "_law_copy" "_law_copy" (top 71) 1 ["_law_book"]
noncomputable def r111:FR:=fRw "_law_looks" "_law_looks" (top 72) 3 ["_law_hall","_law_many","_law_turned","_law_found","_law_second","_law_hand"]
def r112:FR:=fRw "_law_given" "_law_given" (top 73) 2 ["_law_hall","_law_turns_here"]
noncomputable def r113:FR:=fRw "law" "law" (top 74) 1 ["_law_script","_law_head","_law_hands_here","_law_halls","_law_k","_law_boxes_here","_law_handed","_law_turns_here","_law_cut","_law_told","_law_short","_law_copied","_law_book","_law_hand","_law_what","_law_due"]
def fT:List FR:=[r0,r1,r2,r3,r4,r5,r6,r7,r8,r9,r10,r11,r12,r13,r14,r15,r16,r17,r18,r19,r20,r21,r22,r23,r24,r25,r26,r27,r28,r29,r30,r31,r32,r33,r34,r35,r36,r37,r38,r39,r40,r41,r42,r43,r44,r45,r46,r47,r48,r49,r50,r51,r52,r53,r54,r55,r56,r57,r58,r59,r60,r61,r62,r63,r64,r65,r66,r67,r68,r69,r70,r71,r72,r73,r74,r75,r76,r77,r78,r79,r80,r81,r82,r83,r84,r85,r86,r87,r88,r89,r90,r91,r92,r93,r94,r95,r96,r97,r98,r99,r100,r101,r102,r103,r104,r105,r106,r107,r108,r109,r110,r111,r112,r113]
def fR (n:Nat):FR:=fT.getD n r0
def FR.ps (r:FR):List Str:=r.2.2.2.2.take r.2.2.2.1
abbrev fP (n:Nat):List Str:=FR.ps (fR n)
def AllP {Z:Type}(p:Z->Prop):List Z->Prop
 | []=>True
 | c::cs=>p c/\AllP p cs
theorem AllP.get {Z:Type}{p:Z->Prop}{d:Z}(hd:p d):∀ {cs:List Z},AllP p cs->∀ k:Nat,p (cs.getD k d)
 | [],_,_=>hd
 | _::_,a,0=>a.1
 | _::_,a,k+1=>AllP.get hd a.2 k
theorem AllP.mem {Z:Type}{p:Z->Prop}:∀ {cs:List Z},AllP p cs->∀ i∈cs,p i
 | c::cs,a,i,hi=>by
  rcases mem_cons.mp hi with rfl|hi
  .exact a.1
  .exact AllP.mem a.2 i hi
def ywx:AllP (fun r:FR=>yel r.2.2.2.2 r.ps (ybE r.2.2.1)) fT:=by repeat' first|exact True.intro|refine And.intro ?_ ?_|exact ⟨rfl,rfl,rfl,by rfl',rfl,by rfl',by rfl'⟩
def sc (n:Nat) (h:fR n=r:=by rfl):yel r.2.2.2.2 r.ps (ybE r.2.2.1):=h ▸ AllP.get (p:=fun r:FR=>yel r.2.2.2.2 r.ps (ybE r.2.2.1)) ywx.1 ywx n
def mT:List (Nat×Str×Nat):=[mRw 1 "long" 53,mRw 2 "long" 54,mRw 3 "long" 55,mRw 4 "long" 56,mRw 5 "long" 60,mRw 6 "long" 61,mRw 7 "long" 62,mRw 8 "long" 57,mRw 9 "long" 58,mRw 11 "write" 1,mRw 11 "own" 2,mRw 11 "begin" 3,mRw 11 "settle" 4,mRw 11 "drop" 5,mRw 11 "see" 6,mRw 11 "saw" 7,mRw 11 "wrote" 8,mRw 12 "held_in" 19,mRw 12 "hold" 20,mRw 12 "box_at" 21,mRw 12 "do_put" 23,mRw 12 "do_reckon" 22,mRw 12 "sees_at" 24,mRw 12 "take_own" 25,mRw 12 "take_seen" 26,mRw 12 "row" 29,mRw 12 "is_stale" 30,mRw 12 "taker_layer" 31,mRw 12 "is_looked_over" 32,mRw 12 "see_next" 33,mRw 12 "go" 38,mRw 12 "go_plain" 34,mRw 12 "lead" 35,mRw 12 "throw" 37,mRw 12 "leave" 36,mRw 14 "state" 39,mRw 14 "new_run" 40,mRw 14 "begin_anew" 41,mRw 14 "fall_asleep" 42,mRw 14 "go_on" 43,mRw 15 "boxes" 91,mRw 15 "stamps" 92,mRw 15 "hand_at" 93,mRw 15 "state" 94,mRw 15 "which" 95,mRw 15 "slots" 96,mRw 15 "saw" 97,mRw 15 "journal" 98,mRw 15 "wake_stale" 99,mRw 15 "end_deed" 100,mRw 15 "lay_down" 101,mRw 15 "looked_over_told" 102,mRw 15 "turn" 103,mRw 10 "ahead" 72,mRw 10 "taken" 73,mRw 10 "pass_over" 74,mRw 10 "slot_taken" 75,mRw 10 "name_taken" 76,mRw 10 "number_taken" 77,mRw 10 "list_taken" 80,mRw 10 "side_taken" 81,mRw 10 "part_taken" 82,mRw 10 "if_taken" 83,mRw 10 "either_taken" 84,mRw 10 "try_taken" 85,mRw 10 "plain_taken" 79,mRw 10 "reckon_taken" 78]
abbrev gRw (x:Str) (n:Nat):Str×Nat:=(x,n)
noncomputable def gT:List (Str×Nat):=[gRw "reckon" 9,gRw "is_whole" 10,gRw "is_number" 11,gRw "is_made_of" 12,gRw "number_of" 13,gRw "is_word" 14,gRw "is_slot" 15,gRw "slot_index" 16,gRw "is_name" 17,gRw "takes" 27,gRw "list_long" 59,gRw "plain_rows" 63,gRw "first_row" 64,gRw "rows_between" 65,gRw "list_rows" 66,gRw "part_rows" 67,gRw "sided_rows" 68,gRw "rows_of" 69,gRw "words_of" 71,gRw "read" 86,gRw "check_boxes" 87,gRw "rows_of_deeds" 88,gRw "rows_of_hands" 89,gRw "_law_cell_at" 104,gRw "_law_piece" 105,gRw "_law_deed" 106,gRw "_law_boxes" 107,gRw "_law_hands" 108,gRw "_law_turns" 109,gRw "_law_copy" 110,gRw "_law_looks" 111,gRw "_law_given" 112,gRw "law" 113]
noncomputable def kT:List (Nat×Nat):=[(1,45),(2,46),(3,47),(4,48),(5,49),(6,50),(7,51),(8,52),(10,70),(11,0),(12,28),(13,18),(14,44),(15,90)]
def cT:List Str:=["Part","Let","Reckon","Take","Put","If","Either","Try","Throw","Wait","Reader","Log","Run","Doer","Hand","Hall"]
def zT:List Str:=["all","any","bool","int","isinstance","len","list","range","reversed","sorted","str","sum","zip"]
noncomputable def nT:List (Str×List Nat):=[("stack",[11]),("last_seen",[11]),("held",[12]),("width",[12,14]),("log",[12]),("rows",[12]),("at",[10,12]),("seen_stamps",[12]),("sides",[12]),("deeds",[14]),("nth",[14]),("sleeps",[14]),("before",[14]),("run",[14]),("numbers",[15]),("marks",[15]),("crew",[15]),("entries",[15]),("words",[10]),("slot",[1,2,3,4,5,7,8]),("number",[1]),("place",[3,4]),("parts",[5,6,7]),("others",[5,6,7]),("name",[7,8]),("word",[2]),("one",[2]),("other",[2])]
def ml1 {Z:Type}{P:List Z->Prop}(h:∀ a,P [a]):∀ us:List Z,us.length=1->P us
 | [_],_=>h _
def ml2 {Z:Type}{P:List Z->Prop}(h:∀ a b,P [a,b]):∀ us:List Z,us.length=2->P us
 | [_,_],_=>h _ _
def ml3 {Z:Type}{P:List Z->Prop}(h:∀ a b c,P [a,b,c]):∀ us:List Z,us.length=3->P us
 | [_,_,_],_=>h _ _ _
def ml4 {Z:Type}{P:List Z->Prop}(h:∀ a b c d,P [a,b,c,d]):∀ us:List Z,us.length=4->P us
 | [_,_,_,_],_=>h _ _ _ _
def ml5 {Z:Type}{P:List Z->Prop}(h:∀ a b c d e,P [a,b,c,d,e]):∀ us:List Z,us.length=5->P us
 | [_,_,_,_,_],_=>h _ _ _ _ _
set_option genInjectivity false in
set_option genSizeOf false in
structure Ads where
 A:Nat->Addr
 fl:Nat->Addr×FuncData
 k_FIGURES:Tok
 k_LETTERS:Tok
 k_MOST_AROUND:Tok
 k_MOST_BOXES:Tok
 k_MOST_DEEDS:Tok
 k_MOST_HANDS:Tok
 k_MOST_ROWS:Tok
 k_SLOTS:Tok
 k_WIDE:Tok
 k_WORDS:Addr
abbrev Ads.a (t:Ads) (n:Nat):Addr:=(t.fl n).1
abbrev Ads.d (t:Ads) (n:Nat):FuncData:=(t.fl n).2
abbrev yoV (K:PySem.W.Frag) (t:Ads):Ck:=⟨K,t.A⟩
structure Txt (K:PySem.W.Frag) (mg:Str->Option Value) (t:Ads):Prop where
 f:∀ n,Fun K (fR n).1 (fR n).2.1 (fR n).2.2.1 (t.a n) (t.d n)
 b:∀ n,Binds K (t.d n) (fP n) []
 G:∀ n,mg (gT.getD n ("reckon",9)).1=some (.ref (t.a (gT.getD n ("reckon",9)).2))
 C:∀ n,mg (cT.getD n "Part")=some (.ref (t.A n))
 J:∀ n,Mk K (t.A (kT.getD n (1,45)).1) (t.a (kT.getD n (1,45)).2)
 M:∀ n,Meth K (t.A (mT.getD n (mRw 1 "long" 53)).1) (mT.getD n (mRw 1 "long" 53)).2.1 (t.a (mT.getD n (mRw 1 "long" 53)).2.2)
 mk_Part:makesIn K (t.A 0)=true
 io_Part:findIn K (.ref (t.A 0)) "__init__" = some (some (.builtin "object.__init__"))
 kp_Part:keepIn K (.ref (t.A 0))=true
 mk_Wait:makesIn K (t.A 9)=true
 io_Wait:findIn K (.ref (t.A 9)) "__init__" = some (some (.builtin "object.__init__"))
 kp_Wait:keepIn K (.ref (t.A 9))=true
 cf_Doer:yuA K (t.A 13) "__init__" (t.a 18)
 cl:∀ k,Cls K (t.A k)
 N:∀ n,∀ k∈(nT.getD n ("stack",[11])).2,Cls K (t.A k)/\NoAttr K (t.A k) (nT.getD n ("stack",[11])).1
 isa:∀ r∈yfH,∀ (H:Hp) (a dx:Addr) (fs:List (Str×V)),H a=some (.ins (t.A r.1) dx fs)->IsI K H (.ref a) (.ref (t.A r.2.1)) r.2.2
 Z:∀ n,mg (zT.getD n "all")=none
 m_FIGURES:mg "FIGURES" = some (.str "0123456789" t.k_FIGURES)
 m_LETTERS:mg "LETTERS" = some (.str "abcdefghijklmnopqrstuvwxyz" t.k_LETTERS)
 m_MOST_AROUND:mg "MOST_AROUND" = some (.int 8 t.k_MOST_AROUND)
 m_MOST_BOXES:mg "MOST_BOXES" = some (.int 16 t.k_MOST_BOXES)
 m_MOST_DEEDS:mg "MOST_DEEDS" = some (.int 6 t.k_MOST_DEEDS)
 m_MOST_HANDS:mg "MOST_HANDS" = some (.int 8 t.k_MOST_HANDS)
 m_MOST_ROWS:mg "MOST_ROWS" = some (.int 80 t.k_MOST_ROWS)
 m_SLOTS:mg "SLOTS" = some (.str "abcdefgh" t.k_SLOTS)
 m_WIDE:mg "WIDE" = some (.int 18446744073709551616 t.k_WIDE)
 m_WORDS:mg "WORDS" = some (.ref t.k_WORDS)
 kt_WORDS:KTp K t.k_WORDS ((["plus","minus","times","less","same"]:List Str).map V.str)
def Txt.F (T:Txt K mg t) (n:Nat) (r:FR) (h:fR n=r:=by rfl):Fun K r.1 r.2.1 r.2.2.1 (t.a n) (t.d n):=h ▸ T.f n
def Txt.k (T:Txt K mg t) (n:Nat):keepIn K (.ref (t.a n))=true:=(T.f n).kp
section
variable {P:Program}{w:World}{K:PySem.W.Frag}{mg:Str->Option Value}{base:Heap}{t:Ads}
def ydF {Q:VK}(h:spE ck n (fun _ _=>none) vs H Q E):False:=by obtain ⟨_,_,_,_,_,_,_,_,q,_⟩:=h;cases q
def ydd:FnOk P w K mg base CX0 k f fd ps (spE ck n fun _ _=>none):=⟨fun vs H Q E h=>(ydF h).elim,fun A outer s H args us vs Q E _ _ _ _ h=>(ydF h).elim⟩
local macro_rules | `(‹($n,$i,$r,$k,$p)›)=>`(FnOk $(Lean.mkIdent `P) $(Lean.mkIdent `w) $(Lean.mkIdent `K) $(Lean.mkIdent `mg) $(Lean.mkIdent `base) CX0 $n ($(Lean.mkIdent `t).a $i) ($(Lean.mkIdent `t).d $i) (FR.ps $r) (spE (yoV $(Lean.mkIdent `K) $(Lean.mkIdent `t)) $k $p))
structure yFI (P:Program) (w:World) (K:PySem.W.Frag) (mg:Str->Option Value) (base:Heap) (t:Ads) (n:Nat):Prop where
 yfN:‹(n+1,59,r59,1,(ybA n))›
 ylY:‹(n+1,60,r60,1,(ylM n))›
 ygj:‹(n+1,61,r61,1,(ygf n))›
 yjl:‹(n+1,62,r62,1,(yje n))›
 m_long:ymJ P w K mg base (n+1) t.A "long" (fun k=>spE (yoV K t) 1 (ylL n k))
structure yFJ (P:Program) (w:World) (K:PySem.W.Frag) (mg:Str->Option Value) (base:Heap) (t:Ads) (n:Nat):Prop where
 yif:‹(n+47,66,r66,2,(yda n))›
 ynE:‹(n+47,67,r67,2,(ydB n))›
 ylZ:‹(n+47,68,r68,2,(ygL n))›
structure yFK (P:Program) (w:World) (K:PySem.W.Frag) (mg:Str->Option Value) (base:Heap) (t:Ads) (n:Nat):Prop where
 ydG:‹(n+6,80,r80,2,(ybC n))›
 yfO:‹(n+6,81,r81,2,(yq n))›
 yfP:‹(n+6,82,r82,2,(yD n))›
 ygD:‹(n+6,83,r83,2,(ybQ n))›
 yeW:‹(n+6,84,r84,2,(ybj n))›
 ygk:‹(n+6,85,r85,2,(ybL n))›
variable (T:Txt K mg t)
include T
def yig:FnOk P w K mg base CX0 (0+1) (t.a 45) (t.d 45) (FR.ps r45) (spI (yoV K t) 2 1 yfu):=zin (T.F 45 r45) (sc 45) rfl (by decide) fun cdv Ar outer sh H E hr=>(ybh (ybr (T.N 19) z_v) (yds (ybr (T.N 20) z_v)))
def ygl:FnOk P w K mg base CX0 (0+1) (t.a 46) (t.d 46) (FR.ps r46) (spI (yoV K t) 4 2 yef):=zin (T.F 46 r46) (sc 46) rfl (by decide) fun cdv Ar outer sh H E hr=>(ybh (ybr (T.N 25) z_v) (ybh (ybr (T.N 19) z_v) (ybh (ybr (T.N 26) z_v) (yds (ybr (T.N 27) z_v)))))
def yhd:FnOk P w K mg base CX0 (0+1) (t.a 47) (t.d 47) (FR.ps r47) (spI (yoV K t) 2 3 yeR):=zin (T.F 47 r47) (sc 47) rfl (by decide) fun cdv Ar outer sh H E hr=>(ybh (ybr (T.N 19) z_v) (yds (ybr (T.N 21) z_v)))
def yih:FnOk P w K mg base CX0 (0+1) (t.a 48) (t.d 48) (FR.ps r48) (spI (yoV K t) 2 4 yfv):=zin (T.F 48 r48) (sc 48) rfl (by decide) fun cdv Ar outer sh H E hr=>(ybh (ybr (T.N 21) z_v) (yds (ybr (T.N 19) z_v)))
def yiH:FnOk P w K mg base CX0 (0+1) (t.a 49) (t.d 49) (FR.ps r49) (spI (yoV K t) 3 5 ygd):=zin (T.F 49 r49) (sc 49) rfl (by decide) fun cdv Ar outer sh H E hr=>(ybh (ybr (T.N 19) z_v) (ybh (ybr (T.N 22) (ybV (ycd yy yba (T.Z 6) (ya z_v yd)))) (yds (ybr (T.N 23) (ybV (ycd yy yba (T.Z 6) (ya z_v yd)))))))
def ygm:FnOk P w K mg base CX0 (0+1) (t.a 50) (t.d 50) (FR.ps r50) (spI (yoV K t) 2 6 yeg):=zin (T.F 50 r50) (sc 50) rfl (by decide) fun cdv Ar outer sh H E hr=>(ybh (ybr (T.N 22) (ybV (ycd yy yba (T.Z 6) (ya z_v yd)))) (yds (ybr (T.N 23) (ybV (ycd yy yba (T.Z 6) (ya z_v yd))))))
def yii:FnOk P w K mg base CX0 (0+1) (t.a 51) (t.d 51) (FR.ps r51) (spI (yoV K t) 4 7 yfw):=zin (T.F 51 r51) (sc 51) rfl (by decide) fun cdv Ar outer sh H E hr=>(ybh (ybr (T.N 22) (ybV (ycd yy yba (T.Z 6) (ya z_v yd)))) (ybh (ybr (T.N 24) z_v) (ybh (ybr (T.N 19) z_v) (yds (ybr (T.N 23) (ybV (ycd yy yba (T.Z 6) (ya z_v yd))))))))
def ygE:FnOk P w K mg base CX0 (0+1) (t.a 52) (t.d 52) (FR.ps r52) (spI (yoV K t) 2 8 yeE):=zin (T.F 52 r52) (sc 52) rfl (by decide) fun cdv Ar outer sh H E hr=>(ybh (ybr (T.N 24) z_v) (yds (ybr (T.N 19) z_v)))
def ynF:‹(0+1,53,r53,1,yjc)›:=zfn (T.F 53 r53) (sc 53) fun cdv Ar outer sh H E hr=>(yf (yj yk))
def yiI:‹(0+1,54,r54,1,yge)›:=zfn (T.F 54 r54) (sc 54) fun cdv Ar outer sh H E hr=>(yf (yj yk))
def yma:‹(0+1,55,r55,1,yhT)›:=zfn (T.F 55 r55) (sc 55) fun cdv Ar outer sh H E hr=>(yf (yj yk))
def ynG:‹(0+1,56,r56,1,yjd)›:=zfn (T.F 56 r56) (sc 56) fun cdv Ar outer sh H E hr=>(yf (yj yk))
def ykz:‹(0+1,57,r57,1,ygJ)›:=zfn (T.F 57 r57) (sc 57) fun cdv Ar outer sh H E hr=>(yf (yj yk))
def ymb:‹(0+1,58,r58,1,yhU)›:=zfn (T.F 58 r58) (sc 58) fun cdv Ar outer sh H E hr=>(yf (yj yk))
theorem ykA:∀ n,yFI P w K mg base t n
 | 0=>⟨ydd,ydd,ydd,ydd,fun c=>⟨T.cl c,.inl fun _ _ _ _ h=>ydF h⟩⟩
 | n+1=>by
  have I:=ykA n;have yde:=I.yfN;have yCi:=I.ylY;have yvq:=I.ygj;have yzo:=I.yjl;have G_long:=I.m_long;exact ⟨zfn (T.F 59 r59) (sc 59) fun cdv Ar outer sh H E hr=>(yf (yj (ydK (ytn rfl) yDb (T.Z 11) (ya (ybV (yhL [] (yeO z_v) (fun _ _ _ _ _ _=>(yry z_v G_long)))) yd)))),
   zfn (T.F 60 r60) (sc 60) fun cdv Ar outer sh H E hr=>(yf (yj (ybG ycc ydw (ybG ycc ydw yk (yR yde (T.G 10) (T.k 59) (T.b 59) (ya (yx (T.N 22) z_v) yd))) (yR yde (T.G 10) (T.k 59) (T.b 59) (ya (yx (T.N 23) z_v) yd))))),
   zfn (T.F 61 r61) (sc 61) fun cdv Ar outer sh H E hr=>(yf (yj (ybG ycc ydw (ybG ycc ydw yk (yR yde (T.G 10) (T.k 59) (T.b 59) (ya (yx (T.N 22) z_v) yd))) (yR yde (T.G 10) (T.k 59) (T.b 59) (ya (yx (T.N 23) z_v) yd))))),
   zfn (T.F 62 r62) (sc 62) fun cdv Ar outer sh H E hr=>(yf (yj (ybG ycc ydw (ybG ycc ydw yk (yR yde (T.G 10) (T.k 59) (T.b 59) (ya (yx (T.N 22) z_v) yd))) (yR yde (T.G 10) (T.k 59) (T.b 59) (ya (yx (T.N 23) z_v) yd))))),
   fun c=>⟨T.cl c,match c with|0=>.inl fun _ _ _ _ h=>ydF h|1=>.inr ⟨_,_,_,(T.M 0),(ynF T).mono (by omega),(T.b 53)⟩|2=>.inr ⟨_,_,_,(T.M 1),(yiI T).mono (by omega),(T.b 54)⟩|3=>.inr ⟨_,_,_,(T.M 2),(yma T).mono (by omega),(T.b 55)⟩|4=>.inr ⟨_,_,_,(T.M 3),(ynG T).mono (by omega),(T.b 56)⟩|5=>.inr ⟨_,_,_,(T.M 4),I.ylY.mono (by omega),(T.b 60)⟩|6=>.inr ⟨_,_,_,(T.M 5),I.ygj.mono (by omega),(T.b 61)⟩|7=>.inr ⟨_,_,_,(T.M 6),I.yjl.mono (by omega),(T.b 62)⟩|8=>.inr ⟨_,_,_,(T.M 7),(ykz T).mono (by omega),(T.b 57)⟩|9=>.inr ⟨_,_,_,(T.M 8),(ymb T).mono (by omega),(T.b 58)⟩|10=>.inl fun _ _ _ _ h=>ydF h|11=>.inl fun _ _ _ _ h=>ydF h|12=>.inl fun _ _ _ _ h=>ydF h|13=>.inl fun _ _ _ _ h=>ydF h|14=>.inl fun _ _ _ _ h=>ydF h|15=>.inl fun _ _ _ _ h=>ydF h|c+16=>.inl fun _ _ _ _ h=>ydF h⟩⟩
def ykB:‹(0+1,63,r63,1,ygK)›:=zfn (T.F 63 r63) (sc 63) fun cdv Ar outer sh H E hr=>(yb (yU (ybS (ydK ybd (yfY (K:=ckX _ _) T.isa) (T.Z 4) (ya z_v (ya (yeC (T.C 1)) yd)))) (yf (yj (ybV (ycv (ya (ycY (ya yI (ya (yx (T.N 19) z_v) (ya (yx (T.N 20) z_v) yd)))) yd))))) yr) (yb (yU (ybS (ydK ybd (yfY (K:=ckX _ _) T.isa) (T.Z 4) (ya z_v (ya (yeC (T.C 2)) yd)))) (yf (yj (ybV (ycv (ya (ycY (ya (yx (T.N 25) z_v) (ya (yx (T.N 19) z_v) (ya (yx (T.N 26) z_v) (ya (yx (T.N 27) z_v) yd))))) yd))))) yr) (yb (yU (ybS (ydK ybd (yfY (K:=ckX _ _) T.isa) (T.Z 4) (ya z_v (ya (yeC (T.C 3)) yd)))) (yf (yj (ybV (ycv (ya (ycY (ya yI (ya (yx (T.N 19) z_v) (ya (yx (T.N 21) z_v) yd)))) yd))))) yr) (yb (yU (ybS (ydK ybd (yfY (K:=ckX _ _) T.isa) (T.Z 4) (ya z_v (ya (yeC (T.C 4)) yd)))) (yf (yj (ybV (ycv (ya (ycY (ya yI (ya (yx (T.N 21) z_v) (ya (yx (T.N 19) z_v) yd)))) yd))))) yr) (yb (yU (ybS (ydK ybd (yfY (K:=ckX _ _) T.isa) (T.Z 4) (ya z_v (ya (yeC (T.C 8)) yd)))) (yf (yj (ybV (ycv (ya (ycY (ya yI (ya (yx (T.N 24) z_v) (ya (yx (T.N 19) z_v) yd)))) yd))))) yr) (yb (yU (ybS (ydK ybd (yfY (K:=ckX _ _) T.isa) (T.Z 4) (ya z_v (ya (yeC (T.C 9)) yd)))) (yf (yj (ybV (ycv (ya (ycY (ya yI yd)) yd))))) yr) (yf (yj (ybV (ycv yd))))))))))
def ymc:‹(0+1,64,r64,2,yhV)›:=zfn (T.F 64 r64) (sc 64) fun cdv Ar outer sh H E hr=>(yb (yU (ybS (ydK ybd (yfY (K:=ckX _ _) T.isa) (T.Z 4) (ya z_v (ya (yeC (T.C 5)) yd)))) (yf (yj (ycY (ya yI (ya (yx (T.N 19) z_v) (ya z_v yd)))))) yr) (yb (yU (ybS (ydK ybd (yfY (K:=ckX _ _) T.isa) (T.Z 4) (ya z_v (ya (yeC (T.C 6)) yd)))) (yf (yj (ycY (ya yI (ya z_v yd))))) yr) (yf (yj (ycY (ya yI (ya (yx (T.N 24) z_v) (ya (yx (T.N 19) z_v) (ya z_v yd)))))))))
def yij:‹(0+1,65,r65,2,yfx)›:=zfn (T.F 65 r65) (sc 65) fun cdv Ar outer sh H E hr=>(yb (yU (ybS (ydK ybd (yfY (K:=ckX _ _) T.isa) (T.Z 4) (ya z_v (ya (yeC (T.C 5)) yd)))) (yf (yj (ybV (ycv (ya (ycY (ya yI (ya z_v yd))) yd))))) yr) (yf (yj (ybV (ycv (ya (ycY (ya yI yd)) (ya (ycY (ya yI (ya z_v yd))) yd)))))))
theorem ysG:∀ n,yFJ P w K mg base t n
 | 0=>⟨ydd,ydd,ydd⟩
 | n+1=>by
  have I:=ysG n;have yik:=I.yif;have ynH:=I.ynE;have ymd:=I.ylZ;exact ⟨zfn (T.F 66 r66) (sc 66) fun cdv Ar outer sh H E hr=>have nd:=(sc 66 (r:=r66)).nd;(yb (yfG (ycv yd)) (yb (yhM (yeO z_v) ydz (yf (yBb (yR ynH (T.G 15) (T.k 67) (T.b 67) (ya z_v (ya (ybG ycc ydw z_v (yBc (T.Z 5))) yd)))))) (ygB (yf (yj z_v))))),
   zfn (T.F 67 r67) (sc 67) fun cdv Ar outer sh H E hr=>(yb (yU (ypv (yiA (ybS (ydK ybd (yfY (K:=ckX _ _) T.isa) (T.Z 4) (ya z_v (ya (yeC (T.C 5)) yd)))) (yiA (ybS (ydK ybd (yfY (K:=ckX _ _) T.isa) (T.Z 4) (ya z_v (ya (yeC (T.C 6)) yd)))) (yga (ybS (ydK ybd (yfY (K:=ckX _ _) T.isa) (T.Z 4) (ya z_v (ya (yeC (T.C 7)) yd)))))))) (yf (yj (yR ymd (T.G 16) (T.k 68) (T.b 68) (ya z_v (ya z_v yd))))) yr) (yf (yj (yR (ykB T) (T.G 11) (T.k 63) (T.b 63) (ya z_v yd))))),
   zfn (T.F 68 r68) (sc 68) fun cdv Ar outer sh H E hr=>have nd:=(sc 68 (r:=r68)).nd;(yb (yt (ybG ycc ydw z_v (yry z_v (ykA T 45).m_long))) (yb (yt (ybG ykM yqN z_v (yR (ykA T 45).yfN (T.G 10) (T.k 59) (T.b 59) (ya (yx (T.N 23) z_v) yd)))) (yb (yt (yR yik (T.G 14) (T.k 66) (T.b 66) (ya (yx (T.N 22) z_v) (ya (ybG ycc ydw z_v yk) yd)))) (yb (yt (yR yik (T.G 14) (T.k 66) (T.b 66) (ya (yx (T.N 23) z_v) (ya z_v yd)))) (yf (yj (ybV (ylI yiQ ypl (ybV (ylI yiQ ypl (ybV (ylI yiQ ypl (ybV (ycv (ya (yR (ymc T) (T.G 12) (T.k 64) (T.b 64) (ya z_v (ya z_v yd))) yd))) z_v)) (yR (yij T) (T.G 13) (T.k 65) (T.b 65) (ya z_v (ya z_v yd))))) z_v))))))))⟩
def ypI:‹(92+1,69,r69,1,yeh)›:=zfn (T.F 69 r69) (sc 69) fun cdv Ar outer sh H E hr=>(yf (yj (ybV (ylI yiQ ypl (yR (ysG T 45).yif (T.G 14) (T.k 66) (T.b 66) (ya z_v (ya yk yd))) (ybV (ycv (ya (ycY (ya yI yd)) yd)))))))
def ygn:‹(0+1,12,r12,2,ydh)›:=zfn (T.F 12 r12) (sc 12) fun cdv Ar outer sh H E hr=>(yf (yj (ydK (ynX rfl) yAt (T.Z 0) (ya (ybV (yhL ["signs"] (yAY z_v) (fun _ _ _ _ _ _=>(yfl ykZ yAm z_v z_v)))) yd))))
def yme:‹(1+1,13,r13,1,yev)›:=zfn (T.F 13 r13) (sc 13) fun cdv Ar outer sh H E hr=>have nd:=(sc 13 (r:=r13)).nd;(yb (yU (ypv (yiA (yeD (yhn yiu yiu ysM ysM yk (ydK ydM yob (T.Z 5) (ya z_v yd)) yk)) (yga (yeD (ybS (yR (ygn T) (T.G 3) (T.k 12) (T.b 12) (ya z_v (ya (ylH T.m_FIGURES) yd)))))))) (yf (yj yiz)) yr) (yb (yU (ypv (yow (yH ybF ydJ (ybp yzU yDa z_v yk) yI) (yjY (yH ysY yCn z_v yI)))) (yf (yj yiz)) yr) (yb (yt (yus yla yAr (T.Z 3) (ya z_v yd))) (yf (yj (yrx (yH ymy yxw z_v (yfr T.m_WIDE)) z_v yiz))))))
def ypJ:‹(0+1,14,r14,1,yhP)›:=zfn (T.F 14 r14) (sc 14) fun cdv Ar outer sh H E hr=>(yf (yj (yfl yqs yDI z_v (yBh (ss:=["plus","minus","times","less","same"]) T.m_WORDS T.kt_WORDS))))
def ypK:‹(0+1,15,r15,1,yhQ)›:=zfn (T.F 15 r15) (sc 15) fun cdv Ar outer sh H E hr=>(yf (yj (ypu (yfl ybF ydJ (ydK ydM yob (T.Z 5) (ya z_v yd)) yk) (ypt (yfl ykZ yAm z_v (ylH T.m_SLOTS))))))
def ypL:‹(1+1,17,r17,1,yhR)›:=zfn (T.F 17 r17) (sc 17) fun cdv Ar outer sh H E hr=>(yf (yj (ypu (yrw yiu yiu ysM ysM yk (ydK ydM yob (T.Z 5) (ya z_v yd)) yk) (ypt (yR (ygn T) (T.G 3) (T.k 12) (T.b 12) (ya z_v (ya (ylH T.m_LETTERS) yd)))))))
def yil:‹(0+1,10,r10,1,yee)›:=zfn (T.F 10 r10) (sc 10) fun cdv Ar outer sh H E hr=>(yf (yj (ypu (ydK ybd (yfY (K:=ckX _ _) T.isa) (T.Z 4) (ya z_v (ya (yAX (T.Z 3)) yd))) (ypt (yDU (ydK ybd (yfY (K:=ckX _ _) T.isa) (T.Z 4) (ya z_v (ya (yAX (T.Z 2)) yd))))))))
def ymf:‹(1+1,11,r11,1,ycZ)›:=zfn (T.F 11 r11) (sc 11) fun cdv Ar outer sh H E hr=>(yf (yj (ypu (yR (yil T) (T.G 1) (T.k 10) (T.b 10) (ya z_v yd)) (ypt (yrw yiu ymy ysM yxw yk z_v (yfr T.m_WIDE))))))
def ygo:FnOk P w K mg base CX0 (0+1) (t.a 70) (t.d 70) (FR.ps r70) (spI (yoV K t) 1 10 ydb):=zin (T.F 70 r70) (sc 70) rfl (by decide) fun cdv Ar outer sh H E hr=>(ybh (ybr (T.N 18) (ybV (ycd yy yba (T.Z 6) (ya z_v yd)))) (yds (ybr (T.N 6) yk)))
def ynI:‹(0+1,71,r71,1,yff)›:=zfn (T.F 71 r71) (sc 71) fun cdv Ar outer sh H E hr=>(yb (yU (yH ybF ydJ z_v yI) (yf (yj (ybV (ycv yd)))) yr) (yf (yj (yrz PySem.F.plainAttrs_str PySem.F.slot_str_split PySem.F.type_str_split yuB m_split z_v (ya yI yd)))))
def ycr:‹(0+1,72,r72,1,ybs)›:=zfn (T.F 72 r72) (sc 72) fun cdv Ar outer sh H E hr=>(yb (yU (yH ymy yxw (yx (T.N 6) z_v) (ydK yA ycw (T.Z 5) (ya (yx (T.N 18) z_v) yd))) (yf (yj (ybp yQ ych (yx (T.N 18) z_v) (yx (T.N 6) z_v)))) yr) (yf (yj yiz)))
def ycs:‹(1+1,73,r73,1,ybt)›:=zfn (T.F 73 r73) (sc 73) fun cdv Ar outer sh H E hr=>have nd:=(sc 73 (r:=r73)).nd;(yb (yt (yp z_v (T.M 53) (ycr T) (T.b 72))) (yb (yU (yH ynR ytK z_v yiz) (yf yce) yr) (yb (yby (T.N 6) z_v (ybG ycc ydw (yx (T.N 6) z_v) yk)) (yf (yj z_v)))))
def ybf:‹(2+1,74,r74,2,yL)›:=zfn (T.F 74 r74) (sc 74) fun cdv Ar outer sh H E hr=>have nd:=(sc 74 (r:=r74)).nd;(yb (yt (yp z_v (T.M 54) (ycs T) (T.b 73))) (yf (yU (yH ysY yCn z_v z_v) (yf yce) yr)))
def yF:‹(2+1,75,r75,1,yu)›:=zfn (T.F 75 r75) (sc 75) fun cdv Ar outer sh H E hr=>have nd:=(sc 75 (r:=r75)).nd;(yb (yt (yp z_v (T.M 54) (ycs T) (T.b 73))) (yb (yU (yeD (ybS (yR (ypK T) (T.G 6) (T.k 15) (T.b 15) (ya z_v yd)))) (yf yce) yr) (yf (yj z_v))))
def ydv:‹(2+1,76,r76,1,ybB)›:=zfn (T.F 76 r76) (sc 76) fun cdv Ar outer sh H E hr=>have nd:=(sc 76 (r:=r76)).nd;(yb (yt (yp z_v (T.M 54) (ycs T) (T.b 73))) (yb (yU (yeD (ybS (yR (ypL T) (T.G 8) (T.k 17) (T.b 17) (ya z_v yd)))) (yf yce) yr) (yf (yj z_v))))
def yeG:‹(2+1,77,r77,1,ybJ)›:=zfn (T.F 77 r77) (sc 77) fun cdv Ar outer sh H E hr=>have nd:=(sc 77 (r:=r77)).nd;(yb (yt (yp z_v (T.M 54) (ycs T) (T.b 73))) (yb (yt (yR (yme T) (T.G 4) (T.k 13) (T.b 13) (ya z_v yd))) (yb (yU (yH ynR ytK z_v yiz) (yf yce) yr) (yf (yj z_v)))))
def yeH:‹(3+1,78,r78,2,ybK)›:=zfn (T.F 78 r78) (sc 78) fun cdv Ar outer sh H E hr=>have nd:=(sc 78 (r:=r78)).nd;(yb (yt (yp z_v (T.M 56) (yF T) (T.b 75))) (yb (yt (yp z_v (T.M 56) (yF T) (T.b 75))) (yb (yt (yp z_v (T.M 56) (yF T) (T.b 75))) (yf (yj (ybV (yfs (T.J 1) (ygl T) (T.C 2) (T.b 46) (ya z_v (ya z_v (ya z_v (ya z_v yd)))))))))))
def yeX:‹(4+1,79,r79,2,yv)›:=zfn (T.F 79 r79) (sc 79) fun cdv Ar outer sh H E hr=>have nd:=(sc 79 (r:=r79)).nd;(yb (yU (yH ybF ydJ z_v yI) (yb (yt (yp z_v (T.M 56) (yF T) (T.b 75))) (yf (yj (ybV (yfs (T.J 0) (yig T) (T.C 1) (T.b 45) (ya z_v (ya (yp z_v (T.M 58) (yeG T) (T.b 77)) yd))))))) yr) (yb (yU (yH ybF ydJ z_v yI) (yb (yt (yp z_v (T.M 56) (yF T) (T.b 75))) (yf (yj (ybV (yfs (T.J 2) (yhd T) (T.C 3) (T.b 47) (ya z_v (ya (yp z_v (T.M 56) (yF T) (T.b 75)) yd))))))) yr) (yb (yU (yH ybF ydJ z_v yI) (yb (yt (yp z_v (T.M 56) (yF T) (T.b 75))) (yf (yj (ybV (yfs (T.J 3) (yih T) (T.C 4) (T.b 48) (ya z_v (ya (yp z_v (T.M 56) (yF T) (T.b 75)) yd))))))) yr) (yb (yU (yH ybF ydJ z_v yI) (yb (yt (yp z_v (T.M 57) (ydv T) (T.b 76))) (yf (yj (ybV (yfs (T.J 7) (ygE T) (T.C 8) (T.b 52) (ya z_v (ya (yp z_v (T.M 56) (yF T) (T.b 75)) yd))))))) yr) (yb (yU (yH ybF ydJ z_v yI) (yf (yj (ybV (yxY T.mk_Wait T.io_Wait T.kp_Wait (T.C 9))))) yr) (yb (yU (ybS (yR (ypJ T) (T.G 5) (T.k 14) (T.b 14) (ya z_v yd))) (yf (yj (ym z_v (T.M 66) (yeH T) (T.b 78) (ya z_v yd)))) yr) (yf yce)))))))
theorem ysH:∀ n,yFK P w K mg base t n
 | 0=>⟨ydd,ydd,ydd,ydd,ydd,ydd⟩
 | n+1=>by
  have I:=ysH n;have yfQ:=I.ydG;have ybg:=I.yfO;have ydH:=I.yfP;have ygF:=I.ygD;have yeY:=I.yeW;have ygp:=I.ygk;exact ⟨zfn (T.F 80 r80) (sc 80) fun cdv Ar outer sh H E hr=>have nd:=(sc 80 (r:=r80)).nd;(yb (yU (ypv (yiA (yH ynR ytK (yp z_v (T.M 53) (ycr T) (T.b 72)) yiz) (yga (yH ybF ydJ (yp z_v (T.M 53) (ycr T) (T.b 72)) yI)))) (yf (yj (ybV (ycv yd)))) yr) (yb (yfG (ycv (ya (ym z_v (T.M 61) ydH (T.b 82) (ya z_v yd)) yd))) (yb (yjZ (yH ybF ydJ (yp z_v (T.M 53) (ycr T) (T.b 72)) yI) (yb (yJ (ym z_v (T.M 55) (ybf T) (T.b 74) (ya yI yd))) (yf (ygI (ym z_v (T.M 61) ydH (T.b 82) (ya z_v yd)))))) (ygB (yf (yj z_v)))))),
   zfn (T.F 81 r81) (sc 81) fun cdv Ar outer sh H E hr=>have nd:=(sc 81 (r:=r81)).nd;(yb (yJ (ym z_v (T.M 55) (ybf T) (T.b 74) (ya yI yd))) (yb (yt (ym z_v (T.M 59) yfQ (T.b 80) (ya z_v yd))) (yb (yJ (ym z_v (T.M 55) (ybf T) (T.b 74) (ya yI yd))) (yf (yj z_v))))),
   zfn (T.F 82 r82) (sc 82) fun cdv Ar outer sh H E hr=>have nd:=(sc 82 (r:=r82)).nd;(yb (yU (yH yqh yAk z_v (yfr T.m_MOST_AROUND)) (yf yce) yr) (yb (yt (yp z_v (T.M 54) (ycs T) (T.b 73))) (yb (yU (yH ybF ydJ z_v yI) (yf (yj (ym z_v (T.M 62) ygF (T.b 83) (ya (ybG ycc ydw z_v yk) yd)))) yr) (yb (yU (yH ybF ydJ z_v yI) (yf (yj (ym z_v (T.M 63) yeY (T.b 84) (ya (ybG ycc ydw z_v yk) yd)))) yr) (yb (yU (yH ybF ydJ z_v yI) (yf (yj (ym z_v (T.M 64) ygp (T.b 85) (ya (ybG ycc ydw z_v yk) yd)))) yr) (yf (yj (ym z_v (T.M 65) (yeX T) (T.b 79) (ya z_v yd))))))))),
   zfn (T.F 83 r83) (sc 83) fun cdv Ar outer sh H E hr=>have nd:=(sc 83 (r:=r83)).nd;(yb (yt (yp z_v (T.M 56) (yF T) (T.b 75))) (yb (yt (ym z_v (T.M 60) ybg (T.b 81) (ya z_v yd))) (yb (yJ (ym z_v (T.M 55) (ybf T) (T.b 74) (ya yI yd))) (yb (yt (ym z_v (T.M 60) ybg (T.b 81) (ya z_v yd))) (yf (yj (ybV (yfs (T.J 4) (yiH T) (T.C 5) (T.b 49) (ya z_v (ya z_v (ya z_v yd))))))))))),
   zfn (T.F 84 r84) (sc 84) fun cdv Ar outer sh H E hr=>have nd:=(sc 84 (r:=r84)).nd;(yb (yt (ym z_v (T.M 60) ybg (T.b 81) (ya z_v yd))) (yb (yJ (ym z_v (T.M 55) (ybf T) (T.b 74) (ya yI yd))) (yb (yt (ym z_v (T.M 60) ybg (T.b 81) (ya z_v yd))) (yf (yj (ybV (yfs (T.J 5) (ygm T) (T.C 6) (T.b 50) (ya z_v (ya z_v yd))))))))),
   zfn (T.F 85 r85) (sc 85) fun cdv Ar outer sh H E hr=>have nd:=(sc 85 (r:=r85)).nd;(yb (yt (ym z_v (T.M 60) ybg (T.b 81) (ya z_v yd))) (yb (yJ (ym z_v (T.M 55) (ybf T) (T.b 74) (ya yI yd))) (yb (yt (yp z_v (T.M 57) (ydv T) (T.b 76))) (yb (yt (yp z_v (T.M 56) (yF T) (T.b 75))) (yb (yt (ym z_v (T.M 60) ybg (T.b 81) (ya z_v yd))) (yf (yj (ybV (yfs (T.J 6) (yii T) (T.C 7) (T.b 51) (ya z_v (ya z_v (ya z_v (ya z_v yd)))))))))))))⟩
def yze:‹(51+1,86,r86,1,ylN)›:=zfn (T.F 86 r86) (sc 86) fun cdv Ar outer sh H E hr=>have nd:=(sc 86 (r:=r86)).nd;(yb (yt (yep (yfs (T.J 8) (ygo T) (T.C 10) (T.b 70) (ya (yR (ynI T) (T.G 18) (T.k 71) (T.b 71) (ya z_v yd)) yd)))) (yb (yt (ym z_v (T.M 59) (ysH T 45).ydG (T.b 80) (ya yk yd))) (yb (yU (yH ywE yAl (yp z_v (T.M 53) (ycr T) (T.b 72)) yiz) (yf yce) yr) (yb (yU (yH yqh yAk (ybG ycc ydw (yR (ykA T 45).yfN (T.G 10) (T.k 59) (T.b 59) (ya z_v yd)) yk) (yfr T.m_MOST_ROWS)) (yf yce) yr) (yf (yj z_v))))))
def yim:FnOk P w K mg base CX0 (0+1) (t.a 0) (t.d 0) (FR.ps r0) (spI (yoV K t) 0 11 yft):=zin (T.F 0 r0) (sc 0) rfl (by decide) fun cdv Ar outer sh H E hr=>(ybh (ybr (T.N 0) (yep (ycv (ya (yep yoy) yd)))) (yds (ybr (T.N 1) (yep yoy))))
def ymg:‹(0+1,1,r1,3,yes)›:=zfn (T.F 1 r1) (sc 1) fun cdv Ar outer sh H E hr=>have nd:=(sc 1 (r:=r1)).nd;(yb (yt (ybp yQ ych (yx (T.N 0) z_v) (yDT yqd yxx yk))) (yf (ynq z_v z_v z_v)))
def yjm:‹(0+1,2,r2,2,yed)›:=zfn (T.F 2 r2) (sc 2) fun cdv Ar outer sh H E hr=>have nd:=(sc 2 (r:=r2)).nd;(yb (yyd (T.Z 8) (yx (T.N 0) z_v) ydz (yf (yU (yBa z_v z_v) (yf (yj (yvZ z_v z_v))) yr))) (yf (yj yiz)))
def ymh:‹(0+1,3,r3,1,yet)›:=zfn (T.F 3 r3) (sc 3) fun cdv Ar outer sh H E hr=>(yf (yJ (yrz plainAttrs_list PySem.F.slot_list_append PySem.F.type_list_append ycK yhC (yx (T.N 0) z_v) (ya (yep yoy) yd))))
def ykC:‹(0+1,4,r4,1,ydO)›:=zfn (T.F 4 r4) (sc 4) fun cdv Ar outer sh H E hr=>have nd:=(sc 4 (r:=r4)).nd;(yb (yt (yrA plainAttrs_list slot_list_pop type_list_pop ynW yoh (yx (T.N 0) z_v))) (yb (yt (ybp yQ ych (yx (T.N 0) z_v) (yDT yqd yxx yk))) (yf (yJ (yrz PySem.F.plainAttrs_dict PySem.F.slot_dict_update PySem.F.type_dict_update yBg yDQ z_v (ya z_v yd))))))
def ynJ:‹(0+1,5,r5,1,yfe)›:=zfn (T.F 5 r5) (sc 5) fun cdv Ar outer sh H E hr=>(yf (yJ (yrA plainAttrs_list slot_list_pop type_list_pop ynW yoh (yx (T.N 0) z_v))))
def ypM:‹(0+1,6,r6,3,ygc)›:=zfn (T.F 6 r6) (sc 6) fun cdv Ar outer sh H E hr=>(yf (ynq (yx (T.N 1) z_v) z_v z_v))
def yjn:‹(0+1,7,r7,1,yeP)›:=zfn (T.F 7 r7) (sc 7) fun cdv Ar outer sh H E hr=>(yf (yj (ybV (PXS.z_sortI (yx (T.N 1) z_v) (T.Z 9)))))
def ymi:‹(0+1,8,r8,1,yeu)›:=zfn (T.F 8 r8) (sc 8) fun cdv Ar outer sh H E hr=>have nd:=(sc 8 (r:=r8)).nd;(yb (yt (ybp yQ ych (yx (T.N 0) z_v) yk)) (yf (yj (ybV (PXS.z_sortI z_v (T.Z 9))))))
def ygq:‹(0+1,16,r16,1,ydP)›:=zfn (T.F 16 r16) (sc 16) fun cdv Ar outer sh H E hr=>(yf (yj (yrz PySem.F.plainAttrs_str PySem.F.slot_str_find PySem.F.type_str_find yyg ytL (ylH T.m_SLOTS) (ya z_v yd))))
def ybD:‹(1+1,19,r19,2,ybc)›:=zfn (T.F 19 r19) (sc 19) fun cdv Ar outer sh H E hr=>(yf (yj (ybp yQ ych (yx (T.N 2) z_v) (yR (ygq T) (T.G 7) (T.k 16) (T.b 16) (ya z_v yd)))))
def ydo:‹(1+1,20,r20,3,ybW)›:=zfn (T.F 20 r20) (sc 20) fun cdv Ar outer sh H E hr=>(yf (yka z_v (yx (T.N 2) z_v) (yR (ygq T) (T.G 7) (T.k 16) (T.b 16) (ya z_v yd))))
def ycB:‹(2+1,21,r21,2,ybI)›:=zfn (T.F 21 r21) (sc 21) fun cdv Ar outer sh H E hr=>(yf (yj (ybG ybY ydr (ym z_v (T.M 17) (ybD T) (T.b 19) (ya z_v yd)) (yx (T.N 3) z_v))))
def yhe:FnOk P w K mg base CX0 (2+1) (t.a 18) (t.d 18) (FR.ps r18) (spJ (yoV K t) 2 12 yeQ):=yFv (T.F 18 r18) (sc 18) rfl (by decide) fun cdv Ar outer sh H E hr=>(ybh (ybr (T.N 2) (yep (ycd yy yba (T.Z 6) (ya z_v yd)))) (ybh (ybr (T.N 3) z_v) (yds (ybr (T.N 4) (yep (yye (T.J 9) (yim T) (T.C 11) (T.b 0)))))))
def ysI:‹(0+1,9,r9,3,yho)›:=zfn (T.F 9 r9) (sc 9) fun cdv Ar outer sh H E hr=>(yb (yU (yH ybF ydJ z_v yI) (yf (yj (ybG ybY ydr (ybG ycc ydw z_v z_v) (yfr T.m_WIDE)))) yr) (yb (yU (yH ybF ydJ z_v yI) (yf (yj (ybG ybY ydr (ybG ykM yqN z_v z_v) (yfr T.m_WIDE)))) yr) (yb (yU (yH ybF ydJ z_v yI) (yf (yj (ybG ybY ydr (ybG ykN yqO z_v z_v) (yfr T.m_WIDE)))) yr) (yb (yU (yH ybF ydJ z_v yI) (yf (yj (yrx (yH ymy yxw z_v z_v) yk yk))) yr) (yf (yj (yrx (yH ybF ydJ z_v z_v) yk yk)))))))
def ygG:‹(2+1,22,r22,5,ybZ)›:=zfn (T.F 22 r22) (sc 22) fun cdv Ar outer sh H E hr=>(yf (yJ (ym z_v (T.M 18) (ydo T) (T.b 20) (ya z_v (ya (yR (ysI T) (T.G 0) (T.k 9) (T.b 9) (ya z_v (ya (ym z_v (T.M 17) (ybD T) (T.b 19) (ya z_v yd)) (ya (ym z_v (T.M 17) (ybD T) (T.b 19) (ya z_v yd)) yd)))) yd)))))
def yiJ:‹(3+1,23,r23,3,ycO)›:=zfn (T.F 23 r23) (sc 23) fun cdv Ar outer sh H E hr=>(yf (yJ (ym (yx (T.N 4) z_v) (T.M 9) (ymg T) (T.b 1) (ya (ym z_v (T.M 19) (ycB T) (T.b 21) (ya z_v yd)) (ya (ym z_v (T.M 17) (ybD T) (T.b 19) (ya z_v yd)) yd)))))
def yin:‹(3+1,24,r24,2,ydf)›:=zfn (T.F 24 r24) (sc 24) fun cdv Ar outer sh H E hr=>(yf (yj (yfl ynR ytK (ym (yx (T.N 4) z_v) (T.M 10) (yjm T) (T.b 2) (ya (ym z_v (T.M 19) (ycB T) (T.b 21) (ya z_v yd)) yd)) yiz)))
def yhf:‹(3+1,25,r25,3,yck)›:=zfn (T.F 25 r25) (sc 25) fun cdv Ar outer sh H E hr=>(yf (yJ (ym z_v (T.M 18) (ydo T) (T.b 20) (ya z_v (ya (ym (yx (T.N 4) z_v) (T.M 10) (yjm T) (T.b 2) (ya (ym z_v (T.M 19) (ycB T) (T.b 21) (ya z_v yd)) yd)) yd)))))
def ygH:‹(3+1,26,r26,4,ycC)›:=zfn (T.F 26 r26) (sc 26) fun cdv Ar outer sh H E hr=>have nd:=(sc 26 (r:=r26)).nd;(yb (yt (ym z_v (T.M 19) (ycB T) (T.b 21) (ya z_v yd))) (yb (yJ (ym (yx (T.N 4) z_v) (T.M 14) (ypM T) (T.b 6) (ya z_v (ya (ybp yQ ych z_v z_v) yd)))) (yf (yJ (ym z_v (T.M 18) (ydo T) (T.b 20) (ya z_v (ya (ybp yQ ych z_v z_v) yd)))))))
def yvr:‹(0+1,27,r27,2,yhS)›:=zfn (T.F 27 r27) (sc 27) fun cdv Ar outer sh H E hr=>(yb (yU (yH ybF ydJ (ybp yG yZ z_v yk) yI) (yf (yj (yfl ybF ydJ (ybp yG yZ z_v yk) yI))) yr) (yf (yj (ypu (yfl ybF ydJ (ybp yG yZ z_v yk) yI) (ypt (yfl ybF ydJ (ybp yG yZ z_v yk) (ybp yG yZ z_v yk)))))))
def yio:FnOk P w K mg base CX0 (4+1) (t.a 28) (t.d 28) (FR.ps r28) (spI (yoV K t) 3 12 yeb):=zin (T.F 28 r28) (sc 28) rfl (by decide) fun cdv Ar outer sh H E hr=>(ybh (yyi T.cf_Doer (T.C 13) (yhe T) (T.b 18) (ya z_v (ya z_v yd))) (ybh (ybr (T.N 5) z_v) (ybh (ybr (T.N 6) yk) (ybh (ybr (T.N 7) (yep yoy)) (yds (ybr (T.N 8) (yep (ycv yd))))))))
def yfh:‹(0+1,29,r29,1,ydA)›:=zfn (T.F 29 r29) (sc 29) fun cdv Ar outer sh H E hr=>(yf (yj (ybp yQ ych (yx (T.N 5) z_v) (yx (T.N 6) z_v))))
def yeZ:‹(0+1,30,r30,2,ycz)›:=zfn (T.F 30 r30) (sc 30) fun cdv Ar outer sh H E hr=>(yf (yj (ydK (yoD rfl) yAV (T.Z 1) (ya (ybV (yyk ["stamps","self"] (yx (T.N 7) z_v) (fun _ _ _ _ _ _=>(yfl ysY yCn (ybp yQ ych z_v z_v) (yvZ (yx (T.N 7) z_v) z_v))))) yd))))
def ydV:‹(1+1,31,r31,2,ybe)›:=zfn (T.F 31 r31) (sc 31) fun cdv Ar outer sh H E hr=>have nd:=(sc 31 (r:=r31)).nd;(yb (yt (ydK yA ycw (T.Z 5) (ya (yx (T.N 8) z_v) yd))) (yb (yjZ (ypv (yow (yH yqh yAk z_v yk) (yjY (yeD (ybS (yR (yvr T) (T.G 9) (T.k 27) (T.b 27) (ya (ybp yG yZ (ybp yQ ych (yx (T.N 8) z_v) (ybG ykM yqN z_v yk)) yk) (ya z_v yd)))))))) (yf (yt (ybG ykM yqN z_v yk)))) (yf (yj z_v))))
def yfa:‹(4+1,32,r32,1,ybo)›:=zfn (T.F 32 r32) (sc 32) fun cdv Ar outer sh H E hr=>have nd:=(sc 32 (r:=r32)).nd;(yb (yt (yp z_v (T.M 25) (yfh T) (T.b 29))) (yb (yU (yH ybF ydJ (ybp yG yZ z_v yk) yI) (yf (yj (ym z_v (T.M 22) (yin T) (T.b 24) (ya (ybp yG yZ z_v yk) yd)))) yr) (yb (yU (ypv (yiA (yH ybF ydJ (ybp yG yZ z_v yk) yI) (yga (yH ybF ydJ (ybp yG yZ z_v yk) yI)))) (yf (yj (yfl ybF ydJ (ym z_v (T.M 27) (ydV T) (T.b 31) (ya z_v yd)) yk))) yr) (yf (yj (yfl ybF ydJ (ybp yG yZ z_v yk) yI))))))
def yip:‹(4+1,33,r33,3,ydg)›:=zfn (T.F 33 r33) (sc 33) fun cdv Ar outer sh H E hr=>have nd:=(sc 33 (r:=r33)).nd;(yb (yt (yp z_v (T.M 25) (yfh T) (T.b 29))) (yb (yt (ym z_v (T.M 19) (ycB T) (T.b 21) (ya (ybp yG yZ z_v yk) yd))) (yb (ynq (yx (T.N 7) z_v) z_v (ybp yQ ych z_v z_v)) (yb (yJ (ym z_v (T.M 24) (ygH T) (T.b 26) (ya (ybp yG yZ z_v yk) (ya (ybp yG yZ z_v yk) (ya z_v yd))))) (yb (yby (T.N 6) z_v (ybG ycc ydw (yx (T.N 6) z_v) yk)) (yf (yj z_v)))))))
def yiq:‹(4+1,34,r34,2,yC)›:=zfn (T.F 34 r34) (sc 34) fun cdv Ar outer sh H E hr=>(yf (yU (yH ybF ydJ (ybp yG yZ z_v yk) yI) (yf (yJ (ym z_v (T.M 18) (ydo T) (T.b 20) (ya (ybp yG yZ z_v yk) (ya (ybp yG yZ z_v yk) yd))))) (yf (yU (yH ybF ydJ (ybp yG yZ z_v yk) yI) (yf (yJ (ym z_v (T.M 23) (yhf T) (T.b 25) (ya (ybp yG yZ z_v yk) (ya (ybp yG yZ z_v yk) yd))))) (yf (yU (yH ybF ydJ (ybp yG yZ z_v yk) yI) (yf (yJ (ym z_v (T.M 20) (yiJ T) (T.b 23) (ya (ybp yG yZ z_v yk) (ya (ybp yG yZ z_v yk) yd))))) (yf (yJ (ym z_v (T.M 21) (ygG T) (T.b 22) (ya (ybp yG yZ z_v yk) (ya (ybp yG yZ z_v yk) (ya (ybp yG yZ z_v yk) (ya (ybp yG yZ z_v yk) yd)))))))))))))
def ynK:‹(2+1,35,r35,2,ybO)›:=zfn (T.F 35 r35) (sc 35) fun cdv Ar outer sh H E hr=>(yf (yU (yH ybF ydJ (ybp yG yZ z_v yk) yI) (yf (yby (T.N 6) z_v (ybp yG yZ z_v yk))) (yf (yU (yH ybF ydJ (ym z_v (T.M 17) (ybD T) (T.b 19) (ya (ybp yG yZ z_v yk) yd)) yk) (yf (yby (T.N 6) z_v (ybp yG yZ z_v yk))) yr))))
def ygS:‹(2+1,36,r36,2,ycl)›:=zfn (T.F 36 r36) (sc 36) fun cdv Ar outer sh H E hr=>have nd:=(sc 36 (r:=r36)).nd;(yb (yt (ym z_v (T.M 27) (ydV T) (T.b 31) (ya z_v yd))) (yb (yt (ybp yQ ych (yx (T.N 8) z_v) (ybG ykM yqN z_v yk))) (yb (yjZ (yH yCG yFm (ydK yA ycw (T.Z 5) (ya (yx (T.N 8) z_v) yd)) z_v) (yb (yJ (yrA plainAttrs_list slot_list_pop type_list_pop ynW yoh (yx (T.N 8) z_v))) (yf (yJ (yp (yx (T.N 4) z_v) (T.M 13) (ynJ T) (T.b 5)))))) (yb (yt (ybp yG yZ z_v yk)) (yb (yby (T.N 2) z_v (yep (ycd yy yba (T.Z 6) (ya (ybp yG yZ z_v yk) yd)))) (yb (yby (T.N 6) z_v (ybp yG yZ z_v (yDT yqd yxx yk))) (yf (yj z_v))))))))
def ymj:‹(3+1,37,r37,2,ycF)›:=zfn (T.F 37 r37) (sc 37) fun cdv Ar outer sh H E hr=>have nd:=(sc 37 (r:=r37)).nd;(yb (yt (ym z_v (T.M 17) (ybD T) (T.b 19) (ya (ybp yG yZ z_v yk) yd))) (yb (yt (ym z_v (T.M 34) (ygS T) (T.b 36) (ya z_v yd))) (yf (yJ (ym z_v (T.M 18) (ydo T) (T.b 20) (ya (ybp yG yZ z_v yk) (ya z_v yd)))))))
def ysJ:‹(5+1,38,r38,1,ycf)›:=zfn (T.F 38 r38) (sc 38) fun cdv Ar outer sh H E hr=>have nd:=(sc 38 (r:=r38)).nd;(yb (yt (yp z_v (T.M 25) (yfh T) (T.b 29))) (yb (yby (T.N 6) z_v (ybG ycc ydw (yx (T.N 6) z_v) yk)) (yf (yU (yH ybF ydJ (ybp yG yZ z_v yk) yI) (yf (yJ (ym z_v (T.M 34) (ygS T) (T.b 36) (ya z_v yd)))) (yf (yU (yH ybF ydJ (ybp yG yZ z_v yk) yI) (yf (yJ (ym z_v (T.M 33) (ymj T) (T.b 37) (ya z_v yd)))) (yf (yU (ypv (yiA (yH ybF ydJ (ybp yG yZ z_v yk) yI) (yga (yH ybF ydJ (ybp yG yZ z_v yk) yI)))) (yf (yJ (ym z_v (T.M 32) (ynK T) (T.b 35) (ya z_v yd)))) (yf (yU (ypv (yiA (yH ybF ydJ (ybp yG yZ z_v yk) yI) (yga (yH ybF ydJ (ybp yG yZ z_v yk) yI)))) (yb (yJ (yrz plainAttrs_list PySem.F.slot_list_append PySem.F.type_list_append ycK yhC (yx (T.N 8) z_v) (ya (ycY (ya z_v (ya (ybV (ycd yy yba (T.Z 6) (ya (yx (T.N 2) z_v) yd))) yd))) yd))) (yf (yJ (yp (yx (T.N 4) z_v) (T.M 11) (ymh T) (T.b 3))))) (yf (yU (yH ybF ydJ (ybp yG yZ z_v yk) yI) (yb (yJ (yrA plainAttrs_list slot_list_pop type_list_pop ynW yoh (yx (T.N 8) z_v))) (yf (yJ (yp (yx (T.N 4) z_v) (T.M 12) (ykC T) (T.b 4))))) (yf (yJ (ym z_v (T.M 31) (yiq T) (T.b 34) (ya z_v yd))))))))))))))))
def yey:‹(0+1,39,r39,1,ycm)›:=zfn (T.F 39 r39) (sc 39) fun cdv Ar outer sh H E hr=>(yb (yU (yH ybF ydJ (yx (T.N 10) z_v) (ydK yA ycw (T.Z 5) (ya (yx (T.N 9) z_v) yd))) (yf (yj yI)) yr) (yf (yj (yrx (ybS (yx (T.N 11) z_v)) yI yI))))
def ydI:‹(6+1,40,r40,1,yca)›:=zfn (T.F 40 r40) (sc 40) fun cdv Ar outer sh H E hr=>have nd:=(sc 40 (r:=r40)).nd;(yb (yt (yrx (yH ymy yxw (yx (T.N 10) z_v) (ydK yA ycw (T.Z 5) (ya (yx (T.N 9) z_v) yd))) (ybp yQ ych (yx (T.N 9) z_v) (yx (T.N 10) z_v)) (ybV (ycv yd)))) (yf (yj (yep (yfs (T.J 10) (yio T) (T.C 12) (T.b 28) (ya z_v (ya (yx (T.N 12) z_v) (ya (yx (T.N 3) z_v) yd))))))))
def ydW:‹(7+1,41,r41,1,ybP)›:=zfn (T.F 41 r41) (sc 41) fun cdv Ar outer sh H E hr=>(yb (yby (T.N 11) z_v ysO) (yf (yby (T.N 13) z_v (yp z_v (T.M 36) (ydI T) (T.b 40)))))
def yfR:‹(0+1,42,r42,1,ycg)›:=zfn (T.F 42 r42) (sc 42) fun cdv Ar outer sh H E hr=>(yf (yby (T.N 11) z_v ysO))
def ykD:‹(7+1,43,r43,2,ydQ)›:=zfn (T.F 43 r43) (sc 43) fun cdv Ar outer sh H E hr=>(yb (yby (T.N 10) z_v (ybG ycc ydw (yx (T.N 10) z_v) yk)) (yb (yby (T.N 12) z_v (ybV (ycd yy yba (T.Z 6) (ya z_v yd)))) (yf (yby (T.N 13) z_v (yp z_v (T.M 36) (ydI T) (T.b 40))))))
def yhg:‹(7+1,44,r44,3,ybz)›:=zfn (T.F 44 r44) (sc 44) fun cdv Ar outer sh H E hr=>(yb (yby (T.N 9) z_v (ybV (ycd yy yba (T.Z 6) (ya z_v yd)))) (yb (yby (T.N 3) z_v z_v) (yb (yby (T.N 10) z_v yk) (yb (yby (T.N 11) z_v ysO) (yb (yby (T.N 12) z_v (ybV (ylI yvE yAq (ybV (ycv (ya yk yd))) (ydK ydM yob (T.Z 5) (ya (ylH T.m_SLOTS) yd))))) (yf (yby (T.N 13) z_v (yp z_v (T.M 36) (ydI T) (T.b 40)))))))))
def yiK:‹(2+1,87,r87,1,ydx)›:=zfn (T.F 87 r87) (sc 87) fun cdv Ar outer sh H E hr=>(yb (yU (yeD (yhn yiu yiu ysM ysM yk (ydK yA ycw (T.Z 5) (ya z_v yd)) (yfr T.m_MOST_BOXES))) (yf yce) yr) (yf (yU (yeD (ybS (ydK (ynX rfl) yAt (T.Z 0) (ya (ybV (yhO [] z_v (fun _ _ _ _ _ _=>(yR (ymf T) (T.G 2) (T.k 11) (T.b 11) (ya z_v yd))))) yd)))) (yf yce) yr)))
def yhh:‹(93+1,88,r88,1,ycn)›:=zfn (T.F 88 r88) (sc 88) fun cdv Ar outer sh H E hr=>(yf (yj (ybV (yhO [] z_v (fun _ _ _ _ _ _=>(yR (ypI T) (T.G 17) (T.k 69) (T.b 69) (ya (yR (yze T) (T.G 19) (T.k 86) (T.b 86) (ya z_v yd)) yd)))))))
def yhi:‹(94+1,89,r89,1,yco)›:=zfn (T.F 89 r89) (sc 89) fun cdv Ar outer sh H E hr=>(yb (yU (yeD (yhn yiu yiu ysM ysM yk (ydK yA ycw (T.Z 5) (ya z_v yd)) (yfr T.m_MOST_HANDS))) (yf yce) yr) (yb (yU (ybS (ydK (yoD rfl) yAV (T.Z 1) (ya (ybV (yhO [] z_v (fun _ _ _ _ _ _=>(yfl yqh yAk (ydK yA ycw (T.Z 5) (ya z_v yd)) (yfr T.m_MOST_DEEDS))))) yd))) (yf yce) yr) (yf (yj (ybV (yhO [] z_v (fun _ _ _ _ _ _=>(yR (yhh T) (T.G 21) (T.k 88) (T.b 88) (ya z_v yd)))))))))
def yhj:‹(95+1,90,r90,3,ycP)›:=zfn (T.F 90 r90) (sc 90) fun cdv Ar outer sh H E hr=>(yb (yJ (yR (yiK T) (T.G 20) (T.k 87) (T.b 87) (ya z_v yd))) (yb (yby (T.N 14) z_v (yep (ycd yy yba (T.Z 6) (ya z_v yd)))) (yb (yby (T.N 15) z_v (yep (ylI yvE yAq (ybV (ycv (ya yk yd))) (ydK yA ycw (T.Z 5) (ya z_v yd))))) (yb (yby (T.N 16) z_v (yep (yhL ["boxes"] (yeO (yR (yhi T) (T.G 22) (T.k 89) (T.b 89) (ya z_v yd))) (fun _ _ _ _ _ _=>(yrF (T.J 12) (yhg T) (T.C 14) (T.b 44) (ya z_v (ya (ydK yA ycw (T.Z 5) (ya z_v yd)) yd))))))) (yf (yby (T.N 17) z_v (yep (ycv yd))))))))
def yez:‹(0+1,91,r91,1,ybT)›:=zfn (T.F 91 r91) (sc 91) fun cdv Ar outer sh H E hr=>(yf (yj (ybV (ycd yy yba (T.Z 6) (ya (yx (T.N 14) z_v) yd)))))
def yfy:‹(0+1,92,r92,1,ybX)›:=zfn (T.F 92 r92) (sc 92) fun cdv Ar outer sh H E hr=>(yf (yj (ybV (ycd yy yba (T.Z 6) (ya (yx (T.N 15) z_v) yd)))))
def yct:‹(1+1,93,r93,2,ybi)›:=zfn (T.F 93 r93) (sc 93) fun cdv Ar outer sh H E hr=>(yb (yU (ypv (yiA (yeD (ybS (yR (yil T) (T.G 1) (T.k 10) (T.b 10) (ya z_v yd)))) (yga (yeD (yhn yiu ymy ysM yxw yk z_v (ydK yA ycw (T.Z 5) (ya (yx (T.N 16) z_v) yd))))))) (yf yce) yr) (yf (yj (ybp yQ ych (yx (T.N 16) z_v) z_v))))
def ykE:‹(2+1,94,r94,2,ydi)›:=zfn (T.F 94 r94) (sc 94) fun cdv Ar outer sh H E hr=>(yf (yj (yp (ym z_v (T.M 42) (yct T) (T.b 93) (ya z_v yd)) (T.M 35) (yey T) (T.b 39))))
def ykF:‹(2+1,95,r95,2,ydj)›:=zfn (T.F 95 r95) (sc 95) fun cdv Ar outer sh H E hr=>(yf (yj (yx (T.N 10) (ym z_v (T.M 42) (yct T) (T.b 93) (ya z_v yd)))))
def ykG:‹(2+1,96,r96,2,ydk)›:=zfn (T.F 96 r96) (sc 96) fun cdv Ar outer sh H E hr=>(yf (yj (ybV (ycd yy yba (T.Z 6) (ya (yx (T.N 2) (yx (T.N 13) (ym z_v (T.M 42) (yct T) (T.b 93) (ya z_v yd)))) yd)))))
def ynL:‹(2+1,97,r97,2,yei)›:=zfn (T.F 97 r97) (sc 97) fun cdv Ar outer sh H E hr=>(yf (yj (yp (yx (T.N 4) (yx (T.N 13) (ym z_v (T.M 42) (yct T) (T.b 93) (ya z_v yd)))) (T.M 15) (yjn T) (T.b 7))))
def ycT:‹(0+1,98,r98,1,yV)›:=zfn (T.F 98 r98) (sc 98) fun cdv Ar outer sh H E hr=>(yf (yj (ybV (yhO [] (yx (T.N 17) z_v) (fun _ _ _ _ _ _=>(ycY (ya (ybp yG yZ z_v yk) (ya (ybp yG yZ z_v yk) (ya (ybp yG yZ z_v yk) (ya (ybV (ycd yy yba (T.Z 6) (ya (ybp yG yZ z_v yk) yd))) (ya (ybV (ycd yy yba (T.Z 6) (ya (ybp yG yZ z_v yk) yd))) (ya (ybV (ycd yy yba (T.Z 6) (ya (ybp yG yZ z_v yk) yd))) yd))))))))))))
def ygr:‹(8+1,99,r99,1,ybv)›:=zfn (T.F 99 r99) (sc 99) fun cdv Ar outer sh H E hr=>have nd:=(sc 99 (r:=r99)).nd;(yf (yyc (yx (T.N 16) z_v) ydz (yf (yU (ypv (yow (yH ybF ydJ (yp z_v (T.M 35) (yey T) (T.b 39)) yI) (yjY (ybS (ym (yx (T.N 13) z_v) (T.M 26) (yeZ T) (T.b 30) (ya (yx (T.N 15) z_v) yd)))))) (yf (yJ (yp z_v (T.M 37) (ydW T) (T.b 41)))) yr))))
def yeF:‹(8+1,100,r100,5,ycp)›:=zfn (T.F 100 r100) (sc 100) fun cdv Ar outer sh H E hr=>have nd:=(sc 100 (r:=r100)).nd;(yb (yt (ybp yQ ych (yx (T.N 16) z_v) z_v)) (yb (yJ (yrz plainAttrs_list PySem.F.slot_list_append PySem.F.type_list_append ycK yhC (yx (T.N 17) z_v) (ya (ycY (ya z_v (ya (yx (T.N 10) z_v) (ya z_v (ya (yp (yx (T.N 4) (yx (T.N 13) z_v)) (T.M 15) (yjn T) (T.b 7)) (ya z_v (ya (ybV (ycd yy yba (T.Z 6) (ya z_v yd))) yd))))))) yd))) (yf (yJ (ym z_v (T.M 39) (ykD T) (T.b 43) (ya z_v yd))))))
def yhk:‹(9+1,101,r101,2,ycQ)›:=zfn (T.F 101 r101) (sc 101) fun cdv Ar outer sh H E hr=>have nd:=(sc 101 (r:=r101)).nd;(yb (yt (yx (T.N 13) (ybp yQ ych (yx (T.N 16) z_v) z_v))) (yb (yt (yp (yx (T.N 4) z_v) (T.M 16) (ymi T) (T.b 8))) (yb (yhM (yeO z_v) ydz (yb (yt (ybp yG yZ z_v yk)) (yb (yka (ybp yG yZ z_v yk) (yx (T.N 14) z_v) z_v) (yf (yka (ybG ycc ydw (ybp yQ ych (yx (T.N 15) z_v) z_v) yk) (yx (T.N 15) z_v) z_v))))) (yb (yJ (ym z_v (T.M 49) (yeF T) (T.b 100) (ya z_v (ya (ycY (ya yI yd)) (ya z_v (ya (yx (T.N 2) z_v) yd)))))) (yf (yJ (yp z_v (T.M 48) (ygr T) (T.b 99))))))))
def yek:‹(10+1,102,r102,3,yN)›:=zfn (T.F 102 r102) (sc 102) fun cdv Ar outer sh H E hr=>have nd:=(sc 102 (r:=r102)).nd;(yb (yt (ybp yQ ych (yx (T.N 16) z_v) z_v)) (yb (yt (yp (yx (T.N 13) z_v) (T.M 25) (yfh T) (T.b 29))) (yb (yU (yH ybF ydJ (ybp yG yZ z_v yk) yI) (yb (yt (ym (yx (T.N 13) z_v) (T.M 29) (yip T) (T.b 33) (ya (yx (T.N 14) z_v) (ya (yx (T.N 15) z_v) yd)))) (yf (yj (ycY (ya yI (ya z_v (ya z_v (ya (ybp yQ ych (yx (T.N 14) z_v) z_v) yd)))))))) yr) (yb (yU (yH ybF ydJ (ybp yG yZ z_v yk) yI) (yb (yJ (yp z_v (T.M 38) (yfR T) (T.b 42))) (yf (yj (ycY (ya yI (ya z_v yd)))))) yr) (yb (yU (yH ybF ydJ (ybp yG yZ z_v yk) yI) (yb (yJ (ym z_v (T.M 49) (yeF T) (T.b 100) (ya z_v (ya (ycY (ya yI (ya (ybp yG yZ z_v yk) (ya (ym (yx (T.N 13) z_v) (T.M 17) (ybD T) (T.b 19) (ya (ybp yG yZ z_v yk) yd)) yd)))) (ya (ybV (ycv yd)) (ya (yx (T.N 12) z_v) yd)))))) (yf (yj (ycY (ya yI (ya z_v yd)))))) yr) (yb (yJ (ym z_v (T.M 50) (yhk T) (T.b 101) (ya z_v yd))) (yf (yj (ycY (ya yI (ya z_v yd)))))))))))
def ygT:‹(11+1,103,r103,2,yw)›:=zfn (T.F 103 r103) (sc 103) fun cdv Ar outer sh H E hr=>have nd:=(sc 103 (r:=r103)).nd;(yb (yt (ym z_v (T.M 42) (yct T) (T.b 93) (ya z_v yd))) (yb (yU (yH ysY yCn (yp z_v (T.M 35) (yey T) (T.b 39)) yI) (yf (yj (ycY (ya yI yd)))) yr) (yb (yt (yx (T.N 6) (yx (T.N 13) z_v))) (yb (yU (yeD (ybS (yp (yx (T.N 13) z_v) (T.M 28) (yfa T) (T.b 32)))) (yb (yJ (yp (yx (T.N 13) z_v) (T.M 30) (ysJ T) (T.b 38))) (yf (yj (ycY (ya yI (ya z_v yd)))))) yr) (yb (yU (ybS (ym (yx (T.N 13) z_v) (T.M 26) (yeZ T) (T.b 30) (ya (yx (T.N 15) z_v) yd))) (yb (yJ (yp z_v (T.M 37) (ydW T) (T.b 41))) (yf (yj (ycY (ya yI (ya z_v yd)))))) yr) (yf (yj (ym z_v (T.M 51) (yek T) (T.b 102) (ya z_v (ya z_v yd))))))))))
def yir:‹(0+1,104,r104,2,ycA)›:=zfn (T.F 104 r104) (sc 104) fun cdv Ar outer sh H E hr=>(yb (yU (yH ymy yxw z_v (ydK yA ycw (T.Z 5) (ya z_v yd))) (yf (yj (ybp yQ ych z_v z_v))) yr) (yf (yj yk)))
def ykH:‹(0+1,105,r105,1,ycH)›:=zfn (T.F 105 r105) (sc 105) fun cdv Ar outer sh H E hr=>have nd:=(sc 105 (r:=r105)).nd;(yb (yt (ybG ybY ydr (ybG ykN yqO z_v yk) yk)) (yb (yt (ybG yP ycy yI (yus yeI yqS (T.Z 10) (ya (ybG ybY ydr (ybG ydX yiv z_v yk) yk) yd)))) (yb (yt (ybG yP ycy yI (yus yeI yqS (T.Z 10) (ya (ybG ybY ydr (ybG ydX yiv z_v yk) yk) yd)))) (yb (yt (yus yeI yqS (T.Z 10) (ya (ybp yQ ych (ybV (ycv (ya yk (ya yk (ya (ybG ybY ydr (ybG ydX yiv z_v yk) yk) (ya (ybG ybY ydr z_v (ybG yqc yxv yk yk)) yd)))))) (ybG ybY ydr (ybG ydX yiv z_v yk) yk)) yd))) (yb (yfG (ycv (ya (ybG yP ycy z_v yI) (ya (ybG yP ycy yI z_v) (ya (ybG yP ycy z_v yI) yd))))) (ygB (yb (yfG (ylI yiQ ypl z_v (ybV (ycv (ya (ybG yP ycy z_v yI) (ya (ybG yP ycy z_v yI) yd)))))) (yb (yt (ybG yP ycy (ybG yP ycy yI z_v) yI)) (yb (ygI (ybG yP ycy (ybG yP ycy (ybG yP ycy z_v yI) z_v) yI)) (yb (yt (ybG yP ycy (ybG yP ycy yI z_v) yI)) (yb (ygI (ybG yP ycy (ybG yP ycy z_v z_v) yI)) (yb (ygI (ybG yP ycy z_v yI)) (yb (yt (ybG yP ycy (ybG yP ycy z_v yI) z_v)) (yb (ygI (ybG yP ycy z_v yI)) (yb (ygI (ybG yP ycy z_v yI)) (ygB (yf (yj (ybp yQ ych z_v (ybG ybY ydr z_v yk))))))))))))))))))))
def ymk:‹(1+1,106,r106,1,yew)›:=zfn (T.F 106 r106) (sc 106) fun cdv Ar outer sh H E hr=>have nd:=(sc 106 (r:=r106)).nd;(yb (yt (ybV (ycv (ya z_v (ya (ybG ybY ydr (ybG ykN yqO z_v yk) yk) (ya (ybG ybY ydr (ybG ykN yqO z_v yk) yk) yd)))))) (yf (yj (yrz PySem.F.plainAttrs_str PySem.F.slot_str_join PySem.F.type_str_join ywU yAu yI (ya (ybV (ylI yiQ ypl (ybV (ycv (ya yI yd))) (ybV (yhL [] (yeO (ybV (ylJ yeJ yls z_v ynp (yeq (ybG ycc ydw yk (ybG ybY ydr z_v yk)))))) (fun _ _ _ _ _ _=>(yR (ykH T) (T.G 24) (T.k 105) (T.b 105) (ya z_v yd))))))) yd)))))
def ykI:‹(0+1,107,r107,1,ydR)›:=zfn (T.F 107 r107) (sc 107) fun cdv Ar outer sh H E hr=>(yf (yj (yep (yhL ["_law_head"] (ygA (T.Z 7) (ya (ybG ycc ydw yk (ybG ybY ydr z_v yk)) yd)) (fun _ _ _ _ _ _=>(ybG ybY ydr (ybG ydX yiv (ybG ydX yiv z_v yk) (ybG ycc ydw z_v yk)) yk))))))
def ykJ:‹(2+1,108,r108,2,ydS)›:=zfn (T.F 108 r108) (sc 108) fun cdv Ar outer sh H E hr=>have nd:=(sc 108 (r:=r108)).nd;(yb (yuz [] (ygA (T.Z 7) (ya (ybG ycc ydw yk (ybG ybY ydr (ybG ydX yiv z_v yk) yk)) yd)) (fun _ _ _ _ _ _=>(yep (ycv yd)))) (yb (yt (ybV (ylJ yeJ yls z_v (yeq yk) (yeq yk)))) (yb (yhM (ygA (T.Z 7) (ya (ydK yA ycw (T.Z 5) (ya z_v yd)) yd)) ydz (yf (yJ (yrz plainAttrs_list PySem.F.slot_list_append PySem.F.type_list_append ycK yhC (ybp yQ ych z_v (ybG ybY ydr z_v (ydK yA ycw (T.Z 5) (ya z_v yd)))) (ya (yR (ymk T) (T.G 25) (T.k 106) (T.b 106) (ya (ybG ybY ydr (ybp yQ ych z_v z_v) (ybG yqc yxv yk yk)) yd)) yd))))) (yf (yj z_v)))))
def ykK:‹(0+1,109,r109,2,ydT)›:=zfn (T.F 109 r109) (sc 109) fun cdv Ar outer sh H E hr=>have nd:=(sc 109 (r:=r109)).nd;(yb (yfG (ycv yd)) (yb (yhM (yeO (ybV (ylJ yeJ yls z_v ynp (yeq yk)))) ydz (yb (yt (ybG ybY ydr (ybG ykN yqO z_v yk) yk)) (yb (yt (yfl ybF ydJ (ybG ybY ydr z_v yk) yk)) (yb (yt (ybG ydX yiv z_v yk)) (yf (yhM (ygA (T.Z 7) (ya yk yd)) ydz (yb (ygI (ybG ybY ydr z_v z_v)) (yf (yU (yeD (ybS z_v)) (yf (yt (ybG ydX yiv z_v z_v))) yr))))))))) (ygB (yf (yj z_v)))))
def yml:‹(0+1,110,r110,1,ydC)›:=zfn (T.F 110 r110) (sc 110) fun cdv Ar outer sh H E hr=>(yf (yj (ybV (yhL [] (yeO z_v) (fun _ _ _ _ _ _=>(ycY (ya (ybp yG yZ z_v yk) (ya (ybp yG yZ z_v yk) (ya (ybp yG yZ z_v yk) (ya (ybV (ycd yy yba (T.Z 6) (ya (ybp yG yZ z_v yk) yd))) (ya (ybV (ycd yy yba (T.Z 6) (ya (ybp yG yZ z_v yk) yd))) (ya (ybV (ycd yy yba (T.Z 6) (ya (ybp yG yZ z_v yk) yd))) yd))))))))))))
def yeA:‹(3+1,111,r111,3,ycI)›:=zfn (T.F 111 r111) (sc 111) fun cdv Ar outer sh H E hr=>have nd:=(sc 111 (r:=r111)).nd;(yb (yfG (ycv (ya (yp z_v (T.M 40) (yez T) (T.b 91)) (ya (yp z_v (T.M 41) (yfy T) (T.b 92)) (ya (yp z_v (T.M 47) (ycT T) (T.b 98)) yd))))) (yb (yU (ybS z_v) (yb (yt (yp z_v (T.M 47) (ycT T) (T.b 98))) (yf (yfG (ycv (ya (yp z_v (T.M 40) (yez T) (T.b 91)) (ya (yp z_v (T.M 41) (yfy T) (T.b 92)) (ya z_v yd))))))) yr) (yb (yhM (ygA (T.Z 7) (ya z_v yd)) ydz (yf (ygI (ybV (ycv (ya (ym z_v (T.M 43) (ykE T) (T.b 94) (ya z_v yd)) (ya (ym z_v (T.M 44) (ykF T) (T.b 95) (ya z_v yd)) (ya (ym z_v (T.M 45) (ykG T) (T.b 96) (ya z_v yd)) (ya (ym z_v (T.M 46) (ynL T) (T.b 97) (ya z_v yd)) yd))))))))) (ygB (yf (yj z_v))))))
def yeB:‹(12+1,112,r112,2,ybk)›:=zfn (T.F 112 r112) (sc 112) fun cdv Ar outer sh H E hr=>(yf (yj (ybV (yhL ["_law_hall"] (yeO z_v) (fun _ _ _ _ _ _=>(ym z_v (T.M 52) (ygT T) (T.b 103) (ya z_v yd)))))))
def yCj:‹(97+1,113,r113,1,yuD)›:=zfn (T.F 113 r113) (sc 113) fun cdv Ar outer sh H E hr=>have nd:=(sc 113 (r:=r113)).nd;(yb (yt (ybG ybY ydr (yR (yir T) (T.G 23) (T.k 104) (T.b 104) (ya z_v (ya yk yd))) (ybG yqc yxv yk yk))) (yb (yt (yR (ykJ T) (T.G 27) (T.k 108) (T.b 108) (ya z_v (ya z_v yd)))) (yb (yt (yep (ycv yd))) (yb (yhM (ygA (T.Z 7) (ya yk yd)) ydz (yb (yt (yR (ykI T) (T.G 26) (T.k 107) (T.b 107) (ya z_v yd))) (yb (yrG [] z_v (fun _ _ _ _ _ _=>(yep (ycd yy yba (T.Z 6) (ya z_v yd))))) (yb (yJ (yrz plainAttrs_list PySem.F.slot_list_append PySem.F.type_list_append ycK yhC z_v (ya (yrF (T.J 13) (yhj T) (T.C 15) (T.b 90) (ya z_v (ya z_v yd))) yd))) (yb (yJ (yrz plainAttrs_list PySem.F.slot_list_append PySem.F.type_list_append ycK yhC z_v (ya yk yd))) (yb (yka yk z_v yk) (yb (yJ (yrA plainAttrs_list PySem.F.slot_list_clear PySem.F.type_list_clear ytk ytY (ybp yQ ych z_v yk))) (yf (yJ (yrz plainAttrs_list PySem.F.slot_list_append PySem.F.type_list_append ycK yhC z_v (ya (ybV (ycv (ya yI yd))) yd))))))))))) (yb (yt (yR (ykK T) (T.G 28) (T.k 109) (T.b 109) (ya z_v (ya (ydK yA ycw (T.Z 5) (ya z_v yd)) yd)))) (yb (yt (ybG ybY ydr (ybG ydX yiv z_v yk) (ybG ycc ydw (ydK yA ycw (T.Z 5) (ya z_v yd)) yk))) (yb (yt (yR (yeB T) (T.G 31) (T.k 112) (T.b 112) (ya (ybp yQ ych z_v yk) (ya z_v yd)))) (yb (yU (yH (yhN (ygb hr)) ynl (yR (yeB T) (T.G 31) (T.k 112) (T.b 112) (ya (ybp yQ ych z_v yk) (ya (ybV (ylJ yeJ yls z_v ynp (yeq z_v))) yd))) (ybV (ylJ yeJ yls z_v ynp (yeq z_v)))) (yf (yj ysO)) yr) (yb (yt (yp (ybp yQ ych z_v yk) (T.M 47) (ycT T) (T.b 98))) (yb (yt (yR (yml T) (T.G 29) (T.k 110) (T.b 110) (ya z_v yd))) (yb (yt (yp (ybp yQ ych z_v yk) (T.M 47) (ycT T) (T.b 98))) (yb (yU (ypv (yiA (yH yqh yAk (ydK yA ycw (T.Z 5) (ya z_v yd)) (ydK yA ycw (T.Z 5) (ya z_v yd))) (yga (yH (yhN (ygb hr)) ynl z_v (ybV (ylJ yeJ yls z_v ynp (yeq (ydK yA ycw (T.Z 5) (ya z_v yd))))))))) (yf (yj ysO)) yr) (yb (yU (yH (yhN (ygb hr)) ynl (yR (yeB T) (T.G 31) (T.k 112) (T.b 112) (ya (ybp yQ ych z_v yk) (ya (ybV (ylJ yeJ yls z_v (yeq z_v) ynp)) yd))) (ybV (ylJ yeJ yls z_v (yeq z_v) ynp))) (yf (yj ysO)) yr) (yb (yyj (T.Z 12) (ya z_v (ya z_v yd)) (yAZ (yox ydz (yox ydz yxZ))) (yf (yU (ypv (yow (yH (yhN (ygb hr)) ynl z_v (ycY (ya yI yd))) (yjY (yH (yhN (ygb hr)) ynl (ym (ybp yQ ych z_v yk) (T.M 52) (ygT T) (T.b 103) (ya z_v yd)) z_v)))) (yf (yj ysO)) yr))) (yb (yt (yR (yeA T) (T.G 30) (T.k 111) (T.b 111) (ya (ybp yQ ych z_v yk) (ya (ydK yA ycw (T.Z 5) (ya z_v yd)) (ya ysO yd))))) (yb (yU (ypv (yiA (yH (yhN (ygb hr)) ynl (yR (yeA T) (T.G 30) (T.k 111) (T.b 111) (ya (ybp yQ ych z_v yk) (ya (ydK yA ycw (T.Z 5) (ya z_v yd)) (ya ysO yd)))) z_v) (yga (yH (yhN (ygb hr)) ynl (yR (yeA T) (T.G 30) (T.k 111) (T.b 111) (ya (ybp yQ ych z_v yk) (ya (ydK yA ycw (T.Z 5) (ya z_v yd)) (ya (yfl ybF ydJ (ybG ybY ydr z_v yk) yk) yd)))) z_v)))) (yf (yj ysO)) yr) (yf (yj (ypu (yfl (ywa (ygb hr)) yAP z_v z_v) (ypt (yfl (ywa (ygb hr)) yAP (yp (ybp yQ ych z_v yk) (T.M 40) (yez T) (T.b 91)) (ybp yQ ych z_v yk))))))))))))))))))))))
def yvs (K:PySem.W.Frag):Sp:=fun vs H Q _=>∃ (a:Addr) (ns:List Int),vs=[.ref a]/\SqL K H a (ns.map V.int)/\ns.length<=63/\∀ H',Q (.bl true) H'
theorem yCk:∀ vs H Q E,yvs K vs H Q E->spE ⟨K,A⟩ 1 yuD vs H Q E:=by rintro _ H Q E ⟨a,ns,rfl,hS,hl,q⟩;obtain ⟨h',e⟩:=yCh (h:=[]) ns hl;exact ⟨⟨H,H,[],[]⟩,[.scr ns],.bl true,h',rfl,⟨Same.refl _,rfl,List.nodup_nil,fun n d a e=>by simp at e⟩,⟨.ref a,[],rfl,⟨a,rfl,hS⟩,rfl⟩,rfl,e,fun v W' _ _ rv=>by rw [show v=_ from rv];exact q _⟩
end
structure FB (K:PySem.W.Frag) (r:FR) (p:Addr×FuncData):Prop where
 F:Fun K r.1 r.2.1 r.2.2.1 p.1 p.2
 b:Binds K p.2 r.ps []
def FB.of {n:List Str}(F:Fun K x q s f d) (b:Binds K d (n.take k) []):FB K (fRw x q s k n) (f,d):=⟨F,b⟩
def All2 {Z B:Type}(R:Z->B->Prop):List Z->List B->Prop
 | r::rs,p::ps=>R r p/\All2 R rs ps
 | [],[]=>True
 | _,_=>False
theorem All2.get {Z B:Type}{R:Z->B->Prop}{d:Z}{e:B}(h:R d e):∀ {rs:List Z}{ps:List B},All2 R rs ps->∀ n:Nat,R (rs.getD n d) (ps.getD n e)
 | [],[],_,_=>h
 | _::_,_::_,a,0=>a.1
 | _::_,_::_,a,n+1=>All2.get h a.2 n
abbrev Ns1 (K:PySem.W.Frag) (x:Str) (f:Addr):Prop:=nsIn K mainGlobals x=some (some (.ref f))
structure TyR (K:PySem.W.Frag) (C:Addr):Prop where
 ha:findIn K (.ref C) "__class__" = some (some (.builtin "object.__class__"))
 hm:mroIn K C (.type "object")=some true
 ty:typeIn K (.ref C)=some (.type "type")
structure NS2 (K:PySem.W.Frag) (c d:Addr):Prop where
 sb:subIn K (.ref c) (.ref d)=some false
 ne:(c == d)=false
noncomputable def NSx (K:PySem.W.Frag) (pre:List Addr):List Addr->Prop
 | []=>True
 | c::cs=>AllP (NS2 K c) pre/\AllP (NS2 K c) cs/\NSx K (c::pre) cs
theorem NSx.get:∀ {cs pre:List Nat},NSx K (pre.map A) (cs.map A)->∀ i∈cs,∀ j,j∈pre\/j∈cs->i≠j->NS2 K (A i) (A j)
 | c::cs,pre,a,i,hi,j,hj,ne=>by
  rcases mem_cons.mp hi with rfl|hi
  .rcases hj with hj|hj
   .exact a.1.mem _ (List.mem_map_of_mem hj)
   .rcases mem_cons.mp hj with rfl|hj
    .exact absurd rfl ne
    .exact a.2.1.mem _ (List.mem_map_of_mem hj)
  .refine NSx.get (pre:=c::pre) a.2.2 i hi j ?_ ne;rcases hj with hj|hj
   .exact .inl (mem_cons_of_mem _ hj)
   .rcases mem_cons.mp hj with rfl|hj
    .exact .inl mem_cons_self
    .exact .inr hj
def yzf (CL:∀ k,Cls K (A k)) (hn:PySem.W.specialIn K (.builtin "object.__class__") "__get__" = some (some (.builtin "getset_descriptor.__get__"))) (htk:PySem.W.takesIn K (.builtin "object.__class__")=some true) (cs:List Nat) (ty:AllP (TyR K) (cs.map A)) (sb:NSx K [] (cs.map A)) :
  ∀ r∈tbO cs,∀ (H:Hp) (a dx:Addr) (fs:List (Str×V)),H a=some (.ins (A r.1) dx fs)->IsI K H (.ref a) (.ref (A r.2.1)) r.2.2:=by
 intro r hr H a dx fs e;unfold tbO at hr;obtain ⟨i,hi,hr⟩:=List.mem_flatMap.mp hr;obtain ⟨j,hj,rfl⟩:=List.mem_map.mp hr;have t:=ty.mem _ (List.mem_map_of_mem hi);have t':=ty.mem _ (List.mem_map_of_mem hj);refine ⟨_,_,.ins e (CL i) t.ha hn htk t.hm,rfl,?_⟩
 by_cases q:i=j
 .subst q;show _=some (i == i);rw [beq_self_eq_true];exact ytp
 .have n:=NSx.get (pre:=[]) sb i hi j (.inr hj) q;show _=some (i == j);rw [beq_eq_false_iff_ne.mpr q];exact ytr n.ne t'.hm t'.ty n.sb
def zip_get:∀ {cs:List Str}{as:List Addr},AllP (fun p:Str×Addr=>Ns1 K p.1 p.2) ((c0::cs).zip (C0::as))->cs.length=as.length->∀ n:Nat,Ns1 K ((c0::cs).getD n c0) ((C0::as).getD n C0):=fun {cs as} h hl n=>by
 have h0:=h.1;have:∀ (cs:List Str) (as:List Addr),AllP (fun p:Str×Addr=>Ns1 K p.1 p.2) (cs.zip as)->cs.length=as.length->∀ n:Nat,Ns1 K (cs.getD n c0) (as.getD n C0):=by
  intro cs
  induction cs with
  | nil=>intro as _ e n;cases as with|nil=>exact h0|cons _ _=>cases e
  | cons c cs ih=>intro as h e n;cases as with|nil=>cases e|cons a as=>cases n with|zero=>exact h.1|succ n=>exact ih as h.2 (by simpa using e) n
 exact this _ _ h (by simpa using hl) n
def all_mk {l:PySem.W.OpenLaw}{K:PySem.W.Frag}(X:K.In h) (G:h.Ns mainGlobals mg) (hfa:mg "law" = some (.ref fa))
  
  (hC:Ns1 K "Part" C0/\Ns1 K "Let" C1/\Ns1 K "Reckon" C2/\Ns1 K "Take" C3/\Ns1 K "Put" C4/\Ns1 K "If" C5/\Ns1 K "Either" C6/\Ns1 K "Try" C7/\Ns1 K "Throw" C8/\Ns1 K "Wait" C9/\Ns1 K "Reader" C10/\Ns1 K "Log" C11/\Ns1 K "Run" C12/\Ns1 K "Doer" C13/\Ns1 K "Hand" C14/\Ns1 K "Hall" C15/\True)
  (cl:AllP (Cls K) [C0,C1,C2,C3,C4,C5,C6,C7,C8,C9,C10,C11,C12,C13,C14,C15])
  (hK:Mk K C1 f45/\Mk K C2 f46/\Mk K C3 f47/\Mk K C4 f48/\Mk K C5 f49/\Mk K C6 f50/\Mk K C7 f51/\Mk K C8 f52/\Mk K C10 f70/\Mk K C11 f0/\Mk K C12 f28/\Mk K C13 f18/\Mk K C14 f44/\Mk K C15 f90/\True)
  (mk0:makesIn K C0=true)
  (io0:findIn K (.ref C0) "__init__" = some (some (.builtin "object.__init__")))
  (kp0:keepIn K (.ref C0)=true)
  (mk9:makesIn K C9=true)
  (io9:findIn K (.ref C9) "__init__" = some (some (.builtin "object.__init__")))
  (kp9:keepIn K (.ref C9)=true)
  (hM:Meth K C1 "long" f53/\Meth K C2 "long" f54/\Meth K C3 "long" f55/\Meth K C4 "long" f56/\Meth K C5 "long" f60/\Meth K C6 "long" f61/\Meth K C7 "long" f62/\Meth K C8 "long" f57/\Meth K C9 "long" f58/\Meth K C11 "write" f1/\Meth K C11 "own" f2/\Meth K C11 "begin" f3/\Meth K C11 "settle" f4/\Meth K C11 "drop" f5/\Meth K C11 "see" f6/\Meth K C11 "saw" f7/\Meth K C11 "wrote" f8/\Meth K C12 "held_in" f19/\Meth K C12 "hold" f20/\Meth K C12 "box_at" f21/\Meth K C12 "do_put" f23/\Meth K C12 "do_reckon" f22/\Meth K C12 "sees_at" f24/\Meth K C12 "take_own" f25/\Meth K C12 "take_seen" f26/\Meth K C12 "row" f29/\Meth K C12 "is_stale" f30/\Meth K C12 "taker_layer" f31/\Meth K C12 "is_looked_over" f32/\Meth K C12 "see_next" f33/\Meth K C12 "go" f38/\Meth K C12 "go_plain" f34/\Meth K C12 "lead" f35/\Meth K C12 "throw" f37/\Meth K C12 "leave" f36/\Meth K C14 "state" f39/\Meth K C14 "new_run" f40/\Meth K C14 "begin_anew" f41/\Meth K C14 "fall_asleep" f42/\Meth K C14 "go_on" f43/\Meth K C15 "boxes" f91/\Meth K C15 "stamps" f92/\Meth K C15 "hand_at" f93/\Meth K C15 "state" f94/\Meth K C15 "which" f95/\Meth K C15 "slots" f96/\Meth K C15 "saw" f97/\Meth K C15 "journal" f98/\Meth K C15 "wake_stale" f99/\Meth K C15 "end_deed" f100/\Meth K C15 "lay_down" f101/\Meth K C15 "looked_over_told" f102/\Meth K C15 "turn" f103/\Meth K C10 "ahead" f72/\Meth K C10 "taken" f73/\Meth K C10 "pass_over" f74/\Meth K C10 "slot_taken" f75/\Meth K C10 "name_taken" f76/\Meth K C10 "number_taken" f77/\Meth K C10 "list_taken" f80/\Meth K C10 "side_taken" f81/\Meth K C10 "part_taken" f82/\Meth K C10 "if_taken" f83/\Meth K C10 "either_taken" f84/\Meth K C10 "try_taken" f85/\Meth K C10 "plain_taken" f79/\Meth K C10 "reckon_taken" f78/\True)
  (cf13:yuA K C13 "__init__" f18)
  (hG:Ns1 K "reckon" f9/\Ns1 K "is_whole" f10/\Ns1 K "is_number" f11/\Ns1 K "is_made_of" f12/\Ns1 K "number_of" f13/\Ns1 K "is_word" f14/\Ns1 K "is_slot" f15/\Ns1 K "slot_index" f16/\Ns1 K "is_name" f17/\Ns1 K "takes" f27/\Ns1 K "list_long" f59/\Ns1 K "plain_rows" f63/\Ns1 K "first_row" f64/\Ns1 K "rows_between" f65/\Ns1 K "list_rows" f66/\Ns1 K "part_rows" f67/\Ns1 K "sided_rows" f68/\Ns1 K "rows_of" f69/\Ns1 K "words_of" f71/\Ns1 K "read" f86/\Ns1 K "check_boxes" f87/\Ns1 K "rows_of_deeds" f88/\Ns1 K "rows_of_hands" f89/\Ns1 K "_law_cell_at" f104/\Ns1 K "_law_piece" f105/\Ns1 K "_law_deed" f106/\Ns1 K "_law_boxes" f107/\Ns1 K "_law_hands" f108/\Ns1 K "_law_turns" f109/\Ns1 K "_law_copy" f110/\Ns1 K "_law_looks" f111/\Ns1 K "_law_given" f112/\Ns1 K "law" f113/\True)
  (hF:All2 (FB K) fT [(f0,d0),(f1,d1),(f2,d2),(f3,d3),(f4,d4),(f5,d5),(f6,d6),(f7,d7),(f8,d8),(f9,d9),(f10,d10),(f11,d11),(f12,d12),(f13,d13),(f14,d14),(f15,d15),(f16,d16),(f17,d17),(f18,d18),(f19,d19),(f20,d20),(f21,d21),(f22,d22),(f23,d23),(f24,d24),(f25,d25),(f26,d26),(f27,d27),(f28,d28),(f29,d29),(f30,d30),(f31,d31),(f32,d32),(f33,d33),(f34,d34),(f35,d35),(f36,d36),(f37,d37),(f38,d38),(f39,d39),(f40,d40),(f41,d41),(f42,d42),(f43,d43),(f44,d44),(f45,d45),(f46,d46),(f47,d47),(f48,d48),(f49,d49),(f50,d50),(f51,d51),(f52,d52),(f53,d53),(f54,d54),(f55,d55),(f56,d56),(f57,d57),(f58,d58),(f59,d59),(f60,d60),(f61,d61),(f62,d62),(f63,d63),(f64,d64),(f65,d65),(f66,d66),(f67,d67),(f68,d68),(f69,d69),(f70,d70),(f71,d71),(f72,d72),(f73,d73),(f74,d74),(f75,d75),(f76,d76),(f77,d77),(f78,d78),(f79,d79),(f80,d80),(f81,d81),(f82,d82),(f83,d83),(f84,d84),(f85,d85),(f86,d86),(f87,d87),(f88,d88),(f89,d89),(f90,d90),(f91,d91),(f92,d92),(f93,d93),(f94,d94),(f95,d95),(f96,d96),(f97,d97),(f98,d98),(f99,d99),(f100,d100),(f101,d101),(f102,d102),(f103,d103),(f104,d104),(f105,d105),(f106,d106),(f107,d107),(f108,d108),(f109,d109),(f110,d110),(f111,d111),(f112,d112),(f113,d113)])
  (hN:(NoAttr K C11 "stack"/\True)/\(NoAttr K C11 "last_seen"/\True)/\(NoAttr K C12 "held"/\True)/\(NoAttr K C12 "width"/\NoAttr K C14 "width"/\True)/\(NoAttr K C12 "log"/\True)/\(NoAttr K C12 "rows"/\True)/\(NoAttr K C10 "at"/\NoAttr K C12 "at"/\True)/\(NoAttr K C12 "seen_stamps"/\True)/\(NoAttr K C12 "sides"/\True)/\(NoAttr K C14 "deeds"/\True)/\(NoAttr K C14 "nth"/\True)/\(NoAttr K C14 "sleeps"/\True)/\(NoAttr K C14 "before"/\True)/\(NoAttr K C14 "run"/\True)/\(NoAttr K C15 "numbers"/\True)/\(NoAttr K C15 "marks"/\True)/\(NoAttr K C15 "crew"/\True)/\(NoAttr K C15 "entries"/\True)/\(NoAttr K C10 "words"/\True)/\(NoAttr K C1 "slot"/\NoAttr K C2 "slot"/\NoAttr K C3 "slot"/\NoAttr K C4 "slot"/\NoAttr K C5 "slot"/\NoAttr K C7 "slot"/\NoAttr K C8 "slot"/\True)/\(NoAttr K C1 "number"/\True)/\(NoAttr K C3 "place"/\NoAttr K C4 "place"/\True)/\(NoAttr K C5 "parts"/\NoAttr K C6 "parts"/\NoAttr K C7 "parts"/\True)/\(NoAttr K C5 "others"/\NoAttr K C6 "others"/\NoAttr K C7 "others"/\True)/\(NoAttr K C7 "name"/\NoAttr K C8 "name"/\True)/\(NoAttr K C2 "word"/\True)/\(NoAttr K C2 "one"/\True)/\(NoAttr K C2 "other"/\True)/\True)
  (ty:AllP (TyR K) [C1,C2,C3,C4,C5,C6,C7,C8,C9])
  (sb:NSx K [] [C1,C2,C3,C4,C5,C6,C7,C8,C9])
  (hn:PySem.W.specialIn K (.builtin "object.__class__") "__get__" = some (some (.builtin "getset_descriptor.__get__")))
  (htk:PySem.W.takesIn K (.builtin "object.__class__")=some true)
  (hZ:AllP (fun b=>nsIn K mainGlobals b=some none) zT)
  (q1:nsIn K mainGlobals "FIGURES" = some (some (.str "0123456789" u1)))
  (q2:nsIn K mainGlobals "LETTERS" = some (some (.str "abcdefghijklmnopqrstuvwxyz" u2)))
  (q3:nsIn K mainGlobals "MOST_AROUND" = some (some (.int 8 u3)))
  (q4:nsIn K mainGlobals "MOST_BOXES" = some (some (.int 16 u4)))
  (q5:nsIn K mainGlobals "MOST_DEEDS" = some (some (.int 6 u5)))
  (q6:nsIn K mainGlobals "MOST_HANDS" = some (some (.int 8 u6)))
  (q7:nsIn K mainGlobals "MOST_ROWS" = some (some (.int 80 u7)))
  (q8:nsIn K mainGlobals "SLOTS" = some (some (.str "abcdefgh" u8)))
  (q9:nsIn K mainGlobals "WIDE" = some (some (.int 18446744073709551616 u9)))
  (q10:nsIn K mainGlobals "WORDS" = some (some (.ref u10)))
  (qk10:K.lookup u10=some ⟨.type "tuple",qd10,.seq #[.str "plus" qt10_0,.str "minus" qt10_1,.str "times" qt10_2,.str "less" qt10_3,.str "same" qt10_4] qn10,qs10⟩) :
  ∃ fd:FuncData,(∀ (s:Shared) (v:Value),BindsTo s fd ⟨[v],[]⟩ [("_law_script",v)])/\∀ base:Heap,K.In base->base.Ns mainGlobals mg->FnOk l.prog w K mg base CX0 98 fa fd ["_law_script"] (yvs K):=by
 let t:Ads:=⟨fun k=>[C0,C1,C2,C3,C4,C5,C6,C7,C8,C9,C10,C11,C12,C13,C14,C15].getD k C0,fun n=>[(f0,d0),(f1,d1),(f2,d2),(f3,d3),(f4,d4),(f5,d5),(f6,d6),(f7,d7),(f8,d8),(f9,d9),(f10,d10),(f11,d11),(f12,d12),(f13,d13),(f14,d14),(f15,d15),(f16,d16),(f17,d17),(f18,d18),(f19,d19),(f20,d20),(f21,d21),(f22,d22),(f23,d23),(f24,d24),(f25,d25),(f26,d26),(f27,d27),(f28,d28),(f29,d29),(f30,d30),(f31,d31),(f32,d32),(f33,d33),(f34,d34),(f35,d35),(f36,d36),(f37,d37),(f38,d38),(f39,d39),(f40,d40),(f41,d41),(f42,d42),(f43,d43),(f44,d44),(f45,d45),(f46,d46),(f47,d47),(f48,d48),(f49,d49),(f50,d50),(f51,d51),(f52,d52),(f53,d53),(f54,d54),(f55,d55),(f56,d56),(f57,d57),(f58,d58),(f59,d59),(f60,d60),(f61,d61),(f62,d62),(f63,d63),(f64,d64),(f65,d65),(f66,d66),(f67,d67),(f68,d68),(f69,d69),(f70,d70),(f71,d71),(f72,d72),(f73,d73),(f74,d74),(f75,d75),(f76,d76),(f77,d77),(f78,d78),(f79,d79),(f80,d80),(f81,d81),(f82,d82),(f83,d83),(f84,d84),(f85,d85),(f86,d86),(f87,d87),(f88,d88),(f89,d89),(f90,d90),(f91,d91),(f92,d92),(f93,d93),(f94,d94),(f95,d95),(f96,d96),(f97,d97),(f98,d98),(f99,d99),(f100,d100),(f101,d101),(f102,d102),(f103,d103),(f104,d104),(f105,d105),(f106,d106),(f107,d107),(f108,d108),(f109,d109),(f110,d110),(f111,d111),(f112,d112),(f113,d113)].getD n (f0,d0),u1,u2,u3,u4,u5,u6,u7,u8,u9,u10⟩
 have CL:∀ k,Cls K (t.A k):=fun k=>AllP.get cl.1 cl k
 have FF:∀ n,FB K (fR n) (t.fl n):=fun n=>All2.get hF.1 hF n
 have hC:AllP (fun p:Str×Addr=>Ns1 K p.1 p.2) (cT.zip [C0,C1,C2,C3,C4,C5,C6,C7,C8,C9,C10,C11,C12,C13,C14,C15]):=hC;have hG:AllP (fun r:Str×Nat=>Ns1 K r.1 (t.a r.2)) gT:=hG;have hK:AllP (fun r:Nat×Nat=>Mk K (t.A r.1) (t.a r.2)) kT:=hK;have hM:AllP (fun r:Nat×Str×Nat=>Meth K (t.A r.1) r.2.1 (t.a r.2.2)) mT:=hM;have hN:AllP (fun r:Str×List Nat=>AllP (fun k=>NoAttr K (t.A k) r.1) r.2) nT:=hN;have T:Txt K mg t:=⟨fun n=>(FF n).F,fun n=>(FF n).b,fun n=>mg_of X G (AllP.get (p:=fun r:Str×Nat=>Ns1 K r.1 (t.a r.2)) hG.1 hG n),fun n=>mg_of X G (zip_get hC rfl n),fun n=>AllP.get (p:=fun r:Nat×Nat=>Mk K (t.A r.1) (t.a r.2)) hK.1 hK n,fun n=>AllP.get (p:=fun r:Nat×Str×Nat=>Meth K (t.A r.1) r.2.1 (t.a r.2.2)) hM.1 hM n,mk0,io0,kp0,mk9,io9,kp9,cf13,CL,fun n k hk=>⟨CL k,(AllP.get (p:=fun r:Str×List Nat=>AllP (fun k=>NoAttr K (t.A k) r.1) r.2) hN.1 hN n).mem k hk⟩,yzf CL hn htk [1,2,3,4,5,6,7,8,9] ty sb,fun n=>PySem.W.mg_none_of X G (AllP.get (p:=fun b=>nsIn K mainGlobals b=some none) hZ.1 hZ n),mg_of X G q1,mg_of X G q2,mg_of X G q3,mg_of X G q4,mg_of X G q5,mg_of X G q6,mg_of X G q7,mg_of X G q8,mg_of X G q9,mg_of X G q10,⟨_,_,_,qk10,rfl,rfl,(by show 5<=sizeLine;decide),.cons ⟨_,rfl⟩ (.cons ⟨_,rfl⟩ (.cons ⟨_,rfl⟩ (.cons ⟨_,rfl⟩ (.cons ⟨_,rfl⟩ (.nil)))))⟩⟩
 have e:=hfa.symm.trans (T.G 32);have e:fa=f113:=by injection e with e;injection e
 subst e;refine ⟨d113,?_,fun base _ _=>(yCj T).imp (yCk T)⟩;obtain ⟨_,_,_,_,_,_,_,_,_,e,_⟩:=(FF 113).F.ex;have e:d113=_:=e;subst e;exact fun s v=>.of_eq rfl
def walk {l:PySem.W.OpenLaw}{q:Program}{loose:List Str}{XP:(Str->Option Value)->Heap->Prop}{YP:World->Heap->Prop}{d:DefRec}{K:Params->PySem.W.Frag}(hn:l.most=some 63) (hdf:d.params.defaults=[])
  (hY:∀ (w:World) (h:Heap),YP w h->(K w.params).In h)
  (F:∀ (w:World) (mg:Str->Option Value) (fa:Addr) (h:Heap),(K w.params).In h->h.Ns mainGlobals mg->mg d.name=some (.ref fa) ->
   ∃ fd:FuncData,(∀ (s:Shared) (u:Value),BindsTo s fd ⟨[u],[]⟩ [("_law_script",u)])/\∀ base:Heap,(K w.params).In base->base.Ns mainGlobals mg->FnOk l.prog w (K w.params) mg base CX0 98 fa fd ["_law_script"] (yvs (K w.params))) :
  PySem.W.WalkO q loose XP YP l.row.toRowW d [] (fun f vs=>PySem.call f vs) :=
 L2.walk_of (n:=63) (k:=98) (x:="_law_script") (CX:=fun _=>CX0) (sp:=fun w=>yvs (K w.params)) hn (by decide) hdf ⟨rfl,by decide,by decide⟩ hY F (fun _ _ a ns hl _ hS=>⟨a,ns,rfl,hS,hl,fun _=>rfl⟩) fun _ _ _ _ _ z=>z
end My
local macro_rules | `(tactic| walk_at "ka")=>`(tactic| first|exact True.intro|k_is|decide|((first|refine And.intro ?_ ?_|refine' L2.Cls.mk ?_ ?_ ?_ ?_|refine' My.TyR.mk ?_ ?_ ?_|refine' My.NS2.mk ?_ ?_)<;>walk_at "ka"))
local macro_rules | `(tactic| walk_at "kr")=>`(tactic| first|exact True.intro|(refine And.intro ?_ ?_<;>walk_at "kr")|walk_at "kx")
local macro_rules | `(tactic| walk_at "kx")=>`(tactic| first|(refine' L2.Meth.mk ?a ?b ?c;(case a=>k_is);(case b=>k_is);(case c=>k_is))|(refine' L2.Mk.mk ?a ?b ?c ?d;(case a=>k_is);(case b=>k_is);(case c=>k_is);(case d=>k_is))|(unfold L2.NoAttr;k_is)|(unfold My.Ns1;k_is)|k_is|(dsimp only;k_is))
local macro_rules | `(tactic| walk_at "kf")=>`(tactic| first|exact True.intro|(refine' And.intro (My.FB.of (L2.fun_mk ?a ?b ?c) ?d) ?e;(case a=>k_is);(case b=>k_is);(case c=>k_is);(case d=>first|exact L2.Binds.all (My.ml1 fun _=>rfl)|exact L2.Binds.all (My.ml2 fun _ _=>rfl)|exact L2.Binds.all (My.ml3 fun _ _ _=>rfl)|exact L2.Binds.all (My.ml4 fun _ _ _ _=>rfl)|exact L2.Binds.all (My.ml5 fun _ _ _ _ _=>rfl));(case e=>walk_at "kf")))
local macro_rules | `(tactic| walk_at "k4")=>`(tactic| (refine' ⟨?a,?b,?c,?d⟩;(case a=>k_is);(case b=>k_is);(case c=>k_is);(case d=>k_is)))
open PySem PySem.W PyProof.Rows
set_option maxRecDepth 100000 in
set_option maxHeartbeats 0 in
theorem PySem.Challenge.cw_retryhall_k67_whole_cut_turns_holds : PySem.Challenge.rw_retryhall_k67_whole_cut_turns.Holds := by
 refine hD_ ?_
 k_fill
 refine My.walk (l:=PySem.Challenge.rw_retryhall_k67_whole_cut_turns) rfl rfl (fun w h Y=>Y) ?F
 case F =>
  intro w mg fa h KX G hmg
  refine' My.all_mk KX G hmg ?hC ?cl ?hK ?mk0 ?io0 ?kp0 ?mk9 ?io9 ?kp9 ?hM ?cf13 ?hG ?hF ?hN ?ty ?sb ?hn ?htk ?hZ ?q1 ?q2 ?q3 ?q4 ?q5 ?q6 ?q7 ?q8 ?q9 ?q10 ?qk10
  (case hC=>walk_at "kr")
  (case cl=>walk_at "ka")
  (case hK=>walk_at "kr")
  (case mk0=>k_is)
  (case io0=>k_is)
  (case kp0=>k_is)
  (case mk9=>k_is)
  (case io9=>k_is)
  (case kp9=>k_is)
  (case hM=>walk_at "kr")
  (case cf13=>walk_at "k4")
  (case hG=>walk_at "kr")
  (case hF=>walk_at "kf")
  (case hN=>walk_at "kr")
  (case ty=>walk_at "ka")
  (case sb=>walk_at "ka")
  (case hn=>k_is)
  (case htk=>k_is)
  (case hZ=>walk_at "kr")
  (case q1=>k_is)
  (case q2=>k_is)
  (case q3=>k_is)
  (case q4=>k_is)
  (case q5=>k_is)
  (case q6=>k_is)
  (case q7=>k_is)
  (case q8=>k_is)
  (case q9=>k_is)
  (case q10=>k_is)
  (case qk10=>k_is)
