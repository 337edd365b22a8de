import PyProof.Rows.All
import Wide.All
import OpenK.KLine
import KE.KIntText
import KE.KIsAll
import KE.KItemsList
import KE.KRevIter
import KE.KSortTup
import KE.LcSums
import KE.KPairComp
import Wide.FinOn
import Lean
import PyProof.EqAt
import PyProof.EqKinds
import PyProof.TupleCall
import OpenK.KOwn
import PySem.Challenge.RW_retryhall_k28_idle_and_no_hand
set_option Elab.async false
set_option linter.all false
set_option maxRecDepth 100000
set_option maxHeartbeats 4000000
set_option compiler.extract_closed false
namespace PySem.W.Fast
local macro_rules|`(command|universe $xs*)=>do return Lean.mkNullNode (<-(xs.flatMap fun x=>#[`hD_++x.getId,`PySem.Challenge++x.getId]).append ((Array.range 1455).map fun i=>`hD_++.mkSimple ("o_"++toString i)) |>.mapM fun n=>`(command|theorem $(Lean.mkIdent (.mkSimple ("tw"++toString n.hash))) : True:=True.intro))
universe heap_39 heap_46 heap_1455 tree_47 tree_70 tree_85 tree_100 tree_115 tree_130 tree_145 tree_231 tree_295 tree_374 tree_383 tree_473 tree_531 tree_566 tree_602 tree_638 tree_674 tree_710 tree_746 tree_782 tree_818 tree_854 tree_904 tree_948 tree_1069 tree_1154 tree_1174 tree_1291 tree_1374 tree_1454 view_39 sts_49 sts_71 sts_86 sts_101 sts_116 sts_131 sts_146 sts_232 sts_296 sts_375 sts_384 sts_474 sts_532 sts_567 sts_603 sts_639 sts_675 sts_711 sts_747 sts_783 sts_819 sts_855 sts_905 sts_949 sts_1158 sts_1175 sts_1378 env_41 pw_retryhall_k28_idle_and_no_hand rw_retryhall_k28_idle_and_no_hand
end PySem.W.Fast
set_option maxHeartbeats 0 in
open_top hD_ for PySem.Challenge.rw_retryhall_k28_idle_and_no_hand
open PySem.W (fnOf findIn keepIn subIn codeIn nsIn isFn mg_of plainGet hasDictIn makesIn instObj typeIn emptyDict mroIn kia_one)
local macro_rules | `(tactic| rfl')=>`(tactic| decide +kernel)
open List (mem_cons_self mem_cons_of_mem mem_append_left getElem?_set_self getElem?_set_ne mem_append_right length_cons map_cons length_map append_nil of_mem_zip replicate length length_take getElem?_append_right getElem?_replicate getElem?_append_left getElem?_map mem_of_getElem? length_append map_nil length_drop size_toArray length_set any_cons getElem_of_mem idxOf map_append lookup_cons prefix_refl getElem?_eq_none length_zip find?_cons length_nil zip_cons_cons getD map_fst_zip map_map toArray mem_cons getD_eq_getElem?_getD map_set append_assoc)
open Nat (lt_of_lt_of_le lt_irrefl ne_of_lt le_of_lt le_of_eq zero_le sub_self)
open Option (map_some isSome_map bind_some)
open Bool (and_eq_true)
open PySem.F (plainAttrs_list)
noncomputable section
namespace L2
open PySem PySem.Spec PyProof.Rows
abbrev Key:=Sum Int Str
def ykX:Key->Value->Bool
 | .inl k,v=>Value.isInt k v
 | .inr x,v=>Value.isStrOf x v
def yEt (w:World):Key->Int
 | .inl k=>hashInt k
 | .inr x=>hashStr w x
theorem yW:∀ {k:Key}{v:Value},ykX k v=true->(∃ i t,k=Sum.inl i/\v=Value.int i t)\/(∃ x t,k=Sum.inr x/\v=Value.str x t)
 | .inl i,v,h=>by
  obtain ⟨t,e⟩:=Value.isInt_shape (k:=i) (v:=v) h
  exact .inl ⟨i,t,rfl,e⟩
 | .inr x,v,h=>by
  obtain ⟨t,e⟩:=Value.isStrOf_shape (x:=x) (v:=v) h
  exact .inr ⟨x,t,rfl,e⟩
theorem yop (i:Int) (t:Tok):ykX (.inl i) (.int i t)=true:=by simp [ykX,Value.isInt]
theorem yoq (x:Str) (t:Tok):ykX (.inr x) (.str x t)=true:=by simp [ykX,Value.isStrOf]
theorem yxJ (a b:Int):decide ((Sum.inl a:Key)=Sum.inl b)=(a == b):=by
 by_cases e:a=b
 .subst e;simp
 .have h:¬ (Sum.inl a:Key)=Sum.inl b:=fun q=>e (Sum.inl.inj q)
  rw [decide_eq_false h]
  exact (beq_eq_false_iff_ne.mpr e).symm
theorem yxK (a b:Str):decide ((Sum.inr a:Key)=Sum.inr b)=decide (a=b):=by
 by_cases e:a=b
 .subst e;simp
 .have h:¬ (Sum.inr a:Key)=Sum.inr b:=fun q=>e (Sum.inr.inj q)
  rw [decide_eq_false h,decide_eq_false e]
theorem yxL (a:Int) (b:Str):decide ((Sum.inl a:Key)=Sum.inr b)=false:=decide_eq_false (fun q=>nomatch q)
theorem yxM (a:Str) (b:Int):decide ((Sum.inr a:Key)=Sum.inl b)=false:=decide_eq_false (fun q=>nomatch q)
noncomputable def ybQ (prog:Program) (w:World):PySem.KeyKind prog w Key where
 is:=ykX
 hash:=yEt w
 inj:=fun v a b ha hb=>by
  rcases yW ha with ⟨i,t,rfl,rfl⟩|⟨x,t,rfl,rfl⟩
  .rcases yW hb with ⟨j,u,rfl,e⟩|⟨y,u,rfl,e⟩
   .injection e with e1 _;rw [e1]
   .exact nomatch e
  .rcases yW hb with ⟨j,u,rfl,e⟩|⟨y,u,rfl,e⟩
   .exact nomatch e
   .injection e with e1 _;rw [e1]
 byValue:=fun k v h=>by
  rcases yW h with ⟨i,t,rfl,rfl⟩|⟨x,t,rfl,rfl⟩<;>rfl
 pyHash:=fun hv h=>by
  rcases yW hv with ⟨i,t,rfl,rfl⟩|⟨x,t,rfl,rfl⟩
  .exact wpAny_pyHash_int h
  .exact wpAny_pyHash_str h
 eqBool:=fun hu hv h=>by
  rcases yW hu with ⟨i,t,rfl,rfl⟩|⟨x,t,rfl,rfl⟩
  .rcases yW hv with ⟨j,u,rfl,rfl⟩|⟨y,u,rfl,rfl⟩
   .rw [yxJ] at h;exact wpAny_eqBool_int h
   .rw [yxL] at h;exact SeqAt.EqAt.int_str i t y u _ _ _ _ h
  .rcases yW hv with ⟨j,u,rfl,rfl⟩|⟨y,u,rfl,rfl⟩
   .rw [yxM] at h;exact SeqAt.EqAt.str_int x t j u _ _ _ _ h
   .rw [yxK] at h;exact wpAny_eqBool_str h
 «strs»:=fun k x t v h=>by
  rcases yW h with ⟨i,u,rfl,e⟩|⟨y,u,rfl,e⟩
  .exact nomatch e
  .injection e with e1 _
   subst e1
   cases v<;>rfl
theorem ykY (prog:Program) (w:World) (i:Int) (t:Tok):(ybQ prog w).is (.inl i) (.int i t)=true:=yop i t
theorem ykZ (prog:Program) (w:World) (x:Str) (t:Tok):(ybQ prog w).is (.inr x) (.str x t)=true:=yoq x t
end L2
namespace L2
open PySem PySem.Spec PyProof.Rows
inductive V where
 | non|bl (b:Bool)|int (i:Int)|str (x:Str)|byt (b:Array UInt8)|flt (b:UInt64)|ref (a:Addr)|ty (n:String)
 deriving DecidableEq
noncomputable def RelV:V->Value->Prop
 | .non,u=>u=Value.none
 | .bl b,u=>u=Value.bool b
 | .int i,u=>∃ t,u=Value.int i t
 | .str x,u=>∃ t,u=Value.str x t
 | .byt b,u=>∃ t,u=Value.bytes b t
 | .flt b,u=>∃ t,u=Value.float b t
 | .ref a,u=>u=Value.ref a
 | .ty n,u=>u=Value.type n
abbrev Vals:List V->List Value->Prop:=Paired RelV
theorem Vals.length {xs:List V}{us:List Value}(r:Vals xs us):xs.length=us.length:=Paired.length r
theorem Vals.get:∀ {xs:List V}{us:List Value}{i:Nat}{x:V},Vals xs us->xs[i]?=some x->∃ u,us[i]?=some u/\RelV x u
 | _,_,_,_,.nil,e=>by simp at e
 | _,_,0,_,.cons r _,e=>by simp at e;subst e;exact ⟨_,rfl,r⟩
 | _,_,i+1,x,.cons _ t,e=>by
  obtain ⟨u,h1,h2⟩:=Vals.get (i:=i) (x:=x) t (by simpa using e)
  exact ⟨u,by simpa using h1,h2⟩
theorem Vals.set {x:V}{u:Value}(r:RelV x u):∀ {xs:List V}{us:List Value}(i:Nat),Vals xs us->Vals (xs.set i x) (us.set i u)
 | _,_,_,.nil=>.nil
 | _,_,0,.cons _ t=>.cons r t
 | _,_,i+1,.cons q t=>.cons q (Vals.set r i t)
theorem Vals.append:∀ {xs ys:List V}{us ws:List Value},Vals xs us->Vals ys ws->Vals (xs++ys) (us++ws)
 | _,_,_,_,.nil,s=>s
 | _,_,_,_,.cons r t,s=>.cons r (Vals.append t s)
theorem Vals.take:∀ {xs:List V}{us:List Value}(n:Nat),Vals xs us->Vals (xs.take n) (us.take n)
 | _,_,0,_=>.nil
 | _,_,_+1,.nil=>.nil
 | _,_,n+1,.cons r t=>.cons r (Vals.take n t)
theorem Vals.drop:∀ {xs:List V}{us:List Value}(n:Nat),Vals xs us->Vals (xs.drop n) (us.drop n)
 | _,_,0,r=>r
 | _,_,_+1,.nil=>.nil
 | _,_,n+1,.cons _ t=>Vals.drop n t
def RelO:Option V->Option Value->Prop
 | some v,some u=>RelV v u
 | none,none=>True
 | _,_=>False
def KV {κ:Type}:List (κ×V)->List (κ×Value)->Prop:=Paired fun (p:κ×V) (q:κ×Value)=>p.1=q.1/\RelV p.2 q.2
def kV:Key->V
 | .inl i=>.int i
 | .inr x=>.str x
inductive HO where
 | lst (xs:List V)
 | tup (xs:List V)
 | dK (kvs:List (Key×V))|dT (kvs:List (List Key×V))
 | set (S:Int->Bool) (n:Nat)
 | ins (C dx:Addr) (fs:List (Str×V))
 | own (x:Addr)
 | xd (fs:List (Str×V))
 | met (f x:Addr)
 | rng (lo hi:Int)
 | frz (o:Obj) (u:HO)
 | tbl (ps:Array Value)
 | ext (φ:Heap->Prop)
abbrev Hp:=Addr->Option HO
def upd (H:Hp) (a:Addr) (o:HO):Hp:=fun b=>if b=a then some o else H b
theorem yr {H:Hp}{a:Addr}{o:HO}:upd H a o a=some o:=by unfold upd;rw [if_pos rfl]
theorem yu {H:Hp}{a b:Addr}{o:HO}(h:b≠a):upd H a o b=H b:=by unfold upd;rw [if_neg h]
theorem yBw {H:Hp}{a b:Addr}{o u:HO}(h:H a=some o) (h':H b=some u) (d:o≠u):a≠b:=by
 intro e;subst e;rw [h] at h';exact d (Option.some.inj h')
theorem ybb {H:Hp}{a b:Addr}{o:HO}(h:H a=some o) (h':H b=none):a≠b:=by
 intro e;subst e;rw [h] at h';cases h'
section
variable (P:Program) (w:World)
def ObjOk (H:Hp) (h:Heap) (a:Addr):HO->Prop
 | .lst xs=>xs.length<=sizeLine/\∃ (its:List Value) (n:Nat),Vals xs its/\h.get? a=some { cls:=.type "list",data:=.seq its.toArray n }
 | .tup xs=>xs.length<=sizeLine/\∃ its:List Value,Vals xs its/\IsTup h a its.toArray
 | .dK kvs=>kvs.length<=sizeLine/\(a == sysModules)=false/\∃ vs,KV kvs vs/\h.DictOf (ybQ P w) a vs
 | .dT kvs=>kvs.length<=sizeLine/\(a == sysModules)=false/\∃ xs:List (List Key×Addr×Value),
   Paired (fun (p:List Key×V) (q:List Key×Addr×Value)=>p.1=q.1/\H q.2.1=some (.tup (p.1.map kV))/\RelV p.2 q.2.2) kvs xs /\
   ∃ o es ep,h.get? a=some o/\o.ExactDict/\o.data=.dict es ep/\es.toList=xs.map (entryOfKey (tupleKind (ybQ P w)))/\(xs.map (·.1)).Nodup
 | .set S n=>h.SetOf (intKind P w) a S n
 | .ins C dx fs=>H dx=some (.own a)/\fs.length<=1000/\dx≠a/\h.get? a=some (instObj C dx) /\
   ∃ mA,h.Ns1 dx mA/\(∀ f,RelO (fs.lookup f) (mA f))/\PySem.Within mA (fs.map (·.1))
 | .own _=>∃ o,h.get? a=some o
 | .xd fs=>∃ mA,h.Ns1 a mA/\∀ f,RelO (fs.lookup f) (mA f)
 | .rng lo hi=>∃ t u v,h.get? a=some { cls:=.type "range",data:=.fields #[.int lo t,.int hi u,.int 1 v] }
 | .frz o u=>h.get? a=some o/\ObjOk H h a u
 | .tbl ps=>h.get? a=some { cls:=.none,data:=.fields ps }
 | .met f x=>h.get? a=some (PySem.W.methodObj (.ref f) (.ref x))
 | .ext φ=>φ h/\(∃ o,h.get? a=some o)/\∀ h1 h2:Heap,φ h1->(∀ o,h1.get? a=some o->h2.get? a=some o)->φ h2
def HOk (H:Hp) (h:Heap):Prop:=∀ a o,H a=some o->ObjOk P w H h a o
end
section
variable {P:Program}{w:World}{H H':Hp}{h h':Heap}{a:Addr}{o:HO}
theorem ObjOk.lt (x:ObjOk P w H h a o):a<h.objs.size:=by
 cases o with
 | lst xs=>obtain ⟨_,_,_,_,e⟩:=x;exact Heap.lt_size e
 | tup xs=>obtain ⟨_,_,_,p⟩:=x;exact p.lt
 | dK kvs=>obtain ⟨_,_,_,_,o,_,_,e,_⟩:=x;exact Heap.lt_size e
 | dT kvs=>obtain ⟨_,_,_,_,o,_,_,e,_⟩:=x;exact Heap.lt_size e
 | set S n=>obtain ⟨o,_,_,_,e,_⟩:=x;exact Heap.lt_size e
 | ins C dx fs=>obtain ⟨_,_,_,e,_⟩:=x;exact Heap.lt_size e
 | own y=>obtain ⟨_,e⟩:=x;exact Heap.lt_size e
 | xd fs=>obtain ⟨_,⟨_,_,_,e,_⟩,_⟩:=x;exact Heap.lt_size e
 | rng lo hi=>obtain ⟨_,_,_,e⟩:=x;exact Heap.lt_size e
 | frz ob u=>obtain ⟨e,_⟩:=x;exact Heap.lt_size e
 | tbl ps=>exact Heap.lt_size (show h.get? a=some _ from x)
 | met f y=>exact Heap.lt_size (show h.get? a=some _ from x)
 | ext φ=>obtain ⟨_,⟨_,e⟩,_⟩:=x;exact Heap.lt_size e
theorem Paired.mapP {α β:Type}{F G:α->β->Prop}:∀ {l₁:List α}{l₂:List β},Paired F l₁ l₂->(∀ a b,F a b->G a b)->Paired G l₁ l₂
 | _,_,.nil,_=>.nil
 | _,_,.cons r t,f=>.cons (f _ _ r) (Paired.mapP t f)
theorem ObjOk.stay (x:ObjOk P w H h a o) (k:∀ b u,(b=a\/H b=some (.own a))->h.get? b=some u->h'.get? b=some u)
  (ho:∀ b,H b=some (.own a)->H' b=some (.own a)) (ht:∀ b xs,H b=some (.tup xs)->H' b=some (.tup xs)):ObjOk P w H' h' a o:=by
 induction o with
 | lst xs=>obtain ⟨z,its,n,r,e⟩:=x;exact ⟨z,its,n,r,k _ _ (.inl rfl) e⟩
 | tup xs=>obtain ⟨z,its,r,ob,e,c⟩:=x;exact ⟨z,its,r,ob,k _ _ (.inl rfl) e,c⟩
 | dK kvs=>obtain ⟨z,y,vs,r,ob,es,ep,e,c⟩:=x;exact ⟨z,y,vs,r,ob,es,ep,k _ _ (.inl rfl) e,c⟩
 | dT kvs =>
  obtain ⟨z,y,xs,r,ob,es,ep,e,c⟩:=x
  exact ⟨z,y,xs,Paired.mapP r fun p q z=>⟨z.1,ht _ _ z.2.1,z.2.2⟩,ob,es,ep,k _ _ (.inl rfl) e,c⟩
 | set S n=>obtain ⟨ob,es,ep,t,e,c⟩:=x;exact ⟨ob,es,ep,t,k _ _ (.inl rfl) e,c⟩
 | ins C dx fs =>
  obtain ⟨d,z,ne,e,mA,⟨od,es,ep,e2,c⟩,r⟩:=x
  exact ⟨ho _ d,z,ne,k _ _ (.inl rfl) e,mA,⟨od,es,ep,k _ _ (.inr d) e2,c⟩,r⟩
 | own y=>obtain ⟨ob,e⟩:=x;exact ⟨ob,k _ _ (.inl rfl) e⟩
 | xd fs=>obtain ⟨mA,⟨od,es,ep,e,c⟩,r⟩:=x;exact ⟨mA,⟨od,es,ep,k _ _ (.inl rfl) e,c⟩,r⟩
 | rng lo hi=>obtain ⟨t,u,v,e⟩:=x;exact ⟨t,u,v,k _ _ (.inl rfl) e⟩
 | frz ob u ih=>obtain ⟨e,q⟩:=x;exact ⟨k _ _ (.inl rfl) e,ih q⟩
 | tbl ps =>
  have e:h.get? a=some { cls:=.none,data:=.fields ps }:=x
  show h'.get? a=some { cls:=.none,data:=.fields ps }
  exact k a _ (.inl rfl) e
 | met f y =>
  have e:h.get? a=some (PySem.W.methodObj (.ref f) (.ref y)):=x
  show h'.get? a=some (PySem.W.methodObj (.ref f) (.ref y))
  exact k a _ (.inl rfl) e
 | ext φ=>obtain ⟨p,⟨o,e⟩,st⟩:=x;exact ⟨st _ _ p fun o q=>k _ _ (.inl rfl) q,⟨o,k _ _ (.inl rfl) e⟩,st⟩
theorem HOk.lt (x:HOk P w H h) (e:H a=some o):a<h.objs.size:=(x a o e).lt
theorem HOk.fresh (x:HOk P w H h) (e:h.objs.size<=a):H a=none:=by
 cases q:H a with
 | none=>rfl
 | some u=>exact absurd (lt_of_lt_of_le (x.lt q) e) (lt_irrefl _)
theorem HOk.kept (x:HOk P w H h) (k:∀ b u,h.get? b=some u->h'.get? b=some u):HOk P w H h':=fun a o e =>
 (x a o e).stay (fun b u _ q=>k b u q) (fun _ q=>q) fun _ _ q=>q
theorem HOk.laid (x:HOk P w H h) (k:∀ b u,h.get? b=some u->h'.get? b=some u) (hp:h.objs.size<=a) (new:ObjOk P w (upd H a o) h' a o):HOk P w (upd H a o) h':=fun b u e=>by
 have hn:=x.fresh hp
 by_cases hb:b=a
 .subst hb;rw [yr] at e;cases e;exact new
 .rw [yu hb] at e
  exact (x b u e).stay (fun c v _ q=>k c v q) (fun c q=>by rw [yu (ybb q hn)];exact q) fun c xs q=>by rw [yu (ybb q hn)];exact q
end
def Rd (H:Hp) (a:Addr) (u:HO):Prop:=H a=some u\/∃ o,H a=some (.frz o u)
theorem Rd.ok {P:Program}{w:World}{H:Hp}{h:Heap}{a:Addr}{u:HO}(r:Rd H a u) (x:HOk P w H h):ObjOk P w H h a u:=by
 rcases r with r|⟨o,r⟩
 .exact x a u r
 .obtain ⟨_,q⟩:=x a _ r
  exact q
noncomputable def Mut:Option HO->Prop
 | some (.lst _)=>True
 | some (.dK _)=>True
 | some (.dT _)=>True
 | some (.set _ _)=>True
 | some (.ins _ _ _)=>True
 | some (.ext _)=>True
 | _=>False
section
variable {P:Program}{w:World}{H:Hp}{h h':Heap}{x e:Addr}{o':HO}
theorem HOk.write (ok:HOk P w H h) (mu:Mut (H x)) (he:e=x\/H e=some (.own x)) (k:∀ b u,b≠e->h.get? b=some u->h'.get? b=some u) (heo:∃ u,h'.get? e=some u)
  (new:ObjOk P w (upd H x o') h' x o'):HOk P w (upd H x o') h':=fun b u q=>by
 have nown:∀ c y,H c=some (.own y)->c≠x:=fun c y r z=>by subst z;rw [r] at mu;exact mu
 have ntup:∀ c xs,H c=some (.tup xs)->c≠x:=fun c xs r z=>by subst z;rw [r] at mu;exact mu
 by_cases hb:b=x
 .subst hb;rw [yr] at q;cases q;exact new
 .rw [yu hb] at q
  by_cases hbe:b=e
  .have q':H b=some (.own x):=by
    rcases he with z|z
    .exact absurd (hbe.trans z) hb
    .rw [hbe];exact z
   rw [q] at q';cases q'
   obtain ⟨v,hv⟩:=heo
   exact ⟨v,by rw [hbe];exact hv⟩
  .refine (ok b u q).stay (fun c v hc r=>k c v ?_ r) (fun c r=>by rw [yu (nown c b r)];exact r) fun c xs r=>by rw [yu (ntup c xs r)];exact r
   rcases hc with rfl|hc
   .exact hbe
   .rintro rfl
    rcases he with z|z
    .exact nown c b hc z
    .rw [hc] at z;cases z;exact hb rfl
end
structure Un (fs ex:List Addr) (H H':Hp) (h h':Heap):Prop where
 keep:∀ b o,h.get? b=some o->H b=none->b∉fs->b∉ex->h'.get? b=some o
 slot:∀ b o,h.get? b=some o->H b=none->b∈fs->b∉ex->∃ sl,h'.get? b=some { o with slots:=sl }
 free:∀ b o,h.get? b=some o->H b=none->b∉ex->H' b=none
 there:∀ b o,h.get? b=some o->b∉ex->∃ o',h'.get? b=some o'
 tups:∀ b xs,H b=some (.tup xs)->H' b=some (.tup xs)
 frzs:∀ b o u,H b=some (.frz o u)->H' b=some (.frz o u)
 tbls:∀ b ps,H b=some (.tbl ps)->∃ more,H' b=some (.tbl (ps++more))
section
variable {fs fs' ex ex':List Addr}{H H1 H2:Hp}{h h1 h2 h':Heap}{a x e:Addr}{o:HO}
theorem Un.any (u:Un fs ex H H1 h h1) {b:Addr}{ob:Obj}(q:h.get? b=some ob) (n:H b=none) (hx:b∉ex):∃ sl,h1.get? b=some { ob with slots:=sl }:=by
 by_cases hb:b∈fs
 .exact u.slot b ob q n hb hx
 .exact ⟨ob.slots,u.keep b ob q n hb hx⟩
theorem Un.kept (k:∀ b u,h.get? b=some u->h'.get? b=some u):Un fs ex H H h h' :=
 ⟨fun b ob q _ _ _=>k b ob q,fun b ob q _ _ _=>⟨ob.slots,k b ob q⟩,fun _ _ _ n _=>n,fun b ob q _=>⟨ob,k b ob q⟩,fun _ _ q=>q,fun _ _ _ q=>q,fun _ ps q=>⟨#[],by rw [q];simp⟩⟩
theorem Un.refl:Un fs ex H H h h:=Un.kept fun _ _ q=>q
theorem Un.laid (k:∀ b u,h.get? b=some u->h'.get? b=some u) (hp:h.objs.size<=a) (hn:H a=none):Un fs ex H (upd H a o) h h' where
 keep:=fun b u q _ _ _=>k b u q
 slot:=fun b u q _ _ _=>⟨u.slots,k b u q⟩
 free:=fun b u q n _=>by rw [yu (ne_of_lt (lt_of_lt_of_le (Heap.lt_size q) hp))];exact n
 there:=fun b u q _=>⟨u,k b u q⟩
 tups:=fun b xs q=>by rw [yu (ybb q hn)];exact q
 frzs:=fun b u xs q=>by rw [yu (ybb q hn)];exact q
 tbls:=fun b ps q=>⟨#[],by rw [yu (ybb q hn),q];simp⟩
theorem Un.write (mu:Mut (H x)) (he:e=x\/H e=some (.own x)) (k:∀ b u,b≠e->h.get? b=some u->h'.get? b=some u) (heo:∃ u,h'.get? e=some u):Un fs ex H (upd H x o) h h':=by
 have hx:∀ b,H b=none->b≠x:=fun b n z=>by subst z;rw [n] at mu;exact mu
 have hb:∀ b,H b=none->b≠e:=fun b n z=>by
  subst z
  rcases he with r|r
  .exact hx b n r
  .rw [n] at r;cases r
 have hm:∀ b u,H b=some u->¬ Mut (some u)->b≠x:=fun b u q nm z=>by subst z;rw [q] at mu;exact nm mu
 refine ⟨fun b u q n _ _=>k b u (hb b n) q,fun b u q n _ _=>⟨u.slots,k b u (hb b n) q⟩,fun b u q n _=>by rw [yu (hx b n)];exact n,fun b u q _=>?_,
  fun b xs q=>by rw [yu (hm b _ q fun z=>z)];exact q,fun b u xs q=>by rw [yu (hm b _ q fun z=>z)];exact q,fun b ps q=>⟨#[],by rw [yu (hm b _ q fun z=>z),q];simp⟩⟩
 by_cases hbe:b=e
 .subst hbe;exact heo
 .exact ⟨u,k b u hbe q⟩
end
def trk (h:Heap) (H:Hp):List Addr:=(List.range h.objs.size).filter fun a=>(H a).isSome
def yrp (h:Heap) (H:Hp):Heap:=PySem.W.hideAll h (trk h H)
theorem yor (h:Heap) (H:Hp):(yrp h H).objs.size=h.objs.size:=PySem.W.hideAll_size _ _
theorem yrq {h:Heap}{H:Hp}{b:Addr}{o:Obj}(e:h.get? b=some o) (n:H b=none):(yrp h H).get? b=some o :=
 PySem.W.hideAll_get _ e fun hm=>by
  have q:(H b).isSome=true:=(List.mem_filter.mp hm).2
  rw [n] at q;simp at q
theorem yuU {h:Heap}{H:Hp}{b:Addr}{o:Obj}(e:(yrp h H).get? b=some o):h.get? b=some o/\H b=none:=by
 have e':h.get? b=some o:=PySem.W.of_hideAll (trk h H) e
 refine ⟨e',?_⟩
 cases q:H b with
 | none=>rfl
 | some x =>
  have hm:b∈trk h H:=List.mem_filter.mpr ⟨List.mem_range.mpr (Heap.lt_size e'),by simp [q]⟩
  have z:(yrp h H).get? b=none:=PySem.W.hideAll_none (trk h H) hm
  rw [z] at e;cases e
noncomputable def yuV (g h:Heap) (L:Addr):List (Addr×Obj):=(List.range h.objs.size).filterMap fun a=>if a=L\/(g.get? a).isSome=true then none else (h.get? a).map fun o=>(a,o)
def rest (g h:Heap) (L d:Addr):List (Addr×Obj):=(yuV g h L).filter fun p=>decide (p.1≠d)
end L2
namespace L2
open PySem PySem.Spec PyProof.Rows
structure Mod (K:PySem.W.Frag) (mg:Str->Option Value) (base:Heap):Prop where
 kin:K.In base
 glob:base.Ns mainGlobals mg
 blt:∃ mb,base.Ns builtinsNs mb/\∀ x:Str,x≠"__name__"->mb x=bootBuiltins x
 nolimit:base.NoLimit
structure Cx where
 prog:Program
 w:World
 K:PySem.W.Frag
 mg:Str->Option Value
 base:Heap
 A:Around
 N:List Str
 s₀:Shared
 H₀:Hp
 env:Env
 outer:List Env
 stack:List Env
 ex:List Addr
 fn:Str->Bool
 calm:Bool
 pn:List (Addr×Obj)
 xe:Value->Shared->Prop
def frs (l:List Env):List Addr:=l.filterMap (·.frame)
abbrev Cx.fs (X:Cx):List Addr:=frs X.outer
noncomputable def Vis (sc:Scope) (x:Str):Prop:=sc.names.lookup x=some .local \/ sc.names.lookup x=some .cell\/sc.names.lookup x=some .free
def Loc (sc:Scope) (x:Str):Prop:=sc.names.lookup x=some .local \/ sc.names.lookup x=some .cell
noncomputable def Look (env:Env) (h:Heap) (m:Str->Option Value) (x:Str) (u:Value):Prop :=
 (env.kindOf x=some .local/\m x=some u)\/((env.kindOf x=some .cell\/env.kindOf x=some .free)/\∃ c,env.cells.lookup x=some c/\h.IsCell c (some u))
structure Cx.Ok (X:Cx):Prop where
 mod:Mod X.K X.mg X.base
 kind:X.env.scope.kind=.function
 glob:X.env.globals=mainGlobals
 blt:X.env.builtins=builtinsNs
 above:X.s₀.heap.objs.size<=X.env.locals
 inj:∀ x y c,X.env.cells.lookup x=some c->X.env.cells.lookup y=some c->x=y
 has:∀ x,(X.env.kindOf x=some .cell\/X.env.kindOf x=some .free)->∃ c,X.env.cells.lookup x=some c
 cab:∀ x c,X.fn x=true->X.env.cells.lookup x=some c->X.s₀.heap.objs.size<=c
 hd:X.calm=true->X.A.handled=none
 frames:X.A.frames=some X.stack
 stk:X.stack=X.outer\/(X.stack=X.env::X.outer/\X.env.frame=some X.env.locals)
 exf:∀ b∈X.ex,b≠X.env.locals/\∀ x c,X.env.cells.lookup x=some c->c≠b
 bs:∀ b o,X.base.get? b=some o->X.s₀.heap.get? b=some o/\X.H₀ b=none
 bsz:X.base.objs.size<=X.s₀.heap.objs.size
 noex:∀ b o,X.base.get? b=some o->b∉X.ex
 exfs:∀ b∈X.ex,b∉X.fs
 funs:X.s₀.heap.FunFrames X.base X.outer
 frf:∀ b∈X.fs,X.H₀ b=none
structure Inv (X:Cx) (pins:List (Addr×Obj)) (σ:List (Option V)) (H:Hp) (s:Shared):Prop where
 ok:X.Ok
 os:s.os=X.s₀.os
 bare:AllBare s.gens
 base:Un X.fs X.ex X.H₀ H X.s₀.heap s.heap
 loc:∃ m,s.heap.Ns X.env.locals m/\∀ (i:Nat) (x:Str) (v:V),X.N[i]?=some x->σ[i]?=some (some v)->Vis X.env.scope x->∃ u,RelV v u/\Look X.env s.heap m x u
 cell:∀ x c,X.env.cells.lookup x=some c->∃ v,s.heap.IsCell c v
 free:H X.env.locals=none
 freeC:∀ x c,X.env.cells.lookup x=some c->H c=none
 pin:∀ p∈X.pn++pins,s.heap.get? p.1=some p.2/\H p.1=none/\p.1≠X.env.locals/\p.1∉X.fs/\∀ v,p.2.data≠.cell v
 hok:HOk X.prog X.w H s.heap
 len:σ.length=X.N.length
section
variable {X:Cx}{pins:List (Addr×Obj)}{σ:List (Option V)}{H H':Hp}{s:Shared}{h':Heap}
theorem Cx.Ok.nofr (ok:X.Ok) {b:Addr}{o:Obj}(e:X.base.get? b=some o):b∉X.fs:=fun hb=>by
 have:=(ok.funs.mem hb).1
 rw [e] at this;cases this
theorem Inv.bs (I:Inv X pins σ H s):∀ b o,X.base.get? b=some o->s.heap.get? b=some o/\H b=none:=fun b o e =>
 ⟨I.base.keep b o (I.ok.bs b o e).1 (I.ok.bs b o e).2 (I.ok.nofr e) (I.ok.noex b o e),I.base.free b o (I.ok.bs b o e).1 (I.ok.bs b o e).2 (I.ok.noex b o e)⟩
theorem Inv.bk (I:Inv X pins σ H s):∀ b o,X.base.get? b=some o->s.heap.get? b=some o:=fun b o e=>(I.bs b o e).1
theorem Inv.mod (I:Inv X pins σ H s):Mod X.K X.mg X.base:=I.ok.mod
theorem Inv.kIn (I:Inv X pins σ H s):X.K.In s.heap:=I.ok.mod.kin.keeps I.bk
theorem Inv.lt (I:Inv X pins σ H s):X.env.locals<s.heap.objs.size:=let ⟨_,hn,_⟩:=I.loc;hn.lt
theorem Inv.sz (I:Inv X pins σ H s):X.s₀.heap.objs.size<=s.heap.objs.size:=Nat.le_trans I.ok.above (le_of_lt I.lt)
theorem Inv.nofs (I:Inv X pins σ H s) {a:Addr}(h:s.heap.objs.size<=a):a∉X.fs:=fun hb=>by
 obtain ⟨_,o,ho,_⟩:=I.ok.funs.mem hb
 exact absurd (lt_of_lt_of_le (Heap.lt_size ho) (Nat.le_trans I.sz h)) (lt_irrefl _)
theorem Inv.cne (I:Inv X pins σ H s):∀ x c,X.env.cells.lookup x=some c->c≠X.env.locals:=fun x c e z=>by
 obtain ⟨v,o,ho,hd⟩:=I.cell x c e
 obtain ⟨m,⟨o',es,ep,ho',hd',_⟩,_⟩:=I.loc
 rw [z,ho'] at ho;cases ho;rw [hd'] at hd;cases hd
theorem Inv.funs (I:Inv X pins σ H s):s.heap.FunFrames X.base X.outer:=by
 have all:∀ (l:List Env),(∀ b∈frs l,b∈X.fs)->X.s₀.heap.FunFrames X.base l->s.heap.FunFrames X.base l:=by
  intro l
  induction l with
  | nil=>intro _ _;trivial
  | cons env r ih =>
   intro hs hl
   obtain ⟨hk,⟨L,o,hf,hn,ho,hd⟩,hr⟩:=hl
   have hL:L∈X.fs:=hs L (by unfold frs;rw [List.filterMap_cons,hf];exact mem_cons_self)
   obtain ⟨sl,e⟩:=I.base.slot L o ho (I.ok.frf L hL) hL fun z=>I.ok.exfs L z hL
   exact ⟨hk,⟨L,_,hf,hn,e,hd⟩,ih (fun b hb=>hs b (by unfold frs;rw [List.filterMap_cons,hf];exact mem_cons_of_mem _ hb)) hr⟩
 exact all X.outer (fun _ hb=>hb) I.ok.funs
theorem Inv.stack (I:Inv X pins σ H s):s.heap.FunFrames X.base X.stack:=by
 rcases I.ok.stk with e|⟨e,hf⟩
 .rw [e];exact I.funs
 .rw [e]
  obtain ⟨m,hn,_⟩:=I.loc
  refine .cons (by rw [I.ok.kind];decide) hf hn ?_ I.funs
  exact Heap.get?_none_of_le (Nat.le_trans I.ok.bsz I.ok.above)
theorem Inv.stkSub (I:Inv X pins σ H s):∀ b∈frs X.stack,b∈X.env.locals::X.fs:=fun b hb=>by
 rcases I.ok.stk with e|⟨e,hf⟩
 .rw [e] at hb;exact mem_cons_of_mem _ hb
 .rw [e] at hb
  unfold frs at hb
  rw [List.filterMap_cons,hf] at hb
  exact hb
theorem Inv.stkFree (I:Inv X pins σ H s):∀ b∈frs X.stack,H b=none:=fun b hb=>by
 rcases mem_cons.mp (I.stkSub b hb) with e|hb
 .rw [e];exact I.free
 .obtain ⟨_,o,ho,_⟩:=I.ok.funs.mem hb
  exact I.base.free b o ho (I.ok.frf b hb) fun z=>I.ok.exfs b z hb
theorem Inv.step {g':Array GenState}{t':Nat}{d':Drawn}{ch:List Addr}(I:Inv X pins σ H s)
  (hch:∀ b∈ch,(b∈X.ex\/X.s₀.heap.objs.size<=b)/\b≠X.env.locals/\(∀ x c,X.env.cells.lookup x=some c->c≠b)/\∀ p∈X.pn++pins,p.1≠b)
  (keep:∀ b o,b≠X.env.locals->b∉X.fs->b∉ch->s.heap.get? b=some o->H b=none->h'.get? b=some o)
  (slot:∀ b o,b≠X.env.locals->b∈X.fs->b∉ch->s.heap.get? b=some o->H b=none->∃ sl,h'.get? b=some { o with slots:=sl }) (free:∀ b o,b∉ch->s.heap.get? b=some o->H b=none->H' b=none)
  (there:∀ b o,b∉ch->s.heap.get? b=some o->∃ o',h'.get? b=some o')
  (tups:∀ b xs,H b=some (.tup xs)->H' b=some (.tup xs)) (frzs:∀ b o u,H b=some (.frz o u)->H' b=some (.frz o u)) (tbls:∀ b ps,H b=some (.tbl ps)->∃ more,H' b=some (.tbl (ps++more)))
  (ns:∀ m,s.heap.Ns X.env.locals m->h'.Ns X.env.locals m) (hok:HOk X.prog X.w H' h') (hg:AllBare g') :
  Inv X pins σ H' { s with heap:=h',gens:=g',drawn:=d',toks:=t' }:=by
 have neL:∀ b o,X.s₀.heap.get? b=some o->b≠X.env.locals:=fun b o e=>ne_of_lt (lt_of_lt_of_le (Heap.lt_size e) I.ok.above)
 have neC:∀ b o,X.s₀.heap.get? b=some o->b∉X.ex->b∉ch:=fun b o e hx hb=>by
  rcases (hch b hb).1 with z|z
  .exact hx z
  .exact absurd (lt_of_lt_of_le (Heap.lt_size e) z) (lt_irrefl _)
 have cellK:∀ x c,X.env.cells.lookup x=some c->∀ v,s.heap.IsCell c v->h'.IsCell c v:=fun x c e v ⟨o,ho,hd⟩=>by
  have nch:c∉ch:=fun z=>(hch c z).2.2.1 x c e rfl
  by_cases hc:c∈X.fs
  .obtain ⟨sl,q⟩:=slot c o (I.cne x c e) hc nch ho (I.freeC x c e)
   exact ⟨_,q,hd⟩
  .exact ⟨o,keep c o (I.cne x c e) hc nch ho (I.freeC x c e),hd⟩
 refine ⟨I.ok,I.os,hg,⟨fun b o e n hb hx=>?_,fun b o e n hb hx=>?_,fun b o e n hx=>?_,fun b o e hx=>?_,fun b xs e=>tups b xs (I.base.tups b xs e),fun b o xs e=>frzs b o xs (I.base.frzs b o xs e),fun b ps e=>?_⟩,?_,fun x c e=>?_,?_,fun x c e=>?_,fun p hp=>?_,hok,I.len⟩
 .exact keep b o (neL b o e) hb (neC b o e hx) (I.base.keep b o e n hb hx) (I.base.free b o e n hx)
 .obtain ⟨sl,e1⟩:=I.base.slot b o e n hb hx
  obtain ⟨sl',e2⟩:=slot b _ (neL b o e) hb (neC b o e hx) e1 (I.base.free b o e n hx)
  exact ⟨sl',e2⟩
 .obtain ⟨o',e1⟩:=I.base.there b o e hx
  exact free b o' (neC b o e hx) e1 (I.base.free b o e n hx)
 .obtain ⟨o',e1⟩:=I.base.there b o e hx
  exact there b o' (neC b o e hx) e1
 .obtain ⟨m1,e1⟩:=I.base.tbls b ps e
  obtain ⟨m2,e2⟩:=tbls b _ e1
  exact ⟨m1++m2,by rw [e2,Array.append_assoc]⟩
 .obtain ⟨m,hn,hl⟩:=I.loc
  refine ⟨m,ns m hn,fun i x v e1 e2 e3=>?_⟩
  obtain ⟨u,r,l⟩:=hl i x v e1 e2 e3
  refine ⟨u,r,?_⟩
  rcases l with l|⟨k,c,e,z⟩
  .exact .inl l
  .exact .inr ⟨k,c,e,cellK x c e _ z⟩
 .obtain ⟨v,z⟩:=I.cell x c e
  exact ⟨v,cellK x c e v z⟩
 .obtain ⟨m,⟨o,_,_,ho,_⟩,_⟩:=I.loc
  exact free _ o (fun z=>(hch _ z).2.1 rfl) ho I.free
 .obtain ⟨v,o,ho,hd⟩:=I.cell x c e
  exact free c o (fun z=>(hch c z).2.2.1 x c e rfl) ho (I.freeC x c e)
 .obtain ⟨e,n,ne,nf,d⟩:=I.pin p hp
  have nch:p.1∉ch:=fun z=>(hch p.1 z).2.2.2 p hp rfl
  exact ⟨keep p.1 p.2 ne nf nch e n,free p.1 p.2 nch e n,ne,nf,d⟩
theorem Inv.un {t':Nat}(I:Inv X pins σ H s) (u:Un X.fs [] H H' s.heap h') (hok:HOk X.prog X.w H' h'):Inv X pins σ H' { s with heap:=h',toks:=t' }:=by
 obtain ⟨m,⟨o,es,ep,ho,r⟩,_⟩:=id I.loc
 obtain ⟨sl,hL⟩:=u.any ho I.free (by simp)
 exact I.step (g':=s.gens) (d':=s.drawn) (ch:=[]) (fun _ z=>nomatch z) (fun b o _ hb _ e n=>u.keep b o e n hb (by simp)) (fun b o _ hb _ e n=>u.slot b o e n hb (by simp)) (fun b o _ e n=>u.free b o e n (by simp)) (fun b o _ e=>u.there b o e (by simp)) u.tups u.frzs u.tbls (fun m' hm=>by
  obtain ⟨o',es',ep',ho',r'⟩:=hm
  rw [ho] at ho';cases ho'
  exact ⟨_,es',ep',hL,r'⟩) hok I.bare
theorem Inv.call {g':Array GenState}{t':Nat}{d':Drawn}{ch:List Addr}(I:Inv X pins σ H s) (u:Un (frs X.stack) ch H H' s.heap h') (hok:HOk X.prog X.w H' h') (hg:AllBare g')
  (hch:∀ b∈ch,(b∈X.ex\/X.s₀.heap.objs.size<=b)/\b≠X.env.locals/\(∀ x c,X.env.cells.lookup x=some c->c≠b)/\∀ p∈X.pn++pins,p.1≠b) :
  Inv X pins σ H' { s with heap:=h',gens:=g',drawn:=d',toks:=t' }:=by
 obtain ⟨m,⟨o,es,ep,ho,r⟩,_⟩:=id I.loc
 obtain ⟨sl,hL⟩:=u.any ho I.free fun z=>(hch _ z).2.1 rfl
 exact I.step (ch:=ch) hch (fun b o hL hb hc e n=>u.keep b o e n (fun z=>(mem_cons.mp (I.stkSub b z)).elim hL hb) hc) (fun b o _ _ hc e n=>u.any e n hc) (fun b o hc e n=>u.free b o e n hc) (fun b o hc e=>u.there b o e hc) u.tups u.frzs u.tbls (fun m' hm=>by
  obtain ⟨o',es',ep',ho',r'⟩:=hm
  rw [ho] at ho';cases ho'
  exact ⟨_,es',ep',hL,r'⟩) hok hg
theorem Inv.turned {t':Nat}{it:Addr}(I:Inv X pins σ H s) (k:∀ b o,b≠it->s.heap.get? b=some o->h'.get? b=some o) (hn:H it=none) (hL:it≠X.env.locals)
  (h1:it∈X.ex\/X.s₀.heap.objs.size<=it) (h2:∀ x c,X.env.cells.lookup x=some c->c≠it) (h3:∀ p∈X.pn++pins,p.1≠it):Inv X pins σ H { s with heap:=h',toks:=t' }:=by
 have nit:∀ b u,H b=some u->b≠it:=fun b u e z=>by rw [z,hn] at e;cases e
 refine I.step (g':=s.gens) (d':=s.drawn) (ch:=[it]) (fun b hb=>?_) (fun b o _ _ hc e _=>k b o (fun z=>hc (by simp [z])) e) (fun b o _ _ hc e _=>⟨o.slots,k b o (fun z=>hc (by simp [z])) e⟩) (fun _ _ _ _ n=>n)
  (fun b o hc e=>⟨o,k b o (fun z=>hc (by simp [z])) e⟩) (fun _ _ e=>e) (fun _ _ _ e=>e) (fun b ps e=>⟨#[],by rw [e];simp⟩) (fun m hm=>?_) (fun b u e=>?_) I.bare
 .have e:b=it:=by simpa using hb
  subst e
  exact ⟨h1,hL,h2,h3⟩
 .obtain ⟨o,es,ep,ho,r⟩:=hm
  exact ⟨o,es,ep,k _ o (Ne.symm hL) ho,r⟩
 .refine (I.hok b u e).stay (fun c v hc q=>k c v ?_ q) (fun _ q=>q) fun _ _ q=>q
  rcases hc with z|z
  .rw [z];exact nit b u e
  .exact nit c _ z
theorem Inv.tok (I:Inv X pins σ H s) (t:Nat):Inv X pins σ H { s with toks:=t }:=I.un (h':=s.heap) (t':=t) Un.refl I.hok
theorem Inv.kept {t':Nat}(I:Inv X pins σ H s) (k:∀ b u,s.heap.get? b=some u->h'.get? b=some u):Inv X pins σ H { s with heap:=h',toks:=t' }:=I.un (Un.kept k) (I.hok.kept k)
theorem Inv.laid {a:Addr}{o:HO}{t':Nat}(I:Inv X pins σ H s) (k:∀ b u,s.heap.get? b=some u->h'.get? b=some u) (hp:s.heap.objs.size<=a) (new:ObjOk X.prog X.w (upd H a o) h' a o) :
  Inv X pins σ (upd H a o) { s with heap:=h',toks:=t' }:=I.un (Un.laid k hp (I.hok.fresh hp)) (I.hok.laid k hp new)
theorem Inv.write {x e:Addr}{o:HO}{t':Nat}(I:Inv X pins σ H s) (mu:Mut (H x)) (he:e=x\/H e=some (.own x)) (k:∀ b u,b≠e->s.heap.get? b=some u->h'.get? b=some u) (heo:∃ u,h'.get? e=some u)
  (new:ObjOk X.prog X.w (upd H x o) h' x o):Inv X pins σ (upd H x o) { s with heap:=h',toks:=t' }:=I.un (Un.write mu he k heo) (I.hok.write mu he k heo new)
theorem Inv.pins_of {pins':List (Addr×Obj)}(I:Inv X pins σ H s) (h:∀ p∈pins',s.heap.get? p.1=some p.2/\H p.1=none/\p.1≠X.env.locals/\p.1∉X.fs/\∀ v,p.2.data≠.cell v):Inv X pins' σ H s :=
 ⟨I.ok,I.os,I.bare,I.base,I.loc,I.cell,I.free,I.freeC,fun p hp=>(List.mem_append.mp hp).elim (fun z=>I.pin p (mem_append_left _ z)) (h p),I.hok,I.len⟩
theorem yin {N:List Str}(hN:N.Nodup) {i j:Nat}{x:Str}(a:N[i]?=some x) (b:N[j]?=some x):i=j:=by
 obtain ⟨h1,e1⟩:=List.getElem?_eq_some_iff.mp a
 obtain ⟨h2,e2⟩:=List.getElem?_eq_some_iff.mp b
 exact (List.getElem_inj hN).mp (e1.trans e2.symm)
theorem yos {M:Model}{A:Around}{E:Value->Shared->Prop}{i:Nat}{x:Str}{v:V}{u:Value}{Q:Unit->Shared->Prop}(I:Inv X pins σ H s) (hN:X.N.Nodup) (hi:X.N[i]?=some x) (hx:Loc X.env.scope x) (r:RelV v u)
  (h:∀ s',Inv X pins (σ.set i (some v)) H s'->(∃ a,Heap.SameBut a s.heap s'.heap/\(a=X.env.locals\/X.env.cells.lookup x=some a))->Q () s') (hf:X.fn x=true\/X.env.scope.names.lookup x=some .local:=by first|exact .inl rfl|exact .inr rfl|assumption):wpAny M A (storeName X.env x u) Q E s:=by
 obtain ⟨m,hn,hl⟩:=id I.loc
 have hcls:(X.env.scope.kind == .class || (X.env.scope.kind == .module && X.env.locals != X.env.globals))=false:=by rw [I.ok.kind];rfl
 have hiσ:i<σ.length:=by rw [I.len];exact (List.getElem?_eq_some_iff.mp hi).1
 have cne:=I.cne
 have tracked:∀ {a:Addr}{h':Heap},(∃ o,s.heap.get? a=some o/\H a=none)->Heap.SameBut a s.heap h'->HOk X.prog X.w H h':=fun {a h'} ha hs b ob e=>by
  obtain ⟨_,_,hfree⟩:=ha
  refine (I.hok b ob e).stay (fun c w' hc q=>(hs.2 c ?_).trans q) (fun _ q=>q) fun _ _ q=>q
  rintro rfl
  rcases hc with rfl|hc
  .rw [hfree] at e;cases e
  .rw [hfree] at hc;cases hc
 rcases hx with hk|hk
 .refine wpAny_storeName_local hk hn (fun h' hn' hs=>?_) hcls
  obtain ⟨oL,_,_,hoL,_⟩:=id hn
  refine h _ ⟨I.ok,I.os,I.bare,⟨fun b o e n hb hx=>?_,fun b o e n hb hx=>?_,I.base.free,fun b o e hx=>?_,I.base.tups,I.base.frzs,I.base.tbls⟩,⟨_,hn',fun j y v' e1 e2 e3=>?_⟩,fun y c e=>?_,I.free,I.freeC,fun p hp=>?_,tracked ⟨oL,hoL,I.free⟩ hs,by simpa using I.len⟩ ⟨_,hs,.inl rfl⟩
  .exact (hs.2 b (ne_of_lt (lt_of_lt_of_le (Heap.lt_size e) I.ok.above))).trans (I.base.keep b o e n hb hx)
  .obtain ⟨sl,e1⟩:=I.base.slot b o e n hb hx
   exact ⟨sl,(hs.2 b (ne_of_lt (lt_of_lt_of_le (Heap.lt_size e) I.ok.above))).trans e1⟩
  .obtain ⟨o',e1⟩:=I.base.there b o e hx
   exact ⟨o',(hs.2 b (ne_of_lt (lt_of_lt_of_le (Heap.lt_size e) I.ok.above))).trans e1⟩
  .by_cases hj:j=i
   .subst hj
    rw [hi] at e1;cases e1
    rw [getElem?_set_self hiσ] at e2
    cases e2
    exact ⟨u,r,.inl ⟨hk,by simp⟩⟩
   .rw [getElem?_set_ne (Ne.symm hj)] at e2
    obtain ⟨u',r',q⟩:=hl j y v' e1 e2 e3
    refine ⟨u',r',?_⟩
    rcases q with ⟨k,e⟩|⟨k,c,e,z⟩
    .refine .inl ⟨k,?_⟩
     have:y≠x:=fun e=>hj (yin hN e1 (e ▸ hi))
     simp [this,e]
    .exact .inr ⟨k,c,e,z.sameBut hs (cne y c e)⟩
  .obtain ⟨w',z⟩:=I.cell y c e
   exact ⟨w',z.sameBut hs (cne y c e)⟩
  .obtain ⟨e,n,ne,nf,d⟩:=I.pin p hp
   exact ⟨(hs.2 p.1 ne).trans e,n,ne,nf,d⟩
 .have hfn:X.fn x=true:=by
   rcases hf with z|z
   .exact z
   .rw [z] at hk;cases hk
  obtain ⟨c,hc⟩:=I.ok.has x (.inl hk)
  obtain ⟨w',z⟩:=I.cell x c hc
  refine wpAny_storeName_cell I.ok.kind hk hc z (fun h' hc' hs=>?_)
  obtain ⟨oc,hoc,hocd⟩:=id z
  refine h { s with heap:=h' } ⟨I.ok,I.os,I.bare,⟨fun b o e n hb hx=>?_,fun b o e n hb hx=>?_,I.base.free,fun b o e hx=>?_,I.base.tups,I.base.frzs,I.base.tbls⟩,⟨m,hn.sameBut hs (Ne.symm (cne x c hc)),fun j y v' e1 e2 e3=>?_⟩,fun y c' e=>?_,I.free,I.freeC,fun p hp=>?_,tracked ⟨oc,hoc,I.freeC x c hc⟩ hs,by simpa using I.len⟩ ⟨c,hs,.inr hc⟩
  .exact (hs.2 b (ne_of_lt (lt_of_lt_of_le (Heap.lt_size e) (I.ok.cab x c hfn hc)))).trans (I.base.keep b o e n hb hx)
  .obtain ⟨sl,e1⟩:=I.base.slot b o e n hb hx
   exact ⟨sl,(hs.2 b (ne_of_lt (lt_of_lt_of_le (Heap.lt_size e) (I.ok.cab x c hfn hc)))).trans e1⟩
  .obtain ⟨o',e1⟩:=I.base.there b o e hx
   exact ⟨o',(hs.2 b (ne_of_lt (lt_of_lt_of_le (Heap.lt_size e) (I.ok.cab x c hfn hc)))).trans e1⟩
  .by_cases hj:j=i
   .subst hj
    rw [hi] at e1;cases e1
    rw [getElem?_set_self hiσ] at e2
    cases e2
    exact ⟨u,r,.inr ⟨.inl hk,c,hc,hc'⟩⟩
   .rw [getElem?_set_ne (Ne.symm hj)] at e2
    obtain ⟨u',r',q⟩:=hl j y v' e1 e2 e3
    refine ⟨u',r',?_⟩
    rcases q with q|⟨k,c',e,z'⟩
    .exact .inl q
    .refine .inr ⟨k,c',e,z'.sameBut hs ?_⟩
     rintro rfl
     exact hj (yin hN e1 (I.ok.inj _ _ _ e hc ▸ hi))
  .by_cases hcc:c'=c
   .subst hcc;exact ⟨_,hc'⟩
   .obtain ⟨w2,z2⟩:=I.cell y c' e
    exact ⟨w2,z2.sameBut hs hcc⟩
  .obtain ⟨e,n,ne,nf,d⟩:=I.pin p hp
   refine ⟨(hs.2 p.1 ?_).trans e,n,ne,nf,d⟩
   intro q
   rw [q,hoc] at e
   have q':oc=p.2:=Option.some.inj e
   exact d w' (by rw [<- q'];exact hocd)
theorem yio {M:Model}{A:Around}{E:Value->Shared->Prop}{i:Nat}{x:Str}{v:V}{u:Value}{Q:Unit->Shared->Prop}(I:Inv X pins σ H s) (hN:X.N.Nodup) (hi:X.N[i]?=some x) (hx:Loc X.env.scope x) (r:RelV v u)
  (h:∀ s',Inv X pins (σ.set i (some v)) H s'->Q () s') (hf:X.fn x=true\/X.env.scope.names.lookup x=some .local:=by first|exact .inl rfl|exact .inr rfl|assumption):wpAny M A (storeName X.env x u) Q E s :=
 yos I hN hi hx r (fun s' I' _=>h s' I') hf
theorem Inv.call' {s':Shared}{ch:List Addr}(I:Inv X pins σ H s) (ho:s'.os=s.os) (u:Un (frs X.stack) ch H H' s.heap s'.heap) (hok:HOk X.prog X.w H' s'.heap) (hg:AllBare s'.gens)
  (hch:∀ b∈ch,(b∈X.ex\/X.s₀.heap.objs.size<=b)/\b≠X.env.locals/\(∀ x c,X.env.cells.lookup x=some c->c≠b)/\∀ p∈X.pn++pins,p.1≠b):Inv X pins σ H' s':=by
 obtain ⟨h',g',d',t',o'⟩:=s'
 have e:o'=s.os:=ho
 subst e
 exact I.call (g':=g') (t':=t') (d':=d') u hok hg hch
end
abbrev XK:=Value->Option Addr->Hp->Prop
abbrev St:=List (Option V)
abbrev VK:=V->Hp->Prop
abbrev TE:=St->Hp->VK->Prop
abbrev TT:=St->Hp->(Bool->Hp->Prop)->Prop
abbrev TA:=St->Hp->(List V->Hp->Prop)->Prop
structure Ends where
 nx:St->Hp->Prop
 rt:VK
 bk:St->Hp->Prop:=fun _ _=>False
 ct:St->Hp->Prop:=fun _ _=>False
abbrev TS:=Ends->St->Hp->Prop
def EP (X:Cx) (pins:List (Addr×Obj)) (σ:St) (Q:VK) (u:Value) (s':Shared):Prop:=∃ v H',Inv X pins σ H' s'/\RelV v u/\Q v H'
noncomputable def TP (X:Cx) (pins:List (Addr×Obj)) (σ:St) (Q:Bool->Hp->Prop) (b:Bool) (s':Shared):Prop:=∃ H',Inv X pins σ H' s'/\Q b H'
def AP (X:Cx) (pins:List (Addr×Obj)) (σ:St) (Q:List V->Hp->Prop) (us:List Value) (s':Shared):Prop:=∃ vs H',Inv X pins σ H' s'/\Vals vs us/\Q vs H'
def SP (X:Cx) (pins:List (Addr×Obj)) (D:Ends) (f:Flow) (s':Shared):Prop :=
 match f with
 | .next=>∃ σ' H',Inv X pins σ' H' s'/\D.nx σ' H'
 | .brk=>∃ σ' H',Inv X pins σ' H' s'/\D.bk σ' H'
 | .cont=>∃ σ' H',Inv X pins σ' H' s'/\D.ct σ' H'
 | .ret u=>∃ v σ' H',Inv X pins σ' H' s'/\RelV v u/\D.rt v H'
def PE (X:Cx) (e:Expr) (t:TE):Prop :=
 ∀ (pins:List (Addr×Obj)) (s:Shared) (σ:St) (H:Hp) (Q:VK),Inv X pins σ H s->t σ H Q->wpAny (model X.prog X.w) X.A (eval e X.env) (EP X pins σ Q) X.xe s
def PT (X:Cx) (e:Expr) (t:TT):Prop :=
 ∀ (pins:List (Addr×Obj)) (s:Shared) (σ:St) (H:Hp) (Q:Bool->Hp->Prop),Inv X pins σ H s->t σ H Q->wpAny (model X.prog X.w) X.A (isTrue e X.env (eval e X.env)) (TP X pins σ Q) X.xe s
def PW (X:Cx) (e:Expr) (t:TT):Prop :=
 ∀ (whole:Sem Value) (pins:List (Addr×Obj)) (s:Shared) (σ:St) (H:Hp) (Q:Bool->Hp->Prop),Inv X pins σ H s->t σ H Q->wpAny (model X.prog X.w) X.A (isTrue e X.env whole) (TP X pins σ Q) X.xe s
theorem PW.pt {X:Cx}{e:Expr}{t:TT}(h:PW X e t):PT X e t:=h _
def PA (X:Cx) (es:List Expr) (t:TA):Prop :=
 ∀ (pos:Pos) (pins:List (Addr×Obj)) (s:Shared) (σ:St) (H:Hp) (Q:List V->Hp->Prop),Inv X pins σ H s->t σ H Q->wpAny (model X.prog X.w) X.A (spliced (backTo pos (starEach es X.env))) (AP X pins σ Q) X.xe s
def PS (X:Cx) (st:Stmt) (t:TS):Prop :=
 ∀ (pins:List (Addr×Obj)) (s:Shared) (σ:St) (H:Hp) (D:Ends),Inv X pins σ H s->t D σ H->wpAny (model X.prog X.w) X.A (exec st X.env) (SP X pins D) X.xe s
def PSs (X:Cx) (st:List Stmt) (t:TS):Prop :=
 ∀ (pins:List (Addr×Obj)) (s:Shared) (σ:St) (H:Hp) (D:Ends),Inv X pins σ H s->t D σ H->wpAny (model X.prog X.w) X.A (execs st X.env) (SP X pins D) X.xe s
theorem thn {α:Type}{t:Sem α}{Q Q':α->Shared->Prop}{M:Model}{A:Around}{E:Value->Shared->Prop}{s:Shared}(h:wpAny M A t Q E s) (hQ:∀ a s,Q a s->Q' a s):wpAny M A t Q' E s:=wpAny_mono h hQ fun _ _ x=>x
end L2
namespace L2
open PySem PySem.Spec PyProof.Rows
section
variable {X:Cx}
def yol (i:Nat):TE:=fun σ H Q=>∃ v,σ[i]?=some (some v)/\Q v H
def tC (v:V):TE:=fun _ H Q=>Q v H
theorem yhR {i:Nat}{x:Str}{pos:Pos}(hN:X.N[i]?=some x) (hv:Vis X.env.scope x) (hd:(x == ("__debug__":Str))=false:=by decide) (hcd:(x == ("__classdict__":Str))=false:=by decide):PE X (.Name x pos) (yol i):=by
 intro pins s σ H Q I h
 obtain ⟨v,e,h⟩:=h
 obtain ⟨m,hn,hl⟩:=I.loc
 obtain ⟨u,r,l⟩:=hl i x v hN e hv
 have fin:EP X pins σ Q u s:=⟨v,H,I,r,h⟩
 rcases l with ⟨hk,hm⟩|⟨hk,c,hc,hcell⟩
 .exact wpAny_Name (wpAny_loadName_local I.ok.kind hk hn hm fin) hd
 .rcases hk with hk|hk
  .exact wpAny_Name (wpAny_loadName_cell I.ok.kind hk hc hcell fin) hd
  .exact wpAny_Name (wpAny_loadName_free I.ok.kind hk hc hcell fin hcd) hd
theorem yxN {i j pos}:PE X (.Constant (.int i) j pos) (tC (.int i)):=fun _ _ _ H _ I h=>wpAny_Constant_int ⟨.int i,H,I.tok _,⟨_,rfl⟩,h⟩
theorem yBx {b j pos}:PE X (.Constant (.bool b) j pos) (tC (.bl b)):=fun _ _ _ H _ I h=>Constant_bool ⟨.bl b,H,I,rfl,h⟩
theorem yxO {j pos}:PE X (.Constant .none j pos) (tC .non):=fun _ _ _ H _ I h=>Constant_none ⟨.non,H,I,rfl,h⟩
theorem ytH {x j pos}:PE X (.Constant (.str x) j pos) (tC (.str x)):=fun _ _ _ H _ I h=>Calls.Constant_str ⟨.str x,H,I.tok _,⟨_,rfl⟩,h⟩
def Gl (X:Cx) (x:Str):Prop:=X.env.kindOf x=some .globalImplicit
theorem yeo {E:Value->Shared->Prop}{pins:List (Addr×Obj)}{s:Shared}{σ:St}{H:Hp}{x:Str}{u:Value}{pos:Pos}{Q:Value->Shared->Prop}(I:Inv X pins σ H s) (hg:Gl X x) (hm:X.mg x=some u) (h:Q u s)
  (hd:(x == ("__debug__":Str))=false:=by decide):wpAny (model X.prog X.w) X.A (eval (.Name x pos) X.env) Q E s :=
 Calls.Name_function_global I.ok.kind hg (Calls.loadGlobal_global (by rw [I.ok.glob];exact I.mod.glob.keeps I.bk) hm h) hd
theorem yju {E:Value->Shared->Prop}{pins:List (Addr×Obj)}{s:Shared}{σ:St}{H:Hp}{x:Str}{u:Value}{pos:Pos}{Q:Value->Shared->Prop}(I:Inv X pins σ H s) (hg:Gl X x) (hm:X.mg x=none) (hv:bootBuiltins x=some u) (h:Q u s)
  (hn:x≠"__name__":=by decide) (hd:(x == ("__debug__":Str))=false:=by decide):wpAny (model X.prog X.w) X.A (eval (.Name x pos) X.env) Q E s:=by
 obtain ⟨mb,h1,h2⟩:=I.mod.blt
 exact Calls.Name_function_global I.ok.kind hg (Calls.loadGlobal_builtin (by rw [I.ok.glob];exact I.mod.glob.keeps I.bk) hm (by rw [I.ok.blt];exact h1.keeps I.bk) ((h2 x hn).trans hv) h) hd
theorem yip {x:Str}{v:V}{u:Value}{pos:Pos}(hg:Gl X x) (hm:X.mg x=some u) (r:RelV v u) (hd:(x == ("__debug__":Str))=false:=by decide):PE X (.Name x pos) (tC v) :=
 fun _ _ _ H _ I h=>yeo I hg hm ⟨v,H,I,r,h⟩ hd
theorem yuW {x:Str}{v:V}{u:Value}{pos:Pos}(hg:Gl X x) (hm:X.mg x=none) (hv:bootBuiltins x=some u) (r:RelV v u) (hn:x≠"__name__":=by decide) (hd:(x == ("__debug__":Str))=false:=by decide):PE X (.Name x pos) (tC v) :=
 fun _ _ _ H _ I h=>yju I hg hm hv ⟨v,H,I,r,h⟩ hn hd
variable {a b:Expr}{ta tb:TE}{pos:Pos}
def PC (X:Cx) (op:CmpOp) (a b:Expr) (t:TE):Prop :=
 ∀ (pins:List (Addr×Obj)) (s:Shared) (σ:St) (H:Hp) (Q:VK),Inv X pins σ H s->t σ H Q ->
  wpAny (model X.prog X.w) X.A (eval a X.env) (fun v s₁=>wpAny (model X.prog X.w) X.A (eval b X.env) (fun u s₂=>wpAny (model X.prog X.w) X.A (compareOp op v u) (EP X pins σ Q) X.xe s₂) X.xe s₁) X.xe s
theorem yrr (b:Expr) {op:CmpOp}(h:op≠.In) (h2:op≠.NotIn):behindInMarks op b=false:=by
 have e1:(op == CmpOp.In)=false:=by cases op<;>first|rfl|exact absurd rfl h
 have e2:(op == CmpOp.NotIn)=false:=by cases op<;>first|rfl|exact absurd rfl h2
 cases b<;>simp [behindInMarks,e1,e2]
def tB (t:TE):TT:=fun σ H Q=>t σ H fun x H1=>∃ c,x=.bl c/\Q c H1
theorem yxP {op:CmpOp}{t:TE}(h:PC X op a b t) (h1:behindInMarks op b=false:=by first|exact yrr _ (by decide) (by decide)|rfl):PT X (.Compare a [op] [b] pos) (tB t):=by
 intro pins s σ H Q I hw
 refine wpAny_isTrue_Compare1 (thn (h pins s σ H _ I hw) fun v s1 h1=>thn h1 fun u s2 h2=>thn h2 fun c s3 ⟨x,H1,I1,r1,q1⟩=>?_) h1
 obtain ⟨d,rfl,q⟩:=q1
 cases r1
 exact wpAny_truthy_bool ⟨H1,I1,q⟩
theorem yxQ {e:Expr}{t:TE}(h:PE X e t) (he:∀ whole,isTrue e X.env whole=(do let v <- whole;standAt e.pos;holding [v] (truthy v)):=by intro _;rfl):PT X e (tB t):=by
 intro pins s σ H Q I hw
 refine isTrue_plain (thn (h pins s σ H _ I hw) fun v s1 ⟨x,H1,I1,r1,q1⟩=>?_) (he _)
 obtain ⟨d,rfl,q⟩:=q1
 cases r1
 exact wpAny_truthy_bool ⟨H1,I1,q⟩
variable {tA tB':TT}{rest:List Expr}
def yDG (t u:TT):TT:=fun σ H Q=>t σ H fun c H1=>if c=true then u σ H1 Q else Q false H1
def tOr (t u:TT):TT:=fun σ H Q=>t σ H fun c H1=>if c=true then Q true H1 else u σ H1 Q
def yBy (t:TT):TT:=fun σ H Q=>t σ H fun c H1=>Q (!c) H1
theorem yuX (ha:PT X a tA):PW X (.BoolOp .And [a] pos) tA:=by
 intro wh pins s σ H Q I h
 refine isTrue_and (thn (ha pins s σ H Q I h) fun c s1 e=>?_)
 cases c with
 | true=>exact isTrue_and_nil e
 | false=>exact e
theorem yxR (ha:PT X a tA):PW X (.BoolOp .Or [a] pos) tA:=by
 intro wh pins s σ H Q I h
 refine isTrue_or (thn (ha pins s σ H Q I h) fun c s1 e=>?_)
 cases c with
 | false=>exact isTrue_or_nil e
 | true=>exact e
theorem yxS (ha:PT X a tA) (hb:PW X (.BoolOp .And (b::rest) pos) tB'):PW X (.BoolOp .And (a::b::rest) pos) (yDG tA tB'):=by
 intro wh pins s σ H Q I h
 refine isTrue_and (thn (ha pins s σ H _ I h) fun c s1 ⟨H1,I1,q1⟩=>?_)
 cases c with
 | true=>exact hb wh pins s1 σ H1 Q I1 q1
 | false=>exact ⟨H1,I1,q1⟩
theorem yBz (ha:PT X a tA) (hb:PW X (.BoolOp .Or (b::rest) pos) tB'):PW X (.BoolOp .Or (a::b::rest) pos) (tOr tA tB'):=by
 intro wh pins s σ H Q I h
 refine isTrue_or (thn (ha pins s σ H _ I h) fun c s1 ⟨H1,I1,q1⟩=>?_)
 cases c with
 | true=>exact ⟨H1,I1,q1⟩
 | false=>exact hb wh pins s1 σ H1 Q I1 q1
theorem yxT (ha:PT X a tA):PT X (.UnaryOp .Not a pos) (yBy tA):=by
 intro pins s σ H Q I h
 exact isTrue_not (ha pins s σ H (fun c H1=>Q (!c) H1) I h)
def yxU (ta tb:TE):TE:=fun σ H Q=>ta σ H fun x H1=>∃ c,x=.bl c/\if c=true then tb σ H1 Q else Q (.bl false) H1
def yxV (ta:TE):TE:=fun σ H Q=>ta σ H fun x H1=>∃ c,x=.bl c/\Q (.bl (!c)) H1
theorem yxW {op} {t:TE}(h:PE X a t):PE X (.BoolOp op [a] pos) t:=fun pins s σ H Q I hw=>BoolOp_one (h pins s σ H Q I hw)
theorem yxX (ha:PE X a ta) (hb:PE X (.BoolOp .And (b::rest) pos) tb):PE X (.BoolOp .And (a::b::rest) pos) (yxU ta tb):=by
 intro pins s σ H Q I h
 refine BoolOp_and (thn (ha pins s σ H _ I h) fun v s1 ⟨x,H1,I1,r1,q1⟩=>?_)
 obtain ⟨c,rfl,q1⟩:=q1
 cases r1
 refine wpAny_truthy_bool ?_
 cases c with
 | true=>exact hb pins s1 σ H1 Q I1 q1
 | false=>exact ⟨.bl false,H1,I1,rfl,q1⟩
theorem yxY (ha:PE X a ta):PE X (.UnaryOp .Not a pos) (yxV ta):=by
 intro pins s σ H Q I h
 refine UnaryOp_ (thn (ha pins s σ H _ I h) fun v s1 ⟨x,H1,I1,r1,q1⟩=>?_)
 obtain ⟨c,rfl,q1⟩:=q1
 cases r1
 exact not_of (wpAny_truthy_bool ⟨.bl (!c),H1,I1,rfl,q1⟩)
def tIf (t:TT) (ta tb:TE):TE:=fun σ H Q=>t σ H fun c H1=>if c=true then ta σ H1 Q else tb σ H1 Q
theorem yrs {c:Expr}(hc:PT X c tA) (ha:PE X a ta) (hb:PE X b tb):PE X (.IfExp c a b pos) (tIf tA ta tb):=by
 intro pins s σ H Q I h
 refine wpAny_IfExp (thn (hc pins s σ H _ I h) fun d s1 ⟨H1,I1,q1⟩=>?_)
 cases d with
 | true=>exact ha pins s1 σ H1 Q I1 q1
 | false=>exact hb pins s1 σ H1 Q I1 q1
end
end L2
namespace L2
open PySem PySem.Spec PyProof.Rows
def SqL (K:PySem.W.Frag) (H:Hp) (a:Addr) (xs:List V):Prop :=
 Rd H a (.lst xs) \/
  ∃ (o:Obj) (its:Array Value) (n:Nat),K.lookup a=some o/\o.cls=.type "list"/\o.dict=none/\o.data=.seq its n/\its.size<=sizeLine/\Vals xs its.toList
def SqT (K:PySem.W.Frag) (H:Hp) (a:Addr) (xs:List V):Prop :=
 Rd H a (.tup xs) \/
  ∃ (o:Obj) (its:Array Value) (n:Nat),K.lookup a=some o/\o.cls=.type "tuple"/\o.data=.seq its n/\its.size<=sizeLine/\Vals xs its.toList
noncomputable def yEu:Value->Option V
 | .none=>some .non
 | .bool b=>some (.bl b)
 | .int i _=>some (.int i)
 | .str x _=>some (.str x)
 | .bytes b _=>some (.byt b)
 | .float b _=>some (.flt b)
 | .ref a=>some (.ref a)
 | .type n=>some (.ty n)
 | _=>none
theorem RelV.abs {x:V}{u:Value}(r:RelV x u):yEu u=some x:=by
 cases x with
 | non=>cases r;rfl
 | bl _=>cases r;rfl
 | int _=>obtain ⟨t,rfl⟩:=r;rfl
 | str _=>obtain ⟨t,rfl⟩:=r;rfl
 | byt _=>obtain ⟨t,rfl⟩:=r;rfl
 | flt _=>obtain ⟨t,rfl⟩:=r;rfl
 | ref _=>cases r;rfl
 | ty _=>cases r;rfl
theorem RelV.inj {x y:V}{u:Value}(r:RelV x u) (q:RelV y u):x=y:=Option.some.inj (r.abs.symm.trans q.abs)
theorem Vals.inj:∀ {xs ys:List V}{us:List Value},Vals xs us->Vals ys us->xs=ys
 | _,_,_,.nil,.nil=>rfl
 | _,_,_,.cons r t,.cons r' t'=>by rw [r.inj r',Vals.inj t t']
section
variable {X:Cx}{pins:List (Addr×Obj)}{σ:St}{H:Hp}{s:Shared}{a:Addr}{xs ys:List V}
theorem SqL.of {K:PySem.W.Frag}(h:H a=some (.lst xs)):SqL K H a xs:=.inl (.inl h)
theorem SqT.of {K:PySem.W.Frag}(h:H a=some (.tup xs)):SqT K H a xs:=.inl (.inl h)
theorem Inv.list (I:Inv X pins σ H s) (h:SqL X.K H a xs):∃ its:List Value,Vals xs its/\PlainL s.heap a its.toArray/\xs.length<=sizeLine:=by
 rcases h with h|⟨o,its,n,hk,hc,hd,hs,hz,r⟩
 .obtain ⟨z,its,n,r,e⟩:=h.ok I.hok
  exact ⟨its,r,⟨_,n,e,rfl,rfl,rfl⟩,z⟩
 .refine ⟨its.toList,r,⟨o,n,I.kIn a o hk,hc,hd,by simpa using hs⟩,?_⟩
  have e:=r.length
  simp only [Array.length_toList] at e
  omega
theorem Inv.tuple (I:Inv X pins σ H s) (h:SqT X.K H a xs):∃ its:List Value,Vals xs its/\IsTup s.heap a its.toArray/\xs.length<=sizeLine:=by
 rcases h with h|⟨o,its,n,hk,hc,hs,hz,r⟩
 .obtain ⟨z,its,r,p⟩:=h.ok I.hok
  exact ⟨its,r,p,z⟩
 .refine ⟨its.toList,r,⟨o,I.kIn a o hk,hc,n,by simpa using hs⟩,?_⟩
  have e:=r.length
  simp only [Array.length_toList] at e
  omega
theorem Inv.list_inj (I:Inv X pins σ H s) (h:SqL X.K H a xs) (h':SqL X.K H a ys):xs=ys:=by
 obtain ⟨its,r,⟨o,n,e,_,_,d⟩,_⟩:=I.list h
 obtain ⟨its',r',⟨o',n',e',_,_,d'⟩,_⟩:=I.list h'
 rw [e] at e';cases e'
 rw [d] at d'
 injection d' with d1 _
 have:its=its':=by simpa using congrArg Array.toList d1
 subst this
 exact r.inj r'
end
abbrev Cx.wish (X:Cx) (E:Value->Shared->Prop):Cx:={ X with xe:=E }
abbrev Cx.nox (X:Cx):Cx:=X.wish fun _ _=>False
theorem Cx.Ok.wish {X:Cx}(ok:X.Ok) (E:Value->Shared->Prop):(X.wish E).Ok :=
 ⟨ok.mod,ok.kind,ok.glob,ok.blt,ok.above,ok.inj,ok.has,ok.cab,ok.hd,ok.frames,ok.stk,ok.exf,ok.bs,ok.bsz,ok.noex,ok.exfs,ok.funs,ok.frf⟩
theorem Cx.Ok.unwish {X:Cx}{E:Value->Shared->Prop}(ok:(X.wish E).Ok):X.Ok :=
 ⟨ok.mod,ok.kind,ok.glob,ok.blt,ok.above,ok.inj,ok.has,ok.cab,ok.hd,ok.frames,ok.stk,ok.exf,ok.bs,ok.bsz,ok.noex,ok.exfs,ok.funs,ok.frf⟩
section
variable {X:Cx}{pins:List (Addr×Obj)}{σ:St}{H:Hp}{s:Shared}{E:Value->Shared->Prop}
theorem Inv.wish (I:Inv X pins σ H s) (E:Value->Shared->Prop):Inv (X.wish E) pins σ H s:=⟨I.ok.wish E,I.os,I.bare,I.base,I.loc,I.cell,I.free,I.freeC,I.pin,I.hok,I.len⟩
theorem Inv.unwish (I:Inv (X.wish E) pins σ H s):Inv X pins σ H s:=⟨I.ok.unwish,I.os,I.bare,I.base,I.loc,I.cell,I.free,I.freeC,I.pin,I.hok,I.len⟩
theorem SP.unwish {D:Ends}{f:Flow}{s':Shared}(h:SP (X.wish E) pins D f s'):SP X pins D f s':=by
 cases f with
 | next=>obtain ⟨σ',H',I,q⟩:=h;exact ⟨σ',H',I.unwish,q⟩
 | brk=>obtain ⟨σ',H',I,q⟩:=h;exact ⟨σ',H',I.unwish,q⟩
 | cont=>obtain ⟨σ',H',I,q⟩:=h;exact ⟨σ',H',I.unwish,q⟩
 | ret u=>obtain ⟨v,σ',H',I,r,q⟩:=h;exact ⟨v,σ',H',I.unwish,r,q⟩
theorem PSs.nox {st:List Stmt}{t:TS}(h:PSs X.nox st t):PSs X st t:=fun pins s σ H D I hw =>
 wpAny_mono (h pins s σ H D (I.wish _) hw) (fun _ _ q=>q.unwish) fun _ _ z=>False.elim z
end
section
variable {X:Cx}{st:Stmt}{rest:List Stmt}{t u:TS}{e:Expr}{te:TE}{pos:Pos}
def yxZ:TS:=fun D σ H=>D.nx σ H
def yBA (t u:TS):TS:=fun D σ H=>t { D with nx:=u D } σ H
theorem yot:PSs X [] yxZ:=fun _ _ σ H _ I h=>wpAny_execs_nil ⟨σ,H,I,h⟩
theorem ygA (h1:PS X st t) (h2:PSs X rest u):PSs X (st::rest) (yBA t u):=by
 intro pins s σ H D I h
 refine wpAny_execs_cons (thn (h1 pins s σ H { D with nx:=u D } I h) fun f s1 q=>?_)
 cases f with
 | next =>
  obtain ⟨σ',H',I',q⟩:=q
  exact h2 pins s1 σ' H' D I' q
 | ret v=>exact q
 | brk=>exact q
 | cont=>exact q
theorem you (h1:PS X st t):PSs X [st] t:=by
 intro pins s σ H D I h
 refine wpAny_execs_cons (thn (h1 pins s σ H D I h) fun f s1 q=>?_)
 cases f with
 | next=>exact wpAny_execs_nil q
 | ret v=>exact q
 | brk=>exact q
 | cont=>exact q
theorem Inv.quiet {pins:List (Addr×Obj)}{σ:St}{H:Hp}{s:Shared}(I:Inv X pins σ H s):interactive X.env=false:=by simp [interactive,I.ok.kind]
def yov (te:TE):TS:=fun D σ H=>te σ H fun _ H1=>D.nx σ H1
theorem yiq (he:PE X e te) (hs:swapsWith e none pos.line X.env=pure false:=by rfl):PS X (.Expr e pos) (yov te):=by
 intro pins s σ H D I h
 exact wpAny_Expr_any (thn (he pins s σ H _ I h) fun v s1 ⟨x,H1,I1,r1,q1⟩=>⟨σ,H1,I1,q1⟩) I.quiet hs
def yDH (te:TE):TS:=fun D σ H=>te σ H D.rt
theorem ytI (he:PE X e te):PS X (.Return (some e) pos) (yDH te):=by
 intro pins s σ H D I h
 exact wpAny_Return_some (thn (he pins s σ H _ I h) fun v s1 ⟨x,H1,I1,r1,q1⟩=>⟨x,σ,H1,I1,r1,q1⟩)
def yDI (c:TT) (t u:TS):TS:=fun D σ H=>c σ H fun b H1=>if b=true then t D σ H1 else u D σ H1
theorem yya {c:Expr}{a b:List Stmt}{tc:TT}(hc:PT X c tc) (ha:PSs X a t) (hb:PSs X b u):PS X (.If c a b pos) (yDI tc t u):=by
 intro pins s σ H D I h
 refine wpAny_If (thn (hc pins s σ H _ I h) fun d s1 ⟨H1,I1,q1⟩=>?_)
 cases d with
 | true=>exact ha pins s1 σ H1 D I1 q1
 | false=>exact hb pins s1 σ H1 D I1 q1
def yow:TS:=fun _ _ _=>False
theorem yrt:PS X st yow:=fun _ _ _ _ _ _ h=>h.elim
theorem yox {sts:List Stmt}:PSs X sts yow:=fun _ _ _ _ _ _ h=>h.elim
end
abbrev TG:=V->St->Hp->(St->Hp->Prop)->Prop
def PG (X:Cx) (target:Expr) (t:TG):Prop :=
 ∀ (pins:List (Addr×Obj)) (s:Shared) (σ:St) (H:Hp) (v:V) (u:Value) (Q:St->Hp->Prop),Inv X pins σ H s->RelV v u->t v σ H Q ->
  wpAny (model X.prog X.w) X.A (assign target X.env u) (fun _ s'=>∃ σ' H',Inv X pins σ' H' s'/\Q σ' H') X.xe s
abbrev yBB:=V->V->V->Hp->(Hp->Prop)->Prop
def yDJ (X:Cx) (t:yBB):Prop :=
 ∀ (pins:List (Addr×Obj)) (s:Shared) (σ:St) (H:Hp) (o i v:V) (ov iv u:Value) (Q:Hp->Prop),Inv X pins σ H s->RelV o ov->RelV i iv->RelV v u->t o i v H Q ->
  wpAny (model X.prog X.w) X.A (setItem ov iv u) (fun _ s'=>∃ H',Inv X pins σ H' s'/\Q H') X.xe s
section
variable {X:Cx}{pos:Pos}
def ynm (i:Nat):TG:=fun v σ H Q=>Q (σ.set i (some v)) H
theorem yir {i:Nat}{x:Str}(hN:X.N.Nodup) (hi:X.N[i]?=some x) (hx:Loc X.env.scope x) (hf:X.fn x=true\/X.env.scope.names.lookup x=some .local:=by first|exact .inl rfl|exact .inr rfl|assumption):PG X (.Name x pos) (ynm i):=by
 intro pins s σ H v u Q I r h
 exact wpAny_assign_Name (yio I hN hi hx r (fun s' I'=>⟨_,H,I',h⟩) hf)
def yDK (to ti:TE) (t:yBB):TG:=fun v σ H Q=>to σ H fun o H1=>ti σ H1 fun i H2=>t o i v H2 fun H3=>Q σ H3
theorem yyb {o i:Expr}{to ti:TE}{t:yBB}(ho:PE X o to) (hi:PE X i ti) (hs:yDJ X t)
  (ha:∀ v,assign (.Subscript o i pos) X.env v=(do
   let ov <- holding [v] (eval o X.env)
   let iv <- holding [v,ov] (eval i X.env)
   standAt pos
   holding [v,ov,iv] (setItem ov iv v)
   release [v,ov,iv] []):=by intro _;rfl):PG X (.Subscript o i pos) (yDK to ti t):=by
 intro pins s σ H v u Q I r h
 rw [ha]
 refine wpAny_bind (wpAny_holding (thn (ho pins s σ H _ I h) fun ov s1 ⟨x,H1,I1,r1,q1⟩=>?_))
 refine wpAny_bind (wpAny_holding (thn (hi pins s1 σ H1 _ I1 q1) fun iv s2 ⟨y,H2,I2,r2,q2⟩=>?_))
 refine wpAny_bind (wpAny_standAt (wpAny_bind (wpAny_holding (thn (hs pins s2 σ H2 x y v ov iv u _ I2 r1 r2 r q2) fun _ s3 ⟨H3,I3,q3⟩=>?_))))
 exact wpAny_release ⟨σ,H3,I3,q3⟩
def ytJ (te:TE) (g:TG):TS:=fun D σ H=>te σ H fun x H1=>g x σ H1 D.nx
theorem yyc {tg e:Expr}{te:TE}{g:TG}(he:PE X e te) (hg:PG X tg g) (hs:swapsWithSole [tg] e pos.line X.env=pure false:=by rfl) (hw:swappedStores [tg] e X.env=pure none:=by rfl)
  (h1:(assignEach [tg] X.env).map (·.2)=[assign tg X.env]:=by rfl):PS X (.Assign [tg] e pos) (ytJ te g):=by
 intro pins s σ H D I h
 refine wpAny_Assign_stores (thn (he pins s σ H _ I h) fun v s1 ⟨x,H1,I1,r1,q1⟩=>?_) hs hw
 rw [h1]
 exact thn (hg pins s1 σ H1 x v _ I1 r1 q1) fun _ s2 q=>q
theorem yoy {i:Nat}{x:Str}{e:Expr}{te:TE}{pos':Pos}(hN:X.N.Nodup) (hi:X.N[i]?=some x) (hx:Loc X.env.scope x) (he:PE X e te) (hs:swapsWith e (some (.Name x pos')) pos.line X.env=pure false:=by rfl) (hf:X.fn x=true\/X.env.scope.names.lookup x=some .local:=by first|exact .inl rfl|exact .inr rfl|assumption) :
  PS X (.Assign [.Name x pos'] e pos) (ytJ te (ynm i)):=by
 intro pins s σ H D I h
 refine wpAny_Assign_Name (thn (he pins s σ H _ I h) fun v s1 ⟨y,H1,I1,r1,q1⟩=>?_) hs
 exact yio I1 hN hi hx r1 (fun s2 I2=>⟨_,H1,I2,q1⟩) hf
end
section
variable {X:Cx}{pos:Pos}
noncomputable def ytK (c:TT) (tb:TS):TS:=fun D σ H=>∃ W:Nat->St->Hp->Prop,(∃ m,W m σ H)/\∀ m σ H,W m σ H ->
 c σ H fun b H1=>if b=true then ∃ N:St->Hp->Prop,(∀ σ' H',N σ' H'->∃ m',m'<m/\W m' σ' H')/\tb { D with nx:=N,ct:=N,bk:=D.nx } σ H1 else D.nx σ H1
theorem yru {c:Expr}{body:List Stmt}{tc:TT}{tb:TS}(hp:PassesOwn (model X.prog X.w) X.A X.env X.xe) (hc:PT X c tc) (hb:PSs X body tb):PS X (.While c body [] pos) (ytK tc tb):=by
 intro pins s σ H D I h
 obtain ⟨W,⟨m0,w0⟩,turn⟩:=h
 refine wpAny_While (codeAny_whileLoop (fun n s'=>∃ σ' H',Inv X pins σ' H' s'/\W n σ' H') ?_ m0 ⟨σ,H,I,w0⟩)
 rintro n s1 ⟨σ1,H1,I1,w1⟩
 refine wpAny_passesOwn hp (thn (hc pins s1 σ1 H1 _ I1 (turn n σ1 H1 w1)) fun b s2 ⟨H2,I2,q2⟩=>?_)
 cases b with
 | true =>
  obtain ⟨N,hN,q2⟩:=q2
  rw [if_pos rfl]
  refine wpAny_passesOwn hp (thn (hb pins s2 σ1 H2 _ I2 q2) fun f s3 q3=>?_)
  cases f with
  | next =>
   obtain ⟨σ3,H3,I3,n3⟩:=q3
   obtain ⟨m',hm,w3⟩:=hN σ3 H3 n3
   exact ⟨m',hm,σ3,H3,I3,w3⟩
  | cont =>
   obtain ⟨σ3,H3,I3,n3⟩:=q3
   obtain ⟨m',hm,w3⟩:=hN σ3 H3 n3
   exact ⟨m',hm,σ3,H3,I3,w3⟩
  | brk=>exact q3
  | ret v=>exact q3
 | false =>
  rw [if_neg Bool.false_ne_true]
  exact wpAny_execs_nil ⟨σ1,H2,I2,q2⟩
end
structure It where
 go:Nat->Hp->Prop
 yld:Nat->Hp->V->Hp->Prop
 stop:Nat->Hp->Prop
noncomputable def yoz (X:Cx) (pins:List (Addr×Obj)) (H:Hp) (b:Addr):Prop :=
 H b=none/\b≠X.env.locals/\b∉X.fs/\(b∈X.ex\/X.s₀.heap.objs.size<=b)/\(∀ x c,X.env.cells.lookup x=some c->c≠b)/\∀ p∈X.pn++pins,p.1≠b
theorem Inv.fpOk {X:Cx}{pins:List (Addr×Obj)}{σ:St}{H H':Hp}{s:Shared}{b:Addr}(I:Inv X pins σ H s) (hb:s.heap.objs.size<=b) (hn:H' b=none):yoz X pins H' b:=by
 refine ⟨hn,Nat.ne_of_gt (lt_of_lt_of_le I.lt hb),I.nofs hb,.inr (Nat.le_trans I.sz hb),fun x c e z=>?_,fun p hp z=>?_⟩
 .obtain ⟨v,q⟩:=I.cell x c e
  exact absurd (lt_of_lt_of_le q.lt (by rw [z];exact hb)) (lt_irrefl _)
 .exact absurd (lt_of_lt_of_le (Heap.lt_size (I.pin p hp).1) (by rw [z];exact hb)) (lt_irrefl _)
structure Turn (P:Program) (w:World) (K:PySem.W.Frag) (tg:Expr) (J:It) (fp:List Addr) (it:Addr) (tn:Nat->Heap->Prop):Prop where
 mem:it∈fp
 obj:∀ i h,tn i h->∀ b∈fp,∃ o,h.get? b=some o/\∀ v,o.data≠.cell v
 keep:∀ i h h',tn i h->(∀ b∈fp,∀ o,h.get? b=some o->h'.get? b=some o)->tn i h'
 item:∀ (X:Cx),X.prog=P->X.w=w->X.K=K->X.calm=true->∀ (i:Nat) (pins:List (Addr×Obj)) (s:Shared) (σ:St) (H:Hp) (E:Value->Shared->Prop),Inv X pins σ H s->(∀ b∈fp,yoz X pins H b)->tn i s.heap->J.go i H ->
  wpAny (model P w) X.A (pyNext (.ref it)) (fun r s1=>∃ u,r=some u /\
   wpAny (model P w) X.A (letOwnedTupleGo tg (.ref it) u) (fun _ s2=>∃ x H',Inv X pins σ H' s2/\RelV x u/\J.yld i H x H'/\tn (i+1) s2.heap/\∀ b∈fp,H' b=none) E s1) E s
 done:∀ (X:Cx),X.prog=P->X.w=w->X.K=K->X.calm=true->∀ (i:Nat) (pins:List (Addr×Obj)) (s:Shared) (σ:St) (H:Hp) (E:Value->Shared->Prop),Inv X pins σ H s->(∀ b∈fp,yoz X pins H b)->tn i s.heap->J.stop i H ->
  wpAny (model P w) X.A (pyNext (.ref it)) (fun r s1=>r=none/\Inv X pins σ H s1) E s
 self:∀ (A:Around) (i:Nat) (s:Shared) (Q:Value->Shared->Prop) (E:Value->Shared->Prop),tn i s.heap->Q (.ref it) s->wpAny (model P w) A (pyIter (.ref it)) Q E s
abbrev TI:=St->Hp->(It->Hp->Prop)->Prop
def PIE (X:Cx) (pins:List (Addr×Obj)) (σ:St) (tg:Expr) (R:It->Hp->Prop) (itv:Value) (s2:Shared):Prop :=
 ∃ (it:Addr) (fp:List Addr) (tn:Nat->Heap->Prop) (J:It) (H':Hp),itv=.ref it/\Inv X pins σ H' s2/\Turn X.prog X.w X.K tg J fp it tn/\tn 0 s2.heap/\(∀ b∈fp,yoz X pins H' b)/\R J H'
def PI (X:Cx) (tg iter:Expr) (wi:TI):Prop :=
 ∀ (pins:List (Addr×Obj)) (s:Shared) (σ:St) (H:Hp) (R:It->Hp->Prop),Inv X pins σ H s->wi σ H R ->
  wpAny (model X.prog X.w) X.A (eval iter X.env) (fun v s1=>wpAny (model X.prog X.w) X.A (pyIter v) (PIE X pins σ tg R) X.xe s1) X.xe s
theorem yoA {M:Model}{A:Around}{E:Value->Shared->Prop}{s:Shared}{tg:Expr}{it:Addr}{u:Value}{o:Obj}{n:String}{vs:Array Value}{Q:Unit->Shared->Prop}(ho:s.heap.get? it=some o) (hc:o.cls=.type n) (hd:o.data=.fields vs)
    (hn:["enumerate","zip","dict_itemiterator","dict_reverseitemiterator","odict_iterator","itertools.zip_longest","itertools.pairwise"].contains n=false) (hQ:Q () s):wpAny M A (letOwnedTupleGo tg (.ref it) u) Q E s:=by
  unfold letOwnedTupleGo
  cases tg<;>first
    | exact wpAny_pure hQ
    | (cases u<;>first
        | exact wpAny_pure hQ
        | (refine wpAny_bind (wpAny_load ho ?_)
           rw [hc,hd]
           show wpAny M A (if (["enumerate","zip","dict_itemiterator","dict_reverseitemiterator","odict_iterator","itertools.zip_longest","itertools.pairwise"].contains n && vs[0]? == some (rawInt _))=true then _ else _) Q E s
           rw [if_neg (by intro h;rw [hn,Bool.false_and] at h;cases h)]
           exact wpAny_pure hQ))
def Itl (K:PySem.W.Frag) (a:Addr):It :=
 ⟨fun i H=>∃ xs x,SqL K H a xs/\xs[i]?=some x,fun i H x H'=>H'=H/\∀ xs,SqL K H a xs->xs[i]?=some x,fun i H=>∃ xs,SqL K H a xs/\xs.length<=i⟩
def Itr (lo:Int) (n:Nat):It:=⟨fun i _=>i<n,fun i H x H'=>H'=H/\x=.int (lo+i),fun i _=>n<=i⟩
theorem yoB {P:Program}{w:World}{K:PySem.W.Frag}{tg:Expr}(a it:Addr):Turn P w K tg (Itl K a) [it] it (fun i h=>h.IsListIter it a i) where
 mem:=by simp
 obj:=fun i h st b hb=>by
  have e:b=it:=by simpa using hb
  subst e
  obtain ⟨o,e,c,d⟩:=st
  exact ⟨o,e,fun v z=>by rw [d] at z;cases z⟩
 keep:=fun i h h' st k=>st.at fun o e=>k it (by simp) o e
 item:=by
  intro X hP hw hK hc i pins s σ H E I hf st hg
  subst hP hw hK
  obtain ⟨xs,x,hq,hx⟩:=hg
  obtain ⟨its,rv,p,hz⟩:=I.list hq
  obtain ⟨u,hu,ru⟩:=rv.get hx
  obtain ⟨f0,f1,f2,f3,f4,f5⟩:=hf it (by simp)
  refine wpAny_pyNext_list_item st p.isList (x:=u) (by simpa using hu) fun h' st' sb=>?_
  have I1:Inv X pins σ H { s with heap:=h' }:=I.turned (t':=s.toks) (fun b o hb e=>(sb.2 b hb).trans e) f0 f1 f3 f4 f5
  obtain ⟨o,e,c,d⟩:=id st'
  exact ⟨u,rfl,yoA (s:={ s with heap:=h' }) e c d (by decide) ⟨x,H,I1,ru,⟨rfl,fun ys hy=>by rw [I.list_inj hy hq];exact hx⟩,st',fun b hb=>(hf b hb).1⟩⟩
 done:=by
  intro X hP hw hK hc i pins s σ H E I hf st hg
  subst hP hw hK
  obtain ⟨xs,hq,hx⟩:=hg
  obtain ⟨its,rv,p,hz⟩:=I.list hq
  obtain ⟨f0,f1,f2,f3,f4,f5⟩:=hf it (by simp)
  have hl:=rv.length
  exact wpAny_pyNext_list_end (I.ok.hd hc) st p.isList (by simp;omega) fun h' eb=>⟨rfl,I.turned (t':=s.toks) (fun b o hb e=>eb b o hb e) f0 f1 f3 f4 f5⟩
 self:=fun _ _ _ _ _ st h=>wpAny_pyIter_listiter st h
theorem ynn {P:Program}{w:World}{K:PySem.W.Frag}{tg:Expr}(it:Addr) (lo:Int) (n:Nat):Turn P w K tg (Itr lo n) [it] it (fun i h=>IsRangeIter h it (lo+(i:Nat)*1) ((n:Int)-(i:Nat)) 1) where
 mem:=by simp
 obj:=fun i h st b hb=>by
  have e:b=it:=by simpa using hb
  subst e
  exact ⟨_,st,fun v z=>by
   have z':Data.fields _=Data.cell v:=z
   cases z'⟩
 keep:=fun i h h' st k=>k it (by simp) _ st
 item:=by
  intro X hP hw hK hc i pins s σ H E I hf st hg
  subst hP hw hK
  obtain ⟨f0,f1,f2,f3,f4,f5⟩:=hf it (by simp)
  have W:=Walks.range (prog:=X.prog) (w:=X.w) (I.ok.hd hc) it lo 1 n
  refine W.item i s _ _ hg st fun v h' tk hv st' kk=>?_
  obtain ⟨t,rfl⟩:=hv
  have I1:Inv X pins σ H { s with heap:=h',toks:=tk }:=I.turned (fun b o hb e=>kk b o (by simpa using hb) e) f0 f1 f3 f4 f5
  refine ⟨_,rfl,yoA (s:={ s with heap:=h',toks:=tk }) (n:="range_iterator") st' rfl rfl (by decide) ⟨.int (lo+i),H,I1,⟨t,?_⟩,⟨rfl,rfl⟩,st',fun b hb=>(hf b hb).1⟩⟩
  rw [Int.mul_one]
 done:=by
  intro X hP hw hK hc i pins s σ H E I hf st hg
  subst hP hw hK
  obtain ⟨f0,f1,f2,f3,f4,f5⟩:=hf it (by simp)
  exact wpAny_pyNext_range_end (I.ok.hd hc) st (by have:n<=i:=hg;omega) fun h' eb=>⟨rfl,I.turned (t':=s.toks) (fun b o hb e=>eb b o hb e) f0 f1 f3 f4 f5⟩
 self:=fun _ _ _ _ _ st h=>wpAny_pyIter_rangeiter st h
end L2
namespace L2
open PySem PySem.Spec PyProof.Rows
section
variable {X:Cx}{tg:Expr}
def yrv (K:PySem.W.Frag) (tl:TE):TI:=fun σ H R=>tl σ H fun x H1=>∃ a,x=.ref a/\(∃ xs,SqL K H1 a xs)/\R (Itl K a) H1
theorem yla {l:Expr}{tl:TE}(hl:PE X l tl):PI X tg l (yrv X.K tl):=by
 intro pins s σ H R I h
 refine thn (hl pins s σ H _ I h) fun v s1 ⟨x,H1,I1,r1,q1⟩=>?_
 obtain ⟨a,e,⟨xs,hq⟩,q⟩:=q1
 subst e
 cases r1
 obtain ⟨its,rv,p,hz⟩:=I1.list hq
 refine wpAny_pyIter_list p.isList ?_
 refine ⟨s1.heap.objs.size,[s1.heap.objs.size],_,_,H1,rfl,I1.kept (t':=s1.toks) fun b o e=>Heap.get?_push_of_some _ e,yoB a _,⟨_,Heap.get?_push_size _ rfl,rfl,rfl⟩,fun b hb=>?_,q⟩
 have e:b=s1.heap.objs.size:=by simpa using hb
 subst e
 exact I1.fpOk (Nat.le_refl _) (I1.hok.fresh (Nat.le_refl _))
theorem yrw {pins:List (Addr×Obj)}{σ:St}{H:Hp}{s:Shared}{R:It->Hp->Prop}{E:Value->Shared->Prop}{lo hi:Int}{t u v:Tok}{tk:Nat}(I:Inv X pins σ H s) (h1:-(2 ^ 62)<=lo) (h2:lo<2 ^ 62) (h3:-(2 ^ 62)<=hi) (h4:hi<2 ^ 62)
  (q:R (Itr lo (hi-lo).toNat) H):wpAny (model X.prog X.w) X.A (pyIter (.ref s.heap.objs.size)) (PIE X pins σ tg R) E { s with heap:=s.heap.push { cls:=.type "range",data:=.fields #[.int lo t,.int hi u,.int 1 v] },toks:=tk }:=by
 refine wpAny_pyIter_range (IsRange.new ..) (small_one h1 h2 h3 h4) ?_
 have I1:Inv X pins σ H { s with heap:=s.heap.push { cls:=.type "range",data:=.fields #[.int lo t,.int hi u,.int 1 v] },toks:=tk }:=I.kept fun b o e=>Heap.get?_push_of_some _ e
 refine ⟨(s.heap.push { cls:=.type "range",data:=.fields #[.int lo t,.int hi u,.int 1 v] }).objs.size,[(s.heap.push { cls:=.type "range",data:=.fields #[.int lo t,.int hi u,.int 1 v] }).objs.size],_,_,H,rfl,
  I1.kept (t':=tk) fun b o e=>Heap.get?_push_of_some _ e,ynn _ lo (hi-lo).toNat,?_,fun b hb=>?_,q⟩
 .have e1:lo+((0:Nat):Int)*1=lo:=by simp
  have e2:(((hi-lo).toNat:Nat):Int)-((0:Nat):Int)=Builtin.Range.rangeSize lo hi 1:=by rw [rangeSize_one];split<;>omega
  show IsRangeIter _ _ (lo+((0:Nat):Int)*1) ((((hi-lo).toNat:Nat):Int)-((0:Nat):Int)) 1
  rw [e1,e2]
  exact Heap.get?_push_size _ rfl
 .have e:b=(s.heap.push { cls:=.type "range",data:=.fields #[.int lo t,.int hi u,.int 1 v] }).objs.size:=by simpa using hb
  subst e
  exact I1.fpOk (Nat.le_refl _) (I1.hok.fresh (Nat.le_refl _))
def yyd (ta:TA):TI:=fun σ H R=>ta σ H fun vs H1=>∃ j:Int,vs=[.int j]/\-(2 ^ 62)<=j/\j<2 ^ 62/\R (Itr 0 j.toNat) H1
theorem yoC {a:Expr}{ta:TA}{p pos:Pos}(hg:Gl X "range") (hm:X.mg "range" = none) (ha:PA X [a] ta) (hs:starEach [a] X.env=[(false,eval a X.env)]:=by rfl):PI X tg (.Call (.Name "range" p) [a] [] pos) (yyd ta):=by
 intro pins s σ H R I h
 refine Call_ (yju I hg hm boot_range (PyProof.Rows.callWith_type1 (thn (ha pos pins s σ H _ I h) fun us s1 ⟨vs,H1,I1,r1,q1⟩=>?_) hs rfl))
 obtain ⟨j,e,q1,q2,q⟩:=q1
 subst e
 cases r1 with
 | cons r rr =>
  cases rr
  obtain ⟨t,rfl⟩:=r
  exact call_range_1 (yrw I1 (by omega) (by omega) q1 q2 (by simpa using q))
noncomputable def yBh (wi:TI) (g:TG) (tb:TS):TS:=fun D σ H=>wi σ H fun J H1=>∃ W:Nat->Nat->St->Hp->Prop,(∃ m,W 0 m σ H1)/\∀ i m σ H,W i m σ H ->
 (J.stop i H/\D.nx σ H)\/(J.go i H/\∃ N:St->Hp->Prop,(∀ σ' H',N σ' H'->∃ m',m'<m/\W (i+1) m' σ' H')/\∀ x H',J.yld i H x H'->g x σ H' fun σ2 H2=>tb { D with nx:=N,ct:=N,bk:=D.nx } σ2 H2)
def ymk (fp:List Addr) (h:Heap):List (Addr×Obj):=fp.filterMap fun b=>(h.get? b).map fun o=>(b,o)
theorem ybr {fp:List Addr}{h:Heap}{b:Addr}{o:Obj}(hb:b∈fp) (e:h.get? b=some o):(b,o)∈ymk fp h:=List.mem_filterMap.mpr ⟨b,hb,by rw [e];rfl⟩
theorem yoD {fp:List Addr}{h:Heap}{p:Addr×Obj}(hp:p∈ymk fp h):p.1∈fp/\h.get? p.1=some p.2:=by
 obtain ⟨b,hb,e⟩:=List.mem_filterMap.mp hp
 cases q:h.get? b with
 | none=>rw [q] at e;cases e
 | some o =>
  rw [q] at e
  have e':(b,o)=p:=Option.some.inj e
  subst e'
  exact ⟨hb,q⟩
theorem Inv.pinned {pins:List (Addr×Obj)}{σ:St}{H:Hp}{s:Shared}{fp:List Addr}(I:Inv X pins σ H s) (hf:∀ b∈fp,yoz X pins H b) (ho:∀ b∈fp,∃ o,s.heap.get? b=some o/\∀ v,o.data≠.cell v):Inv X (pins++ymk fp s.heap) σ H s :=
 I.pins_of fun p hp=>(List.mem_append.mp hp).elim (fun z=>I.pin p (mem_append_right _ z)) fun z=>by
  obtain ⟨hb,e⟩:=yoD z
  obtain ⟨f0,f1,f2,_⟩:=hf p.1 hb
  obtain ⟨o,e',d⟩:=ho p.1 hb
  rw [e] at e';cases e'
  exact ⟨e,f0,f1,f2,d⟩
theorem Inv.unpinned {pins pl:List (Addr×Obj)}{σ:St}{H:Hp}{s:Shared}(I:Inv X (pins++pl) σ H s):Inv X pins σ H s:=I.pins_of fun p hp=>I.pin p (mem_append_right _ (mem_append_left _ hp))
theorem yoE {iter:Expr}{body:List Stmt}{wi:TI}{g:TG}{tb:TS}{pos:Pos}(hp:PassesOwn (model X.prog X.w) X.A X.env X.xe) (hc:X.calm=true) (hi:PI X tg iter wi) (hg:PG X tg g) (hb:PSs X body tb)
  (hs:∀ x,foldedSetIterable iter X.env x=pure x:=by intro _;rfl):PS X (.For tg iter body [] pos) (yBh wi g tb):=by
 intro pins s σ H D I h
 refine wpAny_For (thn (hi pins s σ H _ I h) fun v s1 h1=>thn h1 fun itv s2 h2=>?_) hs
 obtain ⟨it,fp,tn,J,H2,e,I2,T,st2,f2,W,⟨m0,w0⟩,turn⟩:=h2
 subst e
 have stat:∀ {H':Hp},(∀ b∈fp,H' b=none)->∀ b∈fp,yoz X pins H' b:=fun hn b hb=>⟨hn b hb,(f2 b hb).2⟩
 refine codeAny_forLoop_any (fun n s'=>∃ i σ' H',Inv X pins σ' H' s'/\tn i s'.heap/\(∀ b∈fp,H' b=none)/\W i n σ' H') ?_ m0 ⟨0,σ,H2,I2,st2,fun b hb=>(f2 b hb).1,w0⟩
 rintro n s3 ⟨i,σ3,H3,I3,st3,fr3,w3⟩
 rcases turn i n σ3 H3 w3 with ⟨stop,qn⟩|⟨go,N,hN,step⟩
 .refine wpAny_passesOwn hp (thn (T.done X rfl rfl rfl hc i pins s3 σ3 H3 X.xe I3 (stat fr3) st3 stop) fun r s4 ⟨hr,I4⟩=>?_)
  subst hr
  exact wpAny_execs_nil ⟨σ3,H3,I4,qn⟩
 .refine wpAny_passesOwn hp (thn (T.item X rfl rfl rfl hc i pins s3 σ3 H3 X.xe I3 (stat fr3) st3 go) fun r s4 ⟨u,hr,h4⟩=>?_)
  subst hr
  refine wpAny_passesOwn hp (thn h4 fun _ s5 ⟨x,H5,I5,r5,y5,st5,fr5⟩=>?_)
  have I5':=I5.pinned (stat fr5) (T.obj _ _ st5)
  refine wpAny_passesOwn hp (thn (hg _ s5 σ3 H5 x u _ I5' r5 (step x H5 y5)) fun _ s6 ⟨σ6,H6,I6,q6⟩=>?_)
  refine wpAny_passesOwn hp (thn (hb _ s6 σ6 H6 _ I6 q6) fun f s7 q7=>?_)
  have again:∀ {σ7:St}{H7:Hp},Inv X (pins++ymk fp s5.heap) σ7 H7 s7->N σ7 H7->∃ m,m<n/\∃ i σ' H',Inv X pins σ' H' s7/\tn i s7.heap/\(∀ b∈fp,H' b=none)/\W i m σ' H':=fun {σ7 H7} I7 n7=>by
   obtain ⟨m',hm,w7⟩:=hN σ7 H7 n7
   refine ⟨m',hm,i+1,σ7,H7,I7.unpinned,T.keep _ _ _ st5 fun b hb o e=>(I7.pin (b,o) (mem_append_right _ (mem_append_right _ (ybr hb e)))).1,fun b hb=>?_,w7⟩
   obtain ⟨o,e,d⟩:=T.obj _ _ st5 b hb
   exact (I7.pin (b,o) (mem_append_right _ (mem_append_right _ (ybr hb e)))).2.1
  cases f with
  | next=>obtain ⟨σ7,H7,I7,n7⟩:=q7;exact again I7 n7
  | cont=>obtain ⟨σ7,H7,I7,n7⟩:=q7;exact again I7 n7
  | brk=>obtain ⟨σ7,H7,I7,q7⟩:=q7;exact ⟨σ7,H7,I7.unpinned,q7⟩
  | ret v=>obtain ⟨x7,σ7,H7,I7,r7,q7⟩:=q7;exact ⟨x7,σ7,H7,I7.unpinned,r7,q7⟩
end
end L2
namespace L2
open PySem PySem.Spec PyProof.Rows
abbrev R2:=V->V->Hp->VK->Prop
def OpR (X:Cx) (f:Value->Value->Sem Value) (r:R2):Prop :=
 ∀ (pins:List (Addr×Obj)) (s:Shared) (σ:St) (H:Hp) (x y:V) (v u:Value) (Q:VK),Inv X pins σ H s->RelV x v->RelV y u->r x y H Q ->
  wpAny (model X.prog X.w) X.A (f v u) (EP X pins σ Q) X.xe s
def UnR (X:Cx) (f:Value->Sem Value) (r:V->Hp->VK->Prop):Prop :=
 ∀ (pins:List (Addr×Obj)) (s:Shared) (σ:St) (H:Hp) (x:V) (v:Value) (Q:VK),Inv X pins σ H s->RelV x v->r x H Q ->
  wpAny (model X.prog X.w) X.A (f v) (EP X pins σ Q) X.xe s
def yek (X:Cx) (f:Value) (r:List V->Hp->VK->Prop):Prop :=
 ∀ (pins:List (Addr×Obj)) (s:Shared) (σ:St) (H:Hp) (xs:List V) (us:List Value) (Q:VK),Inv X pins σ H s->Vals xs us->r xs H Q ->
  wpAny (model X.prog X.w) X.A (call f us) (EP X pins σ Q) X.xe s
def tOp (r:R2) (ta tb:TE):TE:=fun σ H Q=>ta σ H fun x H1=>tb σ H1 fun y H2=>r x y H2 Q
def tUn (r:V->Hp->VK->Prop) (ta:TE):TE:=fun σ H Q=>ta σ H fun x H1=>r x H1 Q
def rI (C:Int->Int->Prop) (g:Int->Int->V):R2:=fun x y H Q=>∃ i j,x=.int i/\y=.int j/\C i j/\Q (g i j) H
def rI0 (g:Int->Int->V):R2:=fun x y H Q=>∃ i j,x=.int i/\y=.int j/\Q (g i j) H
def rU (g:Int->V):V->Hp->VK->Prop:=fun x H Q=>∃ i,x=.int i/\Q (g i) H
section
variable {X:Cx}{a b c:Expr}{ta tb tc:TE}{pos:Pos}
theorem yBC (ha:PE X a ta) (hb:PE X b tb) {pins:List (Addr×Obj)}{s:Shared}{σ:St}{H:Hp}{R:V->V->Hp->Prop}(I:Inv X pins σ H s)
  (h:ta σ H fun x H1=>tb σ H1 fun y H2=>R x y H2) {Q:Value->Shared->Prop}{f:Value->Value->Sem Value}
  (hf:∀ v u s2 x y H2,Inv X pins σ H2 s2->RelV x v->RelV y u->R x y H2->wpAny (model X.prog X.w) X.A (f v u) Q X.xe s2) :
  wpAny (model X.prog X.w) X.A (eval a X.env) (fun v s₁=>wpAny (model X.prog X.w) X.A (eval b X.env) (fun u s₂=>wpAny (model X.prog X.w) X.A (f v u) Q X.xe s₂) X.xe s₁) X.xe s:=by
 refine thn (ha pins s σ H _ I h) fun v s1 ⟨x,H1,I1,r1,q1⟩=>?_
 refine thn (hb pins s1 σ H1 _ I1 q1) fun u s2 ⟨y,H2,I2,r2,q2⟩=>?_
 exact hf v u s2 x y H2 I2 r1 r2 q2
theorem yye {op:Operator}{r:R2}(ho:OpR X (binaryOp op) r) (ha:PE X a ta) (hb:PE X b tb):PE X (.BinOp a op b pos) (tOp r ta tb):=by
 intro pins s σ H Q I h
 exact wpAny_BinOp (yBC ha hb I h fun v u s2 x y H2 I2 rx ry q=>ho pins s2 σ H2 x y v u Q I2 rx ry q)
theorem yBD {op:UnaryOp}{r:V->Hp->VK->Prop}(ho:UnR X (unaryOp op) r) (ha:PE X a ta):PE X (.UnaryOp op a pos) (tUn r ta):=by
 intro pins s σ H Q I h
 exact UnaryOp_ (thn (ha pins s σ H _ I h) fun v s1 ⟨x,H1,I1,r1,q1⟩=>ho pins s1 σ H1 x v Q I1 r1 q1)
theorem opI {f:Value->Value->Sem Value}{C:Int->Int->Prop}{g:Int->Int->Int}
  (rule:∀ (i j:Int) (t u:Tok) (s:Shared) (Q:Value->Shared->Prop) (E:Value->Shared->Prop),C i j->Q (.int (g i j) s.toks) { s with toks:=s.toks+1 }->wpAny (model X.prog X.w) X.A (f (.int i t) (.int j u)) Q E s) :
  OpR X f (rI C fun i j=>.int (g i j)):=by
 intro pins s σ H x y v u Q I rx ry h
 obtain ⟨i,j,rfl,rfl,hc,q⟩:=h
 obtain ⟨t,rfl⟩:=rx
 obtain ⟨t',rfl⟩:=ry
 exact rule i j t t' s _ _ hc ⟨.int (g i j),H,I.tok _,⟨_,rfl⟩,q⟩
theorem yDL {f:Value->Value->Sem Value}{g:Int->Int->Int}
  (rule:∀ (i j:Int) (t u:Tok) (s:Shared) (Q:Value->Shared->Prop) (E:Value->Shared->Prop),Q (.int (g i j) s.toks) { s with toks:=s.toks+1 }->wpAny (model X.prog X.w) X.A (f (.int i t) (.int j u)) Q E s) :
  OpR X f (rI0 fun i j=>.int (g i j)):=by
 intro pins s σ H x y v u Q I rx ry h
 obtain ⟨i,j,rfl,rfl,q⟩:=h
 obtain ⟨t,rfl⟩:=rx
 obtain ⟨t',rfl⟩:=ry
 exact rule i j t t' s _ _ ⟨.int (g i j),H,I.tok _,⟨_,rfl⟩,q⟩
theorem yBE {f:Value->Value->Sem Value}{g:Int->Int->Bool}
  (rule:∀ (i j:Int) (t u:Tok) (s:Shared) (Q:Value->Shared->Prop) (E:Value->Shared->Prop),Q (.bool (g i j)) s->wpAny (model X.prog X.w) X.A (f (.int i t) (.int j u)) Q E s) :
  OpR X f (rI0 fun i j=>.bl (g i j)):=by
 intro pins s σ H x y v u Q I rx ry h
 obtain ⟨i,j,rfl,rfl,q⟩:=h
 obtain ⟨t,rfl⟩:=rx
 obtain ⟨t',rfl⟩:=ry
 exact rule i j t t' s _ _ ⟨.bl (g i j),H,I,rfl,q⟩
def yDM (i j:Int):Prop:=0<j/\j<1073741824
def yBF (i j:Int):Prop:=0<=j/\j<=1000000/\i.natAbs<2 ^ 64
def CMul (i j:Int):Prop:=(-(2 ^ 64)<i/\i<2 ^ 64)\/(-(2 ^ 64)<j/\j<2 ^ 64)
theorem CMul.ok {i j:Int}(h:CMul i j):IntMulOk i j:=by
 rcases h with ⟨h1,h2⟩|⟨h1,h2⟩
 .exact .of_left (intBits_le_64 h1 h2)
 .exact .of_right (intBits_le_64 h1 h2)
theorem ydj:OpR X (binaryOp .Add) (rI0 fun i j=>.int (i+j)):=yDL fun _ _ _ _ _ _ _ q=>add_int q
theorem yhS:OpR X (binaryOp .Sub) (rI0 fun i j=>.int (i-j)):=yDL fun _ _ _ _ _ _ _ q=>sub_int q
theorem yml:OpR X (binaryOp .Mult) (rI CMul fun i j=>.int (i*j)):=opI fun _ _ _ _ _ _ _ hc q=>mul_int q hc.ok
theorem yfP:OpR X (binaryOp .FloorDiv) (rI yDM fun i j=>.int (i/j)):=opI fun i j _ _ _ _ _ hc q=>by
 have h1:(0:Int)<j:=hc.1
 have h2:j<1073741824:=hc.2
 exact floordiv_int (by omega) (by rw [Int.fdiv_eq_ediv_of_nonneg i (by omega)];exact q) (.inl (PyProof.noPylong_small (by omega)))
theorem ycl:OpR X (binaryOp .Mod) (rI (fun _ j=>0<j) fun i j=>.int (i%j)):=opI fun i j _ _ _ _ _ hc q=>by
 have h1:(0:Int)<j:=hc
 exact mod_int' (by omega) (by rw [Int.fmod_eq_emod_of_nonneg i (by omega)];exact q)
theorem yoF:OpR X (binaryOp .Pow) (rI yBF fun i j=>.int (i ^ j.toNat)):=opI fun _ _ _ _ _ _ _ hc q=>pow_int_small hc.1 hc.2.1 hc.2.2 q
theorem unI {f:Value->Sem Value}{g:Int->Int}
  (rule:∀ (i:Int) (t:Tok) (s:Shared) (Q:Value->Shared->Prop) (E:Value->Shared->Prop),Q (.int (g i) s.toks) { s with toks:=s.toks+1 }->wpAny (model X.prog X.w) X.A (f (.int i t)) Q E s) :
  UnR X f (rU fun i=>.int (g i)):=by
 intro pins s σ H x v Q I rx h
 obtain ⟨i,rfl,q⟩:=h
 obtain ⟨t,rfl⟩:=rx
 exact rule i t s _ _ ⟨.int (g i),H,I.tok _,⟨_,rfl⟩,q⟩
theorem ytL:UnR X (unaryOp .USub) (rU fun i=>.int (-i)):=unI fun _ _ _ _ _ q=>neg_int q
end
noncomputable def ytM:V->V->Bool
 | .non,.non=>true|.non,.int _=>true|.int _,.non=>true|.non,.bl _=>true|.bl _,.non=>true|.non,.str _=>true|.str _,.non=>true
 | .int _,.int _=>true|.bl _,.bl _=>true|.str _,.str _=>true|.byt _,.byt _=>true
 | .int _,.str _=>true|.str _,.int _=>true|.bl _,.str _=>true|.str _,.bl _=>true
 | _,_=>false
def rEq:R2:=fun x y H Q=>ytM x y=true/\Q (.bl (decide (x=y))) H
def rNe:R2:=fun x y H Q=>ytM x y=true/\Q (.bl (!decide (x=y))) H
theorem yoG {i j:Int}:decide (V.int i=V.int j)=(i == j):=by
 rw [Bool.eq_iff_iff]
 simp
theorem ytN {i j:Bool}:decide (V.bl i=V.bl j)=(i == j):=by
 rw [Bool.eq_iff_iff]
 simp
theorem yoH {i j:Str}:decide (V.str i=V.str j)=(i == j):=by
 rw [Bool.eq_iff_iff]
 simp
theorem yoI {i j:Array UInt8}:decide (V.byt i=V.byt j)=(i.toList == j.toList):=by
 rw [Bool.eq_iff_iff]
 cases i
 cases j
 simp
section
variable {X:Cx}{a b c:Expr}{ta tb tc:TE}{pos:Pos}
theorem yX {pins:List (Addr×Obj)}{σ:St}{H:Hp}{s:Shared}{Q:VK}{k k':Bool}(I:Inv X pins σ H s) (q:Q (.bl k) H) (e:k=k'):EP X pins σ Q (.bool k') s:=by
 subst e
 exact ⟨.bl k,H,I,rfl,q⟩
theorem yL:OpR X (compareOp .Eq) rEq:=by
 intro pins s σ H x y v u Q I rx ry h
 obtain ⟨hs,q⟩:=h
 cases x with
 | non =>
  cases rx
  cases y with
  | non=>cases ry;exact PySem.EqNone.eq_none_none (yX I q (by simp))
  | bl j=>cases ry;exact PySem.EqNone.eq_none_bool (yX I q (by simp))
  | int j=>obtain ⟨t',rfl⟩:=ry;exact PySem.EqNone.eq_none_int (yX I q (by simp))
  | str j=>obtain ⟨t',rfl⟩:=ry;exact PySem.EqNone.eq_none_str (yX I q (by simp))
  | _=>exact absurd (show false=true from hs) Bool.false_ne_true
 | bl i =>
  cases rx
  cases y with
  | non=>cases ry;exact PySem.EqNone.eq_bool_none (yX I q (by simp))
  | bl j=>cases ry;exact eq_bool (yX I q ytN)
  | str j=>obtain ⟨t',rfl⟩:=ry;exact PySem.EqMixed.eq_bool_str (yX I q (by simp))
  | _=>exact absurd (show false=true from hs) Bool.false_ne_true
 | int i =>
  obtain ⟨t,rfl⟩:=rx
  cases y with
  | non=>cases ry;exact PySem.EqNone.eq_int_none (yX I q (by simp))
  | int j=>obtain ⟨t',rfl⟩:=ry;exact eq_int (yX I q yoG)
  | str j=>obtain ⟨t',rfl⟩:=ry;exact PySem.EqMixed.eq_int_str (yX I q (by simp))
  | _=>exact absurd (show false=true from hs) Bool.false_ne_true
 | str i =>
  obtain ⟨t,rfl⟩:=rx
  cases y with
  | non=>cases ry;exact PySem.EqNone.eq_str_none (yX I q (by simp))
  | bl j=>cases ry;exact PySem.EqMixed.eq_str_bool (yX I q (by simp))
  | int j=>obtain ⟨t',rfl⟩:=ry;exact PySem.EqMixed.eq_str_int (yX I q (by simp))
  | str j=>obtain ⟨t',rfl⟩:=ry;exact eq_str (yX I q yoH)
  | _=>exact absurd (show false=true from hs) Bool.false_ne_true
 | byt i =>
  obtain ⟨t,rfl⟩:=rx
  cases y with
  | byt j=>obtain ⟨t',rfl⟩:=ry;exact PySem.W.eq_bytes (yX I q yoI)
  | _=>exact absurd (show false=true from hs) Bool.false_ne_true
 | _=>cases y<;>exact absurd (show false=true from hs) Bool.false_ne_true
theorem yjv:OpR X (compareOp .NotEq) rNe:=by
 intro pins s σ H x y v u Q I rx ry h
 obtain ⟨hs,q⟩:=h
 cases x with
 | non =>
  cases rx
  cases y with
  | non=>cases ry;exact PySem.EqNone.ne_none_none (yX I q (by simp))
  | bl j=>cases ry;exact PySem.EqNone.ne_none_bool (yX I q (by simp))
  | int j=>obtain ⟨t',rfl⟩:=ry;exact PySem.EqNone.ne_none_int (yX I q (by simp))
  | str j=>obtain ⟨t',rfl⟩:=ry;exact PySem.EqNone.ne_none_str (yX I q (by simp))
  | _=>exact absurd (show false=true from hs) Bool.false_ne_true
 | bl i =>
  cases rx
  cases y with
  | non=>cases ry;exact PySem.EqNone.ne_bool_none (yX I q (by simp))
  | bl j=>cases ry;exact ne_bool (yX I q (congrArg not ytN))
  | str j=>obtain ⟨t',rfl⟩:=ry;exact PySem.EqMixed.ne_bool_str (yX I q (by simp))
  | _=>exact absurd (show false=true from hs) Bool.false_ne_true
 | int i =>
  obtain ⟨t,rfl⟩:=rx
  cases y with
  | non=>cases ry;exact PySem.EqNone.ne_int_none (yX I q (by simp))
  | int j=>obtain ⟨t',rfl⟩:=ry;exact ne_int (yX I q (congrArg not yoG))
  | str j=>obtain ⟨t',rfl⟩:=ry;exact PySem.EqMixed.ne_int_str (yX I q (by simp))
  | _=>exact absurd (show false=true from hs) Bool.false_ne_true
 | str i =>
  obtain ⟨t,rfl⟩:=rx
  cases y with
  | non=>cases ry;exact PySem.EqNone.ne_str_none (yX I q (by simp))
  | bl j=>cases ry;exact PySem.EqMixed.ne_str_bool (yX I q (by simp))
  | int j=>obtain ⟨t',rfl⟩:=ry;exact PySem.EqMixed.ne_str_int (yX I q (by simp))
  | str j=>obtain ⟨t',rfl⟩:=ry;exact ne_str (yX I q (congrArg not yoH))
  | _=>exact absurd (show false=true from hs) Bool.false_ne_true
 | byt i =>
  obtain ⟨t,rfl⟩:=rx
  cases y with
  | byt j=>obtain ⟨t',rfl⟩:=ry;exact PySem.W.ne_bytes (yX I q (congrArg not yoI))
  | _=>exact absurd (show false=true from hs) Bool.false_ne_true
 | _=>cases y<;>exact absurd (show false=true from hs) Bool.false_ne_true
theorem yjw:OpR X (compareOp .Lt) (rI0 fun i j=>.bl (decide (i<j))):=yBE fun _ _ _ _ _ _ _ q=>lt_int q
theorem yhD:OpR X (compareOp .LtE) (rI0 fun i j=>.bl (decide (i<=j))):=yBE fun _ _ _ _ _ _ _ q=>le_int q
theorem yoJ:OpR X (compareOp .Gt) (rI0 fun i j=>.bl (decide (j<i))):=yBE fun _ _ _ _ _ _ _ q=>gt_int q
theorem yoK:OpR X (compareOp .In) (fun x y H Q=>∃ i j,x=.str i/\y=.str j/\Q (.bl (!(Builtin.Str.occurrences j i 0 j.length 1).isEmpty)) H):=by
 intro pins s σ H x y v u Q I rx ry h
 obtain ⟨i,j,rfl,rfl,q⟩:=h
 obtain ⟨t,rfl⟩:=rx
 obtain ⟨t',rfl⟩:=ry
 exact in_str (yX I q rfl)
theorem ymm:OpR X (compareOp .Is) (fun x y H Q=>y=.non/\Q (.bl (decide (x=.non))) H):=by
 intro pins s σ H x y v u Q I rx ry h
 obtain ⟨rfl,q⟩:=h
 cases ry
 refine is_none_gen (yX I q ?_)
 cases x<;>first
  | (cases rx;rfl)
  | (obtain ⟨t,rfl⟩:=rx;rfl)
theorem yuY:OpR X (compareOp .IsNot) (fun x y H Q=>y=.non/\Q (.bl (!decide (x=.non))) H):=by
 intro pins s σ H x y v u Q I rx ry h
 obtain ⟨rfl,q⟩:=h
 cases ry
 refine isnot_none_gen (yX I q ?_)
 cases x<;>first
  | (cases rx;rfl)
  | (obtain ⟨t,rfl⟩:=rx;rfl)
theorem yjx (b:Expr) {op:CmpOp}(h:op≠.In:=by decide) (h2:op≠.NotIn:=by decide):behindInMarks op b=false:=by
 have e1:(op == CmpOp.In)=false:=by cases op<;>first|rfl|exact absurd rfl h
 have e2:(op == CmpOp.NotIn)=false:=by cases op<;>first|rfl|exact absurd rfl h2
 cases b<;>simp [behindInMarks,e1,e2]
theorem yuZ {op:CmpOp}{r:R2}(ho:OpR X (compareOp op) r) (ha:PE X a ta) (hb:PE X b tb) (hm:behindInMarks op b=false):PE X (.Compare a [op] [b] pos) (tOp r ta tb):=by
 intro pins s σ H Q I h
 exact wpAny_Compare1 (yBC ha hb I h fun v u s2 x y H2 I2 rx ry q=>ho pins s2 σ H2 x y v u Q I2 rx ry q) hm
def yva (t:TE):TT:=fun σ H Q=>t σ H fun x H'=>∃ k,x=.bl k/\Q k H'
theorem yvb {op:CmpOp}{r:R2}(ho:OpR X (compareOp op) r) (ha:PE X a ta) (hb:PE X b tb) (hm:behindInMarks op b=false):PT X (.Compare a [op] [b] pos) (yva (tOp r ta tb)):=by
 intro pins s σ H Q I h
 refine wpAny_isTrue_Compare1 (thn (ha pins s σ H _ I h) fun v s1 ⟨x,H1,I1,r1,q1⟩=>thn (hb pins s1 σ H1 _ I1 q1) fun u s2 ⟨y,H2,I2,r2,q2⟩ =>
  thn (ho pins s2 σ H2 x y v u _ I2 r1 r2 q2) fun c s3 ⟨z,H3,I3,r3,k,e,q3⟩=>?_) hm
 subst e
 cases r3
 exact wpAny_truthy_bool ⟨H3,I3,q3⟩
noncomputable def yoL (r r':R2) (ta tb tc:TE):TE:=fun σ H Q=>ta σ H fun x H1=>tb σ H1 fun y H2=>r x y H2 fun z H3=>∃ k,z=.bl k /\
 (if k=true then tc σ H3 fun w' H4=>r' y w' H4 Q else Q (.bl false) H3)
theorem yrx {op op':CmpOp}{r r':R2}(ho:OpR X (compareOp op) r) (ho':OpR X (compareOp op') r') (ha:PE X a ta) (hb:PE X b tb) (hc:PE X c tc)
  (hm:lastMarks [op,op'] [b,c]=false:=by with_unfolding_all rfl):PE X (.Compare a [op,op'] [b,c] pos) (yoL r r' ta tb tc):=by
 intro pins s σ H Q I h
 refine Compare_chain (thn (ha pins s σ H _ I h) fun v s1 ⟨x,H1,I1,r1,q1⟩=>chain_link (thn (hb pins s1 σ H1 _ I1 q1) fun u s2 ⟨y,H2,I2,r2,q2⟩ =>
  thn (ho pins s2 σ H2 x y v u _ I2 r1 r2 q2) fun d s3 ⟨z,H3,I3,r3,k,e,q3⟩=>?_)) hm
 subst e
 cases r3
 refine wpAny_truthy_bool ?_
 cases k with
 | false=>exact ite_ff ⟨.bl false,H3,I3,rfl,q3⟩
 | true=>exact ite_tt (chain_last (thn (hc pins s3 σ H3 _ I3 q3) fun w' s4 ⟨z',H4,I4,r4,q4⟩=>ho' pins s4 σ H4 y z' u w' Q I4 r2 r4 q4))
theorem yry {op op':CmpOp}{r r':R2}(ho:OpR X (compareOp op) r) (ho':OpR X (compareOp op') r') (ha:PE X a ta) (hb:PE X b tb) (hc:PE X c tc)
  (hm:lastMarks [op,op'] [b,c]=false:=by with_unfolding_all rfl):PT X (.Compare a [op,op'] [b,c] pos) (yva (yoL r r' ta tb tc)):=by
 intro pins s σ H Q I h
 refine isTrue_chain (thn (ha pins s σ H _ I h) fun v s1 ⟨x,H1,I1,r1,q1⟩=>test_link (thn (hb pins s1 σ H1 _ I1 q1) fun u s2 ⟨y,H2,I2,r2,q2⟩ =>
  thn (ho pins s2 σ H2 x y v u _ I2 r1 r2 q2) fun d s3 ⟨z,H3,I3,r3,k,e,q3⟩=>?_)) hm
 subst e
 cases r3
 refine wpAny_truthy_bool ?_
 cases k with
 | false =>
  obtain ⟨k',e',q'⟩:=q3
  cases e'
  exact ite_ff ⟨H3,I3,q'⟩
 | true =>
  refine ite_tt (test_last (thn (hc pins s3 σ H3 _ I3 q3) fun w' s4 ⟨z',H4,I4,r4,q4⟩=>thn (ho' pins s4 σ H4 y z' u w' _ I4 r2 r4 q4) fun d' s5 ⟨z2,H5,I5,r5,k2,e2,q5⟩=>?_))
  subst e2
  cases r5
  exact wpAny_truthy_bool ⟨H5,I5,q5⟩
theorem yhT:(sizeLine:Nat)<2 ^ 63:=by rw [sizeLine_eq];decide
theorem ydi:OpR X (binaryOp .Add) (fun x y H Q=>∃ i j,x=.str i/\y=.str j/\i.length+j.length<=sizeLine/\Q (.str (i++j)) H):=by
 intro pins s σ H x y v u Q I rx ry h
 obtain ⟨i,j,rfl,rfl,hz,q⟩:=h
 obtain ⟨t,rfl⟩:=rx
 obtain ⟨t',rfl⟩:=ry
 exact add_str (fun t' tk=>⟨.str (i++j),H,I.tok _,⟨_,rfl⟩,q⟩) hz
theorem vals1 {x:V}{us:List Value}(r:Vals [x] us):∃ u,us=[u]/\RelV x u:=by
 cases r with
 | cons r1 r2=>cases r2;exact ⟨_,rfl,r1⟩
theorem vals2 {x y:V}{us:List Value}(r:Vals [x,y] us):∃ u w',us=[u,w']/\RelV x u/\RelV y w':=by
 cases r with
 | cons r1 r2 =>
  cases r2 with
  | cons r3 r4=>cases r4;exact ⟨_,_,rfl,r1,r3⟩
theorem yoM:yek X (.type "int") (fun xs H Q=>(∃ i,xs=[.int i]/\Q (.int i) H)\/∃ k,xs=[.bl k]/\Q (.int (if k then 1 else 0)) H):=by
 intro pins s σ H xs us Q I r h
 rcases h with ⟨i,rfl,q⟩|⟨k,rfl,q⟩
 .obtain ⟨u,rfl,t,rfl⟩:=vals1 r
  exact call_int_int ⟨.int i,H,I,⟨_,rfl⟩,q⟩
 .obtain ⟨u,rfl,r1⟩:=vals1 r
  cases r1
  exact call_int_bool ⟨.int (if k then 1 else 0),H,I.tok _,⟨_,rfl⟩,q⟩
theorem ygd:yek X (.type "str") (fun xs H Q=>∃ i,xs=[.int i]/\i.natAbs.log2<1920/\Q (.str (toString i)) H):=by
 intro pins s σ H xs us Q I r h
 obtain ⟨i,rfl,hz,q⟩:=h
 obtain ⟨u,rfl,t,rfl⟩:=vals1 r
 exact PySem.P.str_of_int hz ⟨.str _,H,I.tok _,⟨_,rfl⟩,q⟩
end
end L2
namespace L2
open PySem PySem.Spec PyProof.Rows
structure ObjM (h:Heap) (x dx C:Addr) (mA:Str->Option Value):Prop where
 obj:h.get? x=some (instObj C dx)
 ns:h.Ns1 dx mA
 ne:dx≠x
theorem yoN {h:Heap}{dx:Addr}{mA:Str->Option Value}(n:h.Ns1 dx mA):∃ od,h.get? dx=some od/\∀ name,PySem.W.lookIn name od=some (mA name):=by
 obtain ⟨o,es,ep,ho,hd,hk,_,hm⟩:=n
 refine ⟨o,ho,fun name=>?_⟩
 have e:=hm name
 unfold nsFind findBy at e
 rw [<- Array.find?_toList] at e
 unfold PySem.W.lookIn
 rw [hd]
 dsimp only
 split
 .rename_i y q
  rw [q] at e
  exact congrArg some e
 .rename_i q
  rw [q] at e
  have a:es.toList.any (·.refKey)=false:=by
   rw [List.any_eq_false]
   intro y hy
   obtain ⟨z,t,hkey⟩:=hk y (Array.mem_toList_iff.mp hy)
   simp [DictEntry.refKey,hkey]
  have a':¬ es.toList.any (·.refKey)=true:=by rw [a];exact Bool.false_ne_true
  rw [if_neg a']
  exact congrArg some e
theorem ObjM.look {h:Heap}{x dx C:Addr}{mA:Str->Option Value}(I:ObjM h x dx C mA):∃ od,PySem.W.InstAt h x (instObj C dx) C (some od)/\∀ name,PySem.W.lookIn name od=some (mA name) :=
 let ⟨od,ho,hl⟩:=yoN I.ns
 ⟨od,⟨I.obj,rfl,rfl,ho⟩,hl⟩
section
variable {prog:Program}{w:World}{A:Around}{E:Value->Shared->Prop}{s:Shared}{K:PySem.W.Frag}{x dx C f:Addr}{mA:Str->Option Value}{name:Str}{v:Value}
theorem yvc {expr:Bool}{Q:Value->Shared->Prop}(X:K.In s.heap) (I:ObjM s.heap x dx C mA) (hg:plainGet K C name=true) (hh:hasDictIn K C=true)
  (ha:findIn K (.ref C) name=some none) (hv:mA name=some v) (hv':PySem.W.handedIn v=true) (h:Q v { s with toks:=s.toks+1 }) :
  wpAny (model prog w) A (getAttr (.ref x) name expr) Q E s:=by
 obtain ⟨od,J,hl⟩:=I.look
 exact PySem.W.get_value X J (PySem.W.plainGet_of hg).1 (PySem.W.findObj_own hh ha rfl (by rw [hl,hv])) hv' h
theorem yrz {pl:Sem Bool}{Q:Value×List Value->Shared->Prop}(X:K.In s.heap) (I:ObjM s.heap x dx C mA) (hg:plainGet K C name=true)
  (hf:findIn K (.ref C) name=some (some (.ref f))) (ht:isFn K (.ref f)=true) (hv:mA name=none) (h:Q (.ref f,[.ref x]) s) :
  wpAny (model prog w) A (getMethod (.ref x) name pl) Q E s:=by
 obtain ⟨od,J,hl⟩:=I.look
 exact PySem.W.method_fn X J (PySem.W.plainGet_of hg).1 (PySem.W.plainGet_of hg).2 hf (beq_iff_eq.mp ht) (by show (PySem.W.lookIn name od).map (·.isSome)=some false;rw [hl,hv];rfl) h
theorem yvd {ns:List Str}{Q:Unit->Shared->Prop}(X:K.In s.heap) (I:ObjM s.heap x dx C mA)
  (hs:findIn K (.ref C) "__setattr__" = some (some (.builtin "object.__setattr__"))) (hp:PySem.W.plainOver K C=true) (ht:PySem.W.takerIn K C name=some none) (hh:hasDictIn K C=true)
  (hw:PySem.Within mA ns) (hsz:ns.length<=sizeLine)
  (h:∀ h',ObjM h' x dx C (fun y=>if y=name then some v else mA y)->Heap.SameBut dx s.heap h'->Q () { s with heap:=h',toks:=s.toks+2 }) :
  wpAny (model prog w) A (setAttr (.ref x) name v) Q E s:=by
 obtain ⟨od,J,hl⟩:=I.look
 refine PySem.W.set_plain X J hs (PySem.W.osa_open (s:={ s with toks:=s.toks+1 }) (r:=none) X J hp ht fun b=>?_)
 obtain ⟨cd,hc,hd'⟩:=PySem.W.any_some hh
 have hx:s.heap.get? x=some ⟨.ref C,some dx,.plain,#[]⟩:=I.obj
 refine wpAny_bind (wpAny_pure (wpAny_bind (wpAny_bind (wpAny_loadPart hx (wpAny_bind (PySem.W.Looks.here (s:={ s with toks:=s.toks+1 }) (PySem.W.looks_clsIn X hc) ?_))))))
 rw [hd']
 refine wpAny_pure (a:=some dx) (wpAny_bind (wpAny_pure (wpAny_bind ?_)))
 refine wpAny_nsSet1 (s:={ s with toks:=s.toks+1 }) I.ns fun h' hn2 hs2=>?_
 obtain ⟨oD,esD,epD,hoD,hdD,hcD⟩:=hn2.count (PySem.Within.cons name v hw)
 refine wpAny_bind (wpAny_lookBehind hoD (by rw [hdD];exact pastItsLine_dict (Nat.le_trans hcD (by rw [length_cons];omega))) ?_)
 exact wpAny_pure (h _ ⟨(hs2.2 _ (Ne.symm I.ne)).trans I.obj,hn2,I.ne⟩ hs2)
theorem yrA {R:Result->Shared->Prop}{vs:List Value}{kw:List (Str×Value)}(X:K.In s.heap) (hm:makesIn K C=true)
  (hi:findIn K (.ref C) "__init__" = some (some (.ref f))) (hf:typeIn K (.ref f)=some (.type "function"))
  (h:codeAny (model prog w) (A.under (.builtin "type.__call__" ⟨.ref C::vs,kw⟩)) (.call (.ref f) ⟨.ref (s.heap.objs.size+1)::vs,kw⟩) (PySem.W.InitBack (s.heap.objs.size+1) R)
   { s with heap:=(s.heap.push emptyDict).push (instObj C s.heap.objs.size) }) :
  codeAny (model prog w) A (.call (.ref C) ⟨vs,kw⟩) R s:=by
 obtain ⟨hh,g,d,t,os⟩:=s
 exact PySem.W.make_core (PySem.W.makes_of X hm) (PySem.W.looks_findIn X hi) (fun self=>PySem.W.bind_fn X self hf) (.inl rfl) h
end
def yhU (f:Str) (v:V):List (Str×V)->List (Str×V)
 | []=>[(f,v)]
 | (g,x)::r=>if g=f then (g,v)::r else (g,x)::yhU f v r
theorem ygE (f g:Str) (v:V):∀ fs:List (Str×V),(yhU f v fs).lookup g=if g=f then some v else fs.lookup g
 | []=>by
  show List.lookup g [(f,v)]=_
  by_cases h:g=f
  .have hb:(g == f)=true:=beq_iff_eq.mpr h
   simp only [List.lookup,hb,if_pos h]
  .have hb:(g == f)=false:=beq_eq_false_iff_ne.mpr h
   simp only [List.lookup,hb,if_neg h]
 | (k,x)::r=>by
  have ih:=ygE f g v r
  rw [show yhU f v ((k,x)::r)=(if k=f then (k,v)::r else (k,x)::yhU f v r) from rfl]
  by_cases hk:k=f
  .rw [if_pos hk]
   by_cases h:g=k
   .have hb:(g == k)=true:=beq_iff_eq.mpr h
    simp only [List.lookup,hb,if_pos (h.trans hk)]
   .have hb:(g == k)=false:=beq_eq_false_iff_ne.mpr h
    simp only [List.lookup,hb,if_neg (fun e:g=f=>h (e.trans hk.symm))]
  .rw [if_neg hk]
   by_cases h:g=k
   .have hb:(g == k)=true:=beq_iff_eq.mpr h
    simp only [List.lookup,hb,if_neg (fun e:g=f=>hk (h.symm.trans e))]
   .have hb:(g == k)=false:=beq_eq_false_iff_ne.mpr h
    simp only [List.lookup,hb]
    exact ih
theorem ygF (f:Str) (v:V):∀ fs:List (Str×V),f∈(yhU f v fs).map (·.1)/\∀ g,g∈fs.map (·.1)->g∈(yhU f v fs).map (·.1)
 | []=>⟨by simp [yhU],fun g h=>by simp at h⟩
 | (k,x)::r=>by
  obtain ⟨i1,i2⟩:=ygF f v r
  rw [show yhU f v ((k,x)::r)=(if k=f then (k,v)::r else (k,x)::yhU f v r) from rfl]
  by_cases hk:k=f
  .rw [if_pos hk]
   subst hk
   exact ⟨by simp,fun g h=>by simpa using h⟩
  .rw [if_neg hk]
   refine ⟨?_,fun g h=>?_⟩
   .rw [map_cons]
    exact mem_cons_of_mem _ i1
   .rw [map_cons] at h ⊢
    rcases mem_cons.mp h with e|e
    .exact mem_cons.mpr (.inl e)
    .exact mem_cons_of_mem _ (i2 g e)
theorem ygG (f:Str) (v:V):∀ fs:List (Str×V),(yhU f v fs).length<=fs.length+1
 | []=>by simp [yhU]
 | (k,x)::r=>by
  have ih:=ygG f v r
  rw [show yhU f v ((k,x)::r)=(if k=f then (k,v)::r else (k,x)::yhU f v r) from rfl]
  by_cases hk:k=f
  .rw [if_pos hk,length_cons,length_cons];omega
  .rw [if_neg hk,length_cons,length_cons];omega
theorem RelO.some_of {v:V}{o:Option Value}(r:RelO (some v) o):∃ u,o=some u/\RelV v u:=by
 cases o with
 | none=>exact (show False from r).elim
 | some u=>exact ⟨u,rfl,r⟩
theorem RelO.none_of {o:Option Value}(r:RelO none o):o=none:=by
 cases o with
 | none=>rfl
 | some u=>exact (show False from r).elim
theorem yoO {v:V}{u:Value}(r:RelV v u):PySem.W.handedIn u=true:=by
 cases v with
 | non=>cases (show u=Value.none from r);rfl
 | bl b=>cases (show u=Value.bool b from r);rfl
 | int i=>obtain ⟨t,e⟩:=(show ∃ t,u=Value.int i t from r);cases e;rfl
 | str x=>obtain ⟨t,e⟩:=(show ∃ t,u=Value.str x t from r);cases e;rfl
 | byt b=>obtain ⟨t,e⟩:=(show ∃ t,u=Value.bytes b t from r);cases e;rfl
 | flt b=>obtain ⟨t,e⟩:=(show ∃ t,u=Value.float b t from r);cases e;rfl
 | ref a=>cases (show u=Value.ref a from r);rfl
 | ty n=>cases (show u=Value.type n from r);rfl
section
variable {P:Program}{w:World}{H H':Hp}{h h':Heap}{a C dx:Addr}{fs fs':List (Str×V)}
theorem yis (hok:HOk P w H h) (e:H a=some (.ins C dx fs)):∃ mA,ObjM h a dx C mA/\(∀ f,RelO (fs.lookup f) (mA f))/\PySem.Within mA (fs.map (·.1))/\fs.length<=1000/\H dx=some (.own a):=by
 obtain ⟨d,z,ne,ob,mA,n,r,q⟩:=(show ObjOk P w H h a (.ins C dx fs) from hok a _ e)
 exact ⟨mA,⟨ob,n,ne⟩,r,q,z,d⟩
end
structure Cls (K:PySem.W.Frag) (C:Addr):Prop where
 pg:plainGet K C Str.empty=true
 hd:hasDictIn K C=true
 po:PySem.W.plainOver K C=true
 sa:findIn K (.ref C) "__setattr__" = some (some (.builtin "object.__setattr__"))
theorem Cls.get {K:PySem.W.Frag}{C:Addr}(c:Cls K C) (f:Str):plainGet K C f=true:=c.pg
def NoAttr (K:PySem.W.Frag) (C:Addr) (f:Str):Prop:=findIn K (.ref C) f=some none
theorem NoAttr.taker {K:PySem.W.Frag}{C:Addr}{f:Str}(n:NoAttr K C f):PySem.W.takerIn K C f=some none:=by
 unfold PySem.W.takerIn
 rw [show findIn K (.ref C) f=some none from n]
 rfl
structure Meth (K:PySem.W.Frag) (C:Addr) (m:Str) (f:Addr):Prop where
 at_:findIn K (.ref C) m=some (some (.ref f))
 fn:isFn K (.ref f)=true
 kp:keepIn K (.ref f)=true
section
variable {X:Cx}{pins:List (Addr×Obj)}{σ:St}{H:Hp}{s:Shared}{a C dx:Addr}{fs:List (Str×V)}{f:Str}{v:V}{A:Around}{E:Value->Shared->Prop}
theorem yno {b:Bool}{Q:Value->Shared->Prop}(I:Inv X pins σ H s) (e:H a=some (.ins C dx fs)) (c:Cls X.K C) (n:NoAttr X.K C f) (l:fs.lookup f=some v)
  (h:∀ u s',Inv X pins σ H s'->RelV v u->Q u s'):wpAny (model X.prog X.w) A (getAttr (.ref a) f b) Q E s:=by
 obtain ⟨mA,O,r,_,_,_⟩:=yis I.hok e
 obtain ⟨u,hu,ru⟩:=RelO.some_of (v:=v) (o:=mA f) (by rw [<- l];exact r f)
 exact yvc I.kIn O (c.get f) c.hd n hu (yoO ru) (h u _ (I.tok _) ru)
theorem yfQ {m:Str}{g:Addr}{pl:Sem Bool}{Q:Value×List Value->Shared->Prop}(I:Inv X pins σ H s) (e:H a=some (.ins C dx fs)) (c:Cls X.K C) (k:Meth X.K C m g) (l:fs.lookup m=none)
  (h:Q (.ref g,[.ref a]) s):wpAny (model X.prog X.w) A (getMethod (.ref a) m pl) Q E s:=by
 obtain ⟨mA,O,r,_,_,_⟩:=yis I.hok e
 have hn:mA m=none:=RelO.none_of (by rw [<- l];exact r m)
 exact yrz I.kIn O (c.get m) k.at_ k.fn hn h
theorem ynp {y:V}{u:Value}{Q:Unit->Shared->Prop}(I:Inv X pins σ H s) (e:H a=some (.ins C dx fs)) (c:Cls X.K C) (n:NoAttr X.K C f) (hl:fs.length<1000) (ry:RelV y u)
  (h:∀ s',Inv X pins σ (upd H a (.ins C dx (yhU f y fs))) s'->Q () s'):wpAny (model X.prog X.w) A (setAttr (.ref a) f u) Q E s:=by
 obtain ⟨mA,O,r,wi,_,ho⟩:=yis I.hok e
 have hz:(fs.map (·.1)).length<=sizeLine:=by rw [length_map,sizeLine_eq];omega
 refine yvd I.kIn O c.sa c.po n.taker c.hd wi hz fun h' O' sb=>h _ ?_
 have hd:∃ o,h'.get? dx=some o:=let ⟨o,_,_,e',_⟩:=O'.ns;⟨o,e'⟩
 refine I.write (x:=a) (e:=dx) (by rw [e];exact True.intro) (.inr ho) (fun b q hb z=>(sb.2 b hb).trans z) hd ?_
 refine ⟨by rw [yu O.ne];exact ho,?_,O.ne,O'.obj,_,O'.ns,fun g=>?_,fun g hg=>?_⟩
 .have:=ygG f y fs;omega
 .show RelO ((yhU f y fs).lookup g) (if g=f then some u else mA g)
  rw [ygE]
  by_cases q:g=f
  .rw [if_pos q,if_pos q];exact ry
  .rw [if_neg q,if_neg q];exact r g
 .by_cases q:g=f
  .rw [q];exact (ygF f y fs).1
  .refine (ygF f y fs).2 g (wi g fun z=>hg ?_)
   show (if g=f then some u else mA g)=none
   rw [if_neg q];exact z
theorem Inv.made (I:Inv X pins σ H s):Inv X pins σ (upd (upd H s.heap.objs.size (.own (s.heap.objs.size+1))) (s.heap.objs.size+1) (.ins C s.heap.objs.size []))
  { s with heap:=(s.heap.push emptyDict).push (instObj C s.heap.objs.size) }:=by
 have e1:(s.heap.push emptyDict).get? s.heap.objs.size=some emptyDict:=Heap.get?_push_size s.heap rfl
 have e2:((s.heap.push emptyDict).push (instObj C s.heap.objs.size)).get? (s.heap.objs.size+1)=some (instObj C s.heap.objs.size):=by
  have:=Heap.get?_push_size (s.heap.push emptyDict) (o:=instObj C s.heap.objs.size) rfl
  rwa [Heap.size_push] at this
 have e3:(s.heap.push emptyDict).Ns s.heap.objs.size (fun _=>none):=⟨emptyDict,#[],_,e1,rfl,(fun e he=>absurd he (by simp)),fun _=>rfl⟩
 have I1:=I.laid (a:=s.heap.objs.size) (o:=.own (s.heap.objs.size+1)) (h':=s.heap.push emptyDict) (t':=s.toks) (fun b u q=>Heap.get?_push_of_some _ q) (Nat.le_refl _) ⟨_,e1⟩
 refine I1.laid (a:=s.heap.objs.size+1) (o:=.ins C s.heap.objs.size []) (t':=s.toks) (fun b u q=>Heap.get?_push_of_some _ q) (le_of_eq (Heap.size_push _ _)) ?_
 have ne:s.heap.objs.size≠s.heap.objs.size+1:=ne_of_lt (Nat.lt_succ_self _)
 refine ⟨by rw [yu ne,yr],zero_le _,ne,e2,fun _=>none,(Heap.Ns1.of_empty e3).at fun o q=>Heap.get?_push_of_some _ q,fun _=>True.intro,fun y hy=>absurd rfl hy⟩
theorem yve {prog:Program}{w:World}{env:Env}{e:Expr}{f:Str}{pos:Pos}{s:Shared}{Q:Value->Shared->Prop}(hb:attributeBase e f env (eval e env)=eval e env)
  (h:wpAny (model prog w) A (eval e env) (fun o s₁=>wpAny (model prog w) A (getAttr o f true) Q E s₁) E s):wpAny (model prog w) A (eval (.Attribute e f pos) env) Q E s :=
 Attribute_any_ h (by rw [arm_eval_Attribute,hb])
end
noncomputable def yDN (K:PySem.W.Frag) (ta:TE) (f:Str):TE:=fun σ H Q=>ta σ H fun x H1=>∃ a C dx fs v,x=.ref a/\H1 a=some (.ins C dx fs)/\Cls K C/\NoAttr K C f/\fs.lookup f=some v/\Q v H1
noncomputable def yBG (K:PySem.W.Frag) (ta tv:TE) (f:Str):TS:=fun D σ H=>tv σ H fun y H1=>ta σ H1 fun x H2=>∃ a C dx fs,x=.ref a/\H2 a=some (.ins C dx fs)/\Cls K C/\NoAttr K C f/\fs.length<1000 /\
 D.nx σ (upd H2 a (.ins C dx (yhU f y fs)))
section
variable {X:Cx}{o e value:Expr}{f:Str}{pos pos' tpos:Pos}{ta tv:TE}
theorem ytO (he:PE X e ta) (hb:attributeBase e f X.env (eval e X.env)=eval e X.env):PE X (.Attribute e f pos) (yDN X.K ta f):=by
 intro pins s σ H Q I h
 refine yve hb (thn (he pins s σ H _ I h) fun u s1 ⟨x,H1,I1,rx,a,C,dx,fs,v,ex,ea,c,n,l,q⟩=>?_)
 subst ex
 obtain rfl:u=Value.ref a:=rx
 exact yno I1 ea c n l fun u' s2 I2 ru=>⟨v,H1,I2,ru,q⟩
theorem ytP (ha:PE X o ta) (hv:PE X value tv) (hs:swapsWith value (some (.Attribute o f pos')) pos.line X.env=pure false):PS X (.Assign [.Attribute o f pos'] value pos) (yBG X.K ta tv f):=by
 intro pins s σ H D I h
 refine plainObj_wpAny_Assign_Attribute (thn (hv pins s σ H _ I h) fun u s1 ⟨y,H1,I1,ry,q⟩=>thn (ha pins s1 σ H1 _ I1 q) fun ov s2 ⟨x,H2,I2,rx,a,C,dx,fs,ex,ea,c,n,l,q2⟩=>?_) hs
 subst ex
 obtain rfl:ov=Value.ref a:=rx
 exact ynp I2 ea c n l ry fun s3 I3=>⟨σ,_,I3,q2⟩
end
section
variable {X:Cx}{pins:List (Addr×Obj)}{σ:St}{H:Hp}{s:Shared}{A:Around}{E:Value->Shared->Prop}{Q:Value->Shared->Prop}{c:Value}{b:Bool}
inductive ymn (K:PySem.W.Frag) (H:Hp):V->Value->Prop where
 | non:ymn K H .non (.type "NoneType")
 | bl (x:Bool):ymn K H (.bl x) (.type "bool")
 | int (i:Int):ymn K H (.int i) (.type "int")
 | str (x:Str):ymn K H (.str x) (.type "str")
 | flt (x:UInt64):ymn K H (.flt x) (.type "float")
 | lst {a:Addr}{xs:List V}(e:H a=some (.lst xs)):ymn K H (.ref a) (.type "list")
 | frz {a:Addr}{o:Obj}{xs:List V}(e:H a=some (.frz o (.lst xs))):ymn K H (.ref a) (.type "list")
 | tup {a:Addr}{xs:List V}(e:H a=some (.tup xs)):ymn K H (.ref a) (.type "tuple")
 | kt {a:Addr}{o:Obj}(e:K.lookup a=some o) (c:o.cls=.type "tuple"):ymn K H (.ref a) (.type "tuple")
 | dK {a:Addr}{kvs:List (Key×V)}(e:H a=some (.dK kvs)):ymn K H (.ref a) (.type "dict")
 | dT {a:Addr}{kvs:List (List Key×V)}(e:H a=some (.dT kvs)):ymn K H (.ref a) (.type "dict")
 | ins {a C dx:Addr}{fs:List (Str×V)}(e:H a=some (.ins C dx fs)) (cl:Cls K C) (ha:findIn K (.ref C) "__class__" = some (some (.builtin "object.__class__")))
   (hn:PySem.W.specialIn K (.builtin "object.__class__") "__get__" = some (some (.builtin "getset_descriptor.__get__"))) (htk:PySem.W.takesIn K (.builtin "object.__class__")=some true)
   (hm:mroIn K C (.type "object")=some true):ymn K H (.ref a) (.ref C)
theorem yoP {x:V}{u t:Value}(I:Inv X pins σ H s) (rx:RelV x u) (ty:ymn X.K H x t) (e:PySem.W.kitOne X.K t c=some b) (h:∀ tk,Q (.bool b) { s with toks:=tk }) :
  wpAny (model X.prog X.w) A (call (.builtin "isinstance") [u,c]) Q E s:=by
 cases ty with
 | non=>cases (show u=Value.none from rx);exact kia_one PySem.W.kitx_none I.kIn True.intro e (fun z=>nomatch z) h
 | bl y=>cases (show u=Value.bool y from rx);exact kia_one PySem.W.kitx_bool I.kIn True.intro e (fun z=>nomatch z) h
 | int i=>obtain ⟨t,q⟩:=(show ∃ t,u=Value.int i t from rx);cases q;exact kia_one PySem.W.kitx_int I.kIn True.intro e (fun z=>nomatch z) h
 | str y=>obtain ⟨t,q⟩:=(show ∃ t,u=Value.str y t from rx);cases q;exact kia_one PySem.W.kitx_str I.kIn True.intro e (fun z=>nomatch z) h
 | flt y=>obtain ⟨t,q⟩:=(show ∃ t,u=Value.float y t from rx);cases q;exact kia_one PySem.W.kitx_float I.kIn True.intro e (fun z=>nomatch z) h
 | @lst a xs ea =>
  cases (show u=Value.ref a from rx)
  obtain ⟨_,_,n,_,h1⟩:=(show ObjOk X.prog X.w H s.heap a (.lst xs) from I.hok a _ ea)
  exact kia_one PySem.W.kitx_list I.kIn ⟨_,h1,rfl⟩ e (fun z=>nomatch z) h
 | @frz a ob xs ea =>
  cases (show u=Value.ref a from rx)
  obtain ⟨_,_,_,n,_,h1⟩:=(show ObjOk X.prog X.w H s.heap a (.frz ob (.lst xs)) from I.hok a _ ea)
  exact kia_one PySem.W.kitx_list I.kIn ⟨_,h1,rfl⟩ e (fun z=>nomatch z) h
 | @tup a xs ea =>
  cases (show u=Value.ref a from rx)
  obtain ⟨_,_,_,p⟩:=(show ObjOk X.prog X.w H s.heap a (.tup xs) from I.hok a _ ea)
  obtain ⟨o,h1,h2,_⟩:=p
  exact kia_one PySem.W.kitx_tuple I.kIn ⟨o,h1,h2⟩ e (fun z=>nomatch z) h
 | @kt a ob ek ck =>
  cases (show u=Value.ref a from rx)
  exact kia_one PySem.W.kitx_tuple I.kIn ⟨ob,I.kIn a ob ek,ck⟩ e (fun z=>nomatch z) h
 | @dK a kvs ea =>
  cases (show u=Value.ref a from rx)
  obtain ⟨_,_,vs,_,p⟩:=(show ObjOk X.prog X.w H s.heap a (.dK kvs) from I.hok a _ ea)
  obtain ⟨o,es,ep,h1,h2,_⟩:=p
  exact kia_one PySem.W.kitx_dict I.kIn ⟨o,h1,h2.1⟩ e (fun z=>nomatch z) h
 | @dT a kvs ea =>
  cases (show u=Value.ref a from rx)
  obtain ⟨_,_,xs,_,o,es,ep,h1,h2,_⟩:=(show ObjOk X.prog X.w H s.heap a (.dT kvs) from I.hok a _ ea)
  exact kia_one PySem.W.kitx_dict I.kIn ⟨o,h1,h2.1⟩ e (fun z=>nomatch z) h
 | @ins a C dx fs ea cl ha hn htk hm =>
  cases (show u=Value.ref a from rx)
  obtain ⟨mA,O,_⟩:=yis I.hok ea
  obtain ⟨od,J,_⟩:=O.look
  exact kia_one (PySem.W.kitx_own (cl.get _) cl.hd ha hn htk hm) I.kIn J e (fun z=>nomatch z) h
end
end L2
namespace L2
open PySem PySem.Spec PyProof.Rows
structure Room (k:Nat) (A:Around):Prop where
 hd:A.handled=none
 dp:A.depth+3*k+5<recursionLimit
 un:A.units+16*k+200<cLine
theorem Room.mono {j k:Nat}{A:Around}(r:Room k A) (h:j<=k):Room j A:=⟨r.hd,by have:=r.dp;omega,by have:=r.un;omega⟩
theorem Room.deeper {k:Nat}{A:Around}(r:Room (k+1) A) (env:Env):Room k (A.deeper env) :=
 ⟨r.hd,by have:=r.dp;show A.depth+1+3*k+5<_;omega,by have:=r.un;show A.units+3+16*k+200<_;omega⟩
theorem ynq {A:Around}{C:Addr}{us:List Value}{kw:List (Str×Value)}:(A.under (.builtin "type.__call__" ⟨.ref C::us,kw⟩)).depth=A.depth+1:=by
 first|rfl|simp [Around.under,Code.weight,Code.isCreation,Code.isGuard,Code.isCaller,Code.frames,Code.isFrame,guardIds]
theorem ynr {A:Around}{C:Addr}{us:List Value}{kw:List (Str×Value)}:(A.under (.builtin "type.__call__" ⟨.ref C::us,kw⟩)).units=A.units+1:=by
 first|rfl|simp [Around.under,Code.cUnits,Code.frames,Code.isFrame]
theorem Room.make {k:Nat}{A:Around}(r:Room (k+1) A) (C:Addr) (us:List Value) (kw:List (Str×Value)):Room k (A.under (.builtin "type.__call__" ⟨.ref C::us,kw⟩)) :=
 ⟨r.hd,by have:=r.dp;rw [ynq];omega,by have:=r.un;rw [ynr];omega⟩
theorem Room.depth {k:Nat}{A:Around}(r:Room k A):A.depth<recursionLimit:=by have:=r.dp;omega
theorem Room.units {k:Nat}{A:Around}(r:Room k A):A.units+64<cLine:=by have:=r.un;omega
def ytQ:TA:=fun _ H Q=>Q [] H
def ylb (ta:TE) (tr:TA):TA:=fun σ H Q=>ta σ H fun x H1=>tr σ H1 fun xs H2=>Q (x::xs) H2
section
variable {X:Cx}{e:Expr}{es:List Expr}{te:TE}{t:TA}{pos:Pos}
theorem yge:PA X [] ytQ:=fun _ _ _ _ H Q I h=>Calls.spliced_nil ⟨[],H,I,.nil,h⟩
theorem ydR (ha:PE X e te) (hr:PA X es t) (hs:starEach (e::es) X.env=(false,eval e X.env)::starEach es X.env:=by rfl):PA X (e::es) (ylb te t):=by
 intro pos pins s σ H Q I h
 rw [hs]
 show wpAny _ _ (spliced ((false,eval e X.env)::backTo pos (starEach es X.env))) _ _ s
 refine Calls.spliced_cons (thn (ha pins s σ H _ I h) fun u s1 ⟨x,H1,I1,r1,q1⟩=>?_)
 exact thn (hr pos pins s1 σ H1 _ I1 q1) fun us s2 ⟨xs,H2,I2,r2,q2⟩=>⟨x::xs,H2,I2,.cons r1 r2,q2⟩
def yDO (t:TA):TE:=fun σ H Q=>t σ H fun xs H1=>xs.length<=sizeLine/\∀ p,H1 p=none->Q (.ref p) (upd H1 p (.tup xs))
def yDP (t:TA):TE:=fun σ H Q=>t σ H fun xs H1=>xs.length<=sizeLine/\∀ p,H1 p=none->Q (.ref p) (upd H1 p (.lst xs))
theorem yyf {x1} (h:PA X es t):PE X (.Tuple es x1 pos) (yDO t):=by
 intro pins s σ H Q I hq
 refine wpAny_Tuple_spliced (thn (h pos pins s σ H _ I hq) fun us s1 ⟨xs,H1,I1,r,z,q⟩=>⟨by rw [<- r.length];exact z,?_⟩)
 have hf:H1 s1.heap.objs.size=none:=I1.hok.fresh (Nat.le_refl _)
 refine ⟨.ref s1.heap.objs.size,upd H1 s1.heap.objs.size (.tup xs),I1.laid (t':=s1.toks) (fun b u e=>Heap.get?_push_of_some _ e) (Nat.le_refl _) ?_,rfl,q _ hf⟩
 exact ⟨z,us,r,⟨_,Heap.get?_push_size _ rfl,rfl,_,rfl⟩⟩
theorem yyg (h:PA X es t):PE X (.List es pos) (yDP t):=by
 intro pins s σ H Q I hq
 refine wpAny_List_spliced (thn (h pos pins s σ H _ I hq) fun us s1 ⟨xs,H1,I1,r,z,q⟩=>⟨by rw [<- r.length];exact z,?_⟩)
 have hf:H1 s1.heap.objs.size=none:=I1.hok.fresh (Nat.le_refl _)
 refine ⟨.ref s1.heap.objs.size,upd H1 s1.heap.objs.size (.lst xs),I1.laid (t':=s1.toks) (fun b u e=>Heap.get?_push_of_some _ e) (Nat.le_refl _) ?_,rfl,q _ hf⟩
 exact ⟨z,us,0,r,Heap.get?_push_size _ rfl⟩
end
abbrev Sp:=List V->Hp->VK->XK->Prop
abbrev CXT:=List Env->Hp->Shared->XK->Value->Shared->Prop
structure Env0 (P:Program) (w:World) (K:PySem.W.Frag) (mg:Str->Option Value) (base:Heap) (A:Around) (outer:List Env) (s:Shared) (H:Hp):Prop where
 frames:A.frames=some outer
 mod:Mod K mg base
 bs:∀ b o,base.get? b=some o->s.heap.get? b=some o/\H b=none
 bsz:base.objs.size<=s.heap.objs.size
 funs:s.heap.FunFrames base outer
 frf:∀ b∈frs outer,H b=none
 hok:HOk P w H s.heap
 bare:AllBare s.gens
def CE (outer:List Env) (P:Program) (w:World) (H:Hp) (s:Shared) (Q:VK) (u:Value) (s':Shared):Prop :=
 ∃ v H',s'.os=s.os/\AllBare s'.gens/\Un (frs outer) [] H H' s.heap s'.heap/\HOk P w H' s'.heap/\RelV v u/\Q v H'
def CR (CX:CXT) (outer:List Env) (P:Program) (w:World) (H:Hp) (s:Shared) (Q:VK) (E:XK) (r:Result) (s':Shared):Prop :=
 match r with
 | .ok (.ret u)=>CE outer P w H s Q u s'
 | .ok _=>False
 | .error e=>CX outer H s E e s'
structure FnOk (P:Program) (w:World) (K:PySem.W.Frag) (mg:Str->Option Value) (base:Heap) (CX:CXT) (k:Nat) (f:Addr) (fd:FuncData) (ps:List Str) (sp:Sp):Prop where
 len:∀ vs H Q E,sp vs H Q E->vs.length=ps.length
 run:∀ (A:Around) (outer:List Env) (s:Shared) (H:Hp) (args:Args) (us:List Value) (vs:List V) (Q:VK) (E:XK),Room k A->Env0 P w K mg base A outer s H->BindsTo s fd args (ps.zip us)->Vals vs us->sp vs H Q E ->
  codeAny (model P w) A (.call (.ref f) args) (CR CX outer P w H s Q E) s
theorem FnOk.mono {P:Program}{w:World}{K:PySem.W.Frag}{mg:Str->Option Value}{base:Heap}{CX:CXT}{j k:Nat}{f:Addr}{fd:FuncData}{ps:List Str}{sp:Sp}(F:FnOk P w K mg base CX j f fd ps sp) (h:j<=k) :
  FnOk P w K mg base CX k f fd ps sp:=⟨F.len,fun A outer s H args us vs Q E hr=>F.run A outer s H args us vs Q E (hr.mono h)⟩
theorem FnOk.imp {P:Program}{w:World}{K:PySem.W.Frag}{mg:Str->Option Value}{base:Heap}{CX:CXT}{k:Nat}{f:Addr}{fd:FuncData}{ps:List Str}{sp sp':Sp}(F:FnOk P w K mg base CX k f fd ps sp)
  (h:∀ vs H Q E,sp' vs H Q E->sp vs H Q E):FnOk P w K mg base CX k f fd ps sp' :=
 ⟨fun vs H Q E q=>F.len vs H Q E (h _ _ _ _ q),fun A outer s H args us vs Q E hr he hb hv hs=>F.run A outer s H args us vs Q E hr he hb hv (h _ _ _ _ hs)⟩
theorem Env0.make {P:Program}{w:World}{K:PySem.W.Frag}{mg:Str->Option Value}{base:Heap}{A:Around}{outer:List Env}{s:Shared}{H:Hp}(e:Env0 P w K mg base A outer s H) (C:Addr) (us:List Value) (kw:List (Str×Value)) :
  Env0 P w K mg base (A.under (.builtin "type.__call__" ⟨.ref C::us,kw⟩)) outer s H:=⟨by first|exact e.frames|(simpa [Around.under,Code.envs,Code.isFrame,pushEnvs] using e.frames),e.mod,e.bs,e.bsz,e.funs,e.frf,e.hok,e.bare⟩
section
variable {X:Cx}{pins:List (Addr×Obj)}{σ:St}{H:Hp}{s s':Shared}
theorem Inv.env0 (I:Inv X pins σ H s):Env0 X.prog X.w X.K X.mg X.base X.A X.stack s H :=
 ⟨I.ok.frames,I.ok.mod,I.bs,Nat.le_trans I.ok.bsz I.sz,I.stack,I.stkFree,I.hok,I.bare⟩
theorem Inv.after {Q:VK}{u:Value}(I:Inv X pins σ H s) (h:CE X.stack X.prog X.w H s Q u s'):EP X pins σ Q u s':=by
 obtain ⟨v,H',os,bare,un,hok,r,q⟩:=h
 obtain ⟨hh,g,d,t,os'⟩:=s'
 obtain rfl:os'=s.os:=os
 exact ⟨v,H',I.call (h':=hh) (g':=g) (d':=d) (t':=t) (ch:=[]) un hok bare (fun b z=>absurd z (by simp)),r,q⟩
end
def yrB (sp:Sp) (dvs:List V) (E:XK) (t:TA):TE:=fun σ H Q=>t σ H fun vs H1=>sp (vs++dvs) H1 Q E
noncomputable def yvf (C:Addr) (m:Str) (sp:Sp) (dvs:List V) (E:XK) (ta:TE) (t:TA):TE:=fun σ H Q=>ta σ H fun x H1=>∃ a dx fs,x=.ref a/\H1 a=some (.ins C dx fs)/\fs.lookup m=none /\
 t σ H1 fun vs H2=>sp (x::(vs++dvs)) H2 Q E
noncomputable def yrC (C:Addr) (sp:Sp) (dvs:List V) (E:XK) (t:TA):TE:=fun σ H Q=>t σ H fun vs H1=>∀ x dx,H1 x=none->H1 dx=none->dx≠x ->
 sp (.ref x::(vs++dvs)) (upd (upd H1 dx (.own x)) x (.ins C dx [])) (fun v H2=>v=.non/\Q (.ref x) H2) E
noncomputable def Binds (K:PySem.W.Frag) (fd:FuncData) (ps:List Str) (ds:List Value):Prop :=
 ∀ (s:Shared) (us:List Value),K.In s.heap->(us++ds).length=ps.length->BindsTo s fd ⟨us,[]⟩ (ps.zip (us++ds))
theorem Binds.all {K:PySem.W.Frag}{fd:FuncData}{ps:List Str}(h:∀ us:List Value,us.length=ps.length->bindArgs fd ⟨us,[]⟩=pure (ps.zip us)):Binds K fd ps []:=fun s us _ hl=>by
 rw [append_nil] at hl ⊢
 exact .of_eq (h us hl)
noncomputable def yeh (CX:CXT) (X:Cx) (E:XK):Prop:=∀ (pins:List (Addr×Obj)) (σ:St) (H:Hp) (s:Shared) (e:Value) (s':Shared),Inv X pins σ H s->CX X.stack H s E e s'->X.xe e s'
section
variable {X:Cx}{CX:CXT}{k:Nat}{f C:Addr}{fd:FuncData}{ps:List Str}{sp:Sp}{dvs:List V}{ds:List Value}{E:XK}{x m:Str}{p pos apos:Pos}{e o:Expr}{es:List Expr}{ta:TE}{t:TA}
theorem yjy {pins:List (Addr×Obj)}{σ:St}{H:Hp}{s:Shared}{Q:VK}{us:List Value}{vs:List V}(F:FnOk X.prog X.w X.K X.mg X.base CX k f fd ps sp) (hr:Room k X.A) (hb:Binds X.K fd ps ds) (hd:Vals dvs ds) (hx:yeh CX X E)
  (I:Inv X pins σ H s) (r:Vals vs us) (h:sp (vs++dvs) H Q E):wpAny (model X.prog X.w) X.A (call (.ref f) us) (EP X pins σ Q) X.xe s:=by
 have r2:Vals (vs++dvs) (us++ds):=r.append hd
 have hl:(us++ds).length=ps.length:=by rw [<- r2.length];exact F.len _ _ _ _ h
 refine wpAny_call (codeAny_mono (F.run X.A X.stack s H ⟨us,[]⟩ (us++ds) (vs++dvs) Q E hr I.env0 (hb s us I.kIn hl) r2 h) fun r s' hq=>?_)
 cases r with
 | error e=>exact hx pins σ H s e s' I hq
 | ok fl =>
  cases fl with
  | ret u=>exact I.after hq
  | next=>exact False.elim hq
  | brk=>exact False.elim hq
  | cont=>exact False.elim hq
theorem yvg (F:FnOk X.prog X.w X.K X.mg X.base CX k f fd ps sp) (hr:Room k X.A) (hg:Gl X x) (hm:X.mg x=some (.ref f)) (hk:keepIn X.K (.ref f)=true) (hb:Binds X.K fd ps ds) (hd:Vals dvs ds) (hx:yeh CX X E)
  (ha:PA X (e::es) t) (hdb:(x == ("__debug__":Str))=false:=by decide) (he:starEach (e::es) X.env=(false,eval e X.env)::starEach es X.env:=by rfl) (hpl:(backTo pos (starEach es X.env)).any (·.1)=false:=by rfl) :
  PE X (.Call (.Name x p) (e::es) [] pos) (yrB sp dvs E t):=by
 intro pins s σ H Q I h
 refine wpAny_Call_Name_kw (yeo I hg hm ?_ hdb)
 refine PySem.W.callWith_K (h₀:=X.base) I.ok.mod.kin hk (thn (ha pos pins s σ H _ I h) fun us s1 ⟨vs,H1,I1,r,q⟩=>⟨I1.kIn,?_⟩) he hpl
 exact yjy F hr hb hd hx I1 r q
theorem yoQ {pl:Sem Bool}(he:PE X o ta) (c:Cls X.K C) (hm:Meth X.K C m f) (F:FnOk X.prog X.w X.K X.mg X.base CX k f fd ps sp) (hr:Room k X.A) (hb:Binds X.K fd ps ds) (hd:Vals dvs ds) (hx:yeh CX X E) (ha:PA X (e::es) t)
  (hst:starEach (e::es) X.env=(false,eval e X.env)::starEach es X.env:=by rfl) (hpl:(backTo pos (starEach es X.env)).any (·.1)=false:=by rfl)
  (ht:eval (.Call (.Attribute o m apos) (e::es) [] pos) X.env=(do
   let ov <- eval o X.env
   standAt apos.atName
   let (f,first) <- holding [ov] (getMethod ov m pl)
   callWith pos f first (backTo pos (starEach (e::es) X.env)) (backToKw pos (keywordEach [] X.env))):=by rfl) :
  PE X (.Call (.Attribute o m apos) (e::es) [] pos) (yvf C m sp dvs E ta t):=by
 intro pins s σ H Q I h
 refine PySem.W.methodCall_KW (pl:=pl) (thn (he pins s σ H _ I h) fun u s1 ⟨x,H1,I1,rx,a,dx,fs,ex,ea,l,q⟩=>?_) ht
 subst ex
 obtain rfl:u=Value.ref a:=rx
 refine yfQ I1 ea c hm l ?_
 refine PySem.W.callWith_K (first:=[.ref a]) (h₀:=X.base) I.ok.mod.kin hm.kp (thn (ha pos pins s1 σ H1 _ I1 q) fun us s2 ⟨vs,H2,I2,r,q2⟩=>⟨I2.kIn,?_⟩) hst hpl
 exact yjy (us:=.ref a::us) (vs:=.ref a::vs) F hr hb hd hx I2 (.cons rfl r) q2
theorem ymo {pl:Sem Bool}(he:PE X o ta) (c:Cls X.K C) (hm:Meth X.K C m f) (F:FnOk X.prog X.w X.K X.mg X.base CX k f fd ps sp) (hr:Room k X.A) (hb:Binds X.K fd ps ds) (hd:Vals dvs ds) (hx:yeh CX X E)
  (ht:eval (.Call (.Attribute o m apos) [] [] pos) X.env=(do
   let ov <- eval o X.env
   standAt apos.atName
   let (f,first) <- holding [ov] (getMethod ov m pl)
   callWith pos f first (backTo pos (starEach [] X.env)) (backToKw pos (keywordEach [] X.env))):=by rfl) :
  PE X (.Call (.Attribute o m apos) [] [] pos) (yvf C m sp dvs E ta ytQ):=by
 intro pins s σ H Q I h
 refine PySem.W.methodCall_KW (pl:=pl) (thn (he pins s σ H _ I h) fun u s1 ⟨x,H1,I1,rx,a,dx,fs,ex,ea,l,q⟩=>?_) ht
 subst ex
 obtain rfl:u=Value.ref a:=rx
 refine yfQ I1 ea c hm l ?_
 exact PySem.W.callWith_K0 (first:=[.ref a]) I1.kIn hm.kp (yjy (us:=[.ref a]) (vs:=[.ref a]) F hr hb hd hx I1 (.cons rfl .nil) q)
structure Mk (K:PySem.W.Frag) (C f:Addr):Prop where
 makes:makesIn K C=true
 init:findIn K (.ref C) "__init__" = some (some (.ref f))
 fn:isFn K (.ref f)=true
 kp:keepIn K (.ref C)=true
theorem ymp {pins:List (Addr×Obj)}{σ:St}{H:Hp}{s:Shared}{Q:VK}{us:List Value}{vs:List V}(M:Mk X.K C f) (F:FnOk X.prog X.w X.K X.mg X.base CX k f fd ps sp) (hr:Room (k+1) X.A) (hb:Binds X.K fd ps ds) (hd:Vals dvs ds)
  (hx:yeh CX X E) (I:Inv X pins σ H s) (r:Vals vs us)
  (h:∀ x dx,H x=none->H dx=none->dx≠x->sp (.ref x::(vs++dvs)) (upd (upd H dx (.own x)) x (.ins C dx [])) (fun v H2=>v=.non/\Q (.ref x) H2) E) :
  wpAny (model X.prog X.w) X.A (call (.ref C) us) (EP X pins σ Q) X.xe s:=by
 have hq:=h (s.heap.objs.size+1) s.heap.objs.size (I.hok.fresh (Nat.le_succ _)) (I.hok.fresh (Nat.le_refl _)) (ne_of_lt (Nat.lt_succ_self _))
 have I2:=Inv.made (C:=C) I
 have r2:Vals (V.ref (s.heap.objs.size+1)::(vs++dvs)) (Value.ref (s.heap.objs.size+1)::(us++ds)):=.cons rfl (r.append hd)
 have hl:(Value.ref (s.heap.objs.size+1)::us++ds).length=ps.length:=by
  have e:=r2.length
  rw [F.len _ _ _ _ hq] at e
  exact e.symm
 refine wpAny_call (yrA (f:=f) I.kIn M.makes M.init (beq_iff_eq.mp M.fn) (codeAny_mono (F.run _ X.stack _ _ ⟨Value.ref (s.heap.objs.size+1)::us,[]⟩ (Value.ref (s.heap.objs.size+1)::(us++ds)) _ _ E (hr.make C us [])
  (I2.env0.make C us []) (hb _ (Value.ref (s.heap.objs.size+1)::us) I2.kIn hl) r2 hq) fun r s' hq'=>?_))
 cases r with
 | error e=>exact hx pins σ _ _ e s' I2 hq'
 | ok fl =>
  cases fl with
  | ret u =>
   obtain ⟨v,H',I3,rv,ev,q3⟩:=I2.after hq'
   subst ev
   exact ⟨rv,⟨V.ref (s.heap.objs.size+1),H',I3,rfl,q3⟩⟩
  | next=>exact False.elim hq'
  | brk=>exact False.elim hq'
  | cont=>exact False.elim hq'
theorem yoR (M:Mk X.K C f) (F:FnOk X.prog X.w X.K X.mg X.base CX k f fd ps sp) (hr:Room (k+1) X.A) (hg:Gl X x) (hm:X.mg x=some (.ref C)) (hb:Binds X.K fd ps ds) (hd:Vals dvs ds) (hx:yeh CX X E)
  (ha:PA X (e::es) t) (hdb:(x == ("__debug__":Str))=false:=by decide) (he:starEach (e::es) X.env=(false,eval e X.env)::starEach es X.env:=by rfl) (hpl:(backTo pos (starEach es X.env)).any (·.1)=false:=by rfl) :
  PE X (.Call (.Name x p) (e::es) [] pos) (yrC C sp dvs E t):=by
 intro pins s σ H Q I h
 refine wpAny_Call_Name_kw (yeo I hg hm ?_ hdb)
 refine PySem.W.callWith_K (h₀:=X.base) I.ok.mod.kin M.kp (thn (ha pos pins s σ H _ I h) fun us s1 ⟨vs,H1,I1,r,q⟩=>⟨I1.kIn,?_⟩) he hpl
 exact ymp M F hr hb hd hx I1 r q
theorem yrD (M:Mk X.K C f) (F:FnOk X.prog X.w X.K X.mg X.base CX k f fd ps sp) (hr:Room (k+1) X.A) (hg:Gl X x) (hm:X.mg x=some (.ref C)) (hb:Binds X.K fd ps ds) (hd:Vals dvs ds) (hx:yeh CX X E)
  (hdb:(x == ("__debug__":Str))=false:=by decide):PE X (.Call (.Name x p) [] [] pos) (yrC C sp dvs E ytQ):=by
 intro pins s σ H Q I h
 refine wpAny_Call_Name_kw (yeo I hg hm ?_ hdb)
 exact PySem.W.callWith_K0 I.kIn M.kp (ymp (us:=[]) M F hr hb hd hx I .nil h)
end
section
variable {X:Cx}{CX:CXT}{k:Nat}{f C:Addr}{fd:FuncData}{ps ks:List Str}{sp:Sp}{E:XK}{x m:Str}{p pos apos kpos:Pos}{e o:Expr}{es:List Expr}{kws:List Keyword}{te ta:TE}{t tk:TA}{nm:Option Str}
variable {g:List Value->List Value->List Value}{gV:List V->List V->List V}
end
structure ydC (N P:List Str) (sc:Scope):Prop where
 kind:sc.kind=.function
 co:sc.isCoroutine=false
 gen:sc.isGenerator=false
 nd:N.Nodup
 pre:N.take P.length=P
 par:∀ x∈P,sc.names.lookup x=some .local \/ sc.names.lookup x=some .cell
 nofree:∀ y∈sc.names,y.2≠.free
theorem yjz {kindOf:Str->Option NameKind}{x:Str}:∀ {binds:List (Str×Value)}{m:Str->Option Value},(∀ v,(x,v)∉binds)->bindL kindOf binds m x=m x
 | [],_,_=>rfl
 | (n,v)::r,m,h=>by
  unfold bindL
  rw [yjz fun w hw=>h w (mem_cons_of_mem _ hw)]
  split
  .have:x≠n:=by rintro rfl;exact h v mem_cons_self
   simp [this]
  .rfl
theorem yjA {kindOf:Str->Option NameKind}{x:Str}:∀ {binds:List (Str×Value)}{m:Str->Option Value},(∀ v,(x,v)∉binds)->bindC kindOf binds m x=m x
 | [],_,_=>rfl
 | (n,v)::r,m,h=>by
  unfold bindC
  rw [yjA fun w hw=>h w (mem_cons_of_mem _ hw)]
  split
  .rfl
  .have:x≠n:=by rintro rfl;exact h v mem_cons_self
   simp [this]
theorem yjB {kindOf:Str->Option NameKind}{x:Str}{v:Value}:∀ {P:List Str}{vs:List Value}{i:Nat}{m:Str->Option Value},P.Nodup->P[i]?=some x->vs[i]?=some v->kindOf x=some .local ->
  bindL kindOf (P.zip vs) m x=some v
 | [],_,_,_,_,h,_,_=>by simp at h
 | _::_,[],_,_,_,_,h,_=>by simp at h
 | p::P,w::vs,0,m,nd,h1,h2,hk=>by
  simp at h1 h2;subst h1;subst h2
  show bindL kindOf ((p,w)::P.zip vs) m p=_
  unfold bindL
  rw [yjz fun v hv=>(List.nodup_cons.mp nd).1 (of_mem_zip hv).1,if_pos hk]
  simp
 | p::P,w::vs,i+1,m,nd,h1,h2,hk=>by
  show bindL kindOf ((p,w)::P.zip vs) m x=_
  unfold bindL
  exact yjB (i:=i) (List.nodup_cons.mp nd).2 (by simpa using h1) (by simpa using h2) hk
theorem yjC {kindOf:Str->Option NameKind}{x:Str}{v:Value}:∀ {P:List Str}{vs:List Value}{i:Nat}{m:Str->Option Value},P.Nodup->P[i]?=some x->vs[i]?=some v->kindOf x≠some .local ->
  bindC kindOf (P.zip vs) m x=some v
 | [],_,_,_,_,h,_,_=>by simp at h
 | _::_,[],_,_,_,_,h,_=>by simp at h
 | p::P,w::vs,0,m,nd,h1,h2,hk=>by
  simp at h1 h2;subst h1;subst h2
  show bindC kindOf ((p,w)::P.zip vs) m p=_
  unfold bindC
  rw [yjA fun v hv=>(List.nodup_cons.mp nd).1 (of_mem_zip hv).1,if_neg hk]
  simp
 | p::P,w::vs,i+1,m,nd,h1,h2,hk=>by
  show bindC kindOf ((p,w)::P.zip vs) m x=_
  unfold bindC
  exact yjC (i:=i) (List.nodup_cons.mp nd).2 (by simpa using h1) (by simpa using h2) hk
def start (N:List Str) (vs:List V):St:=vs.map some++replicate (N.length-vs.length) none
noncomputable def ylc (CX:CXT) (P:Program) (w:World) (K:PySem.W.Frag) (mg:Str->Option Value) (base:Heap) (N:List Str) (qual:Str) (scope:Scope) (f:Addr) (cd:Value) (A:Around) (outer:List Env) (s:Shared) (H:Hp) (E:XK):Cx where
 prog:=P
 w:=w
 K:=K
 mg:=mg
 base:=base
 A:=A.deeper (envOfC qual scope s.heap.objs.size f cd)
 N:=N
 s₀:=s
 H₀:=H
 env:=envOfC qual scope s.heap.objs.size f cd
 outer:=outer
 stack:=envOfC qual scope s.heap.objs.size f cd::outer
 ex:=[]
 calm:=true
 fn:=fun _=>true
 pn:=[]
 xe:=fun e s'=>wpAny (model P w) (A.deeper (envOfC qual scope s.heap.objs.size f cd)) (leaving (envOfC qual scope s.heap.objs.size f cd) e) (fun _ s''=>CX outer H s E e s'') (fun e' s''=>CX outer H s E e' s'') s'
theorem ymq {sc:Scope}{n:Nat}{x:Str}(h:sc.names.lookup x=some .cell):∃ c,(cellsFrom n sc.names []).lookup x=some c:=by
 have q:=PySem.W.cellsFrom_some sc.names n [] (.inl h)
 exact Option.isSome_iff_exists.mp q
theorem yoS {CX:CXT}{P:Program}{w:World}{K:PySem.W.Frag}{mg:Str->Option Value}{base:Heap}{N ps:List Str}{qual:Str}{scope:Scope}{f:Addr}{cd:Value}{A:Around}{outer:List Env}{s s1:Shared}{H:Hp}{E:XK}{us:List Value}{vs:List V}
  (S:ydC N ps scope) (hd:A.handled=none) (e0:Env0 P w K mg base A outer s H) (hl:vs.length=ps.length) (r:Vals vs us)
  (x:InCallC s s.heap.objs.size (bindL (envOfC qual scope s.heap.objs.size f cd).kindOf (ps.zip us) fun _=>none) (cellsFrom (s.heap.objs.size+1) scope.names []) (bindC (envOfC qual scope s.heap.objs.size f cd).kindOf (ps.zip us) fun _=>none) s1) :
  Inv (ylc CX P w K mg base N qual scope f cd A outer s H E) [] (start N vs) H s1:=by
 have hpl:ps.length<=N.length:=by have:=congrArg length S.pre;rw [length_take] at this;omega
 obtain ⟨h1,tk,rfl,hk⟩:=x.done
 have noA:∀ b:Addr,b∉(ylc CX P w K mg base N qual scope f cd A outer s H E).ex:=fun b z=>absurd (show b∈([]:List Addr) from z) (by simp)
 refine ⟨⟨e0.mod,S.kind,rfl,rfl,Nat.le_refl _,fun y z c h1 h2=>?_,fun y hy=>?_,fun y c _ h=>?_,fun _=>hd,Around.frames_deeper e0.frames,.inr ⟨rfl,rfl⟩,fun b z=>absurd z (noA b),e0.bs,e0.bsz,fun b _ _=>noA b,fun b z=>absurd z (noA b),e0.funs,e0.frf⟩,
  rfl,e0.bare,Un.kept hk,⟨_,x.toInCall.ns,fun i y v h1 h2 h3=>?_⟩,fun y c h=>⟨_,x.cell y c h⟩,e0.hok.fresh (Nat.le_refl _),fun y c h=>?_,fun p hp=>absurd (show p∈([]:List (Addr×Obj)) from hp) (by simp),e0.hok.kept hk,?_⟩
 .exact name_of_addr x.apart (PySem.mem_of_lookup h1) (PySem.mem_of_lookup h2)
 .have hy:scope.names.lookup y=some .cell\/scope.names.lookup y=some .free:=hy
  rcases hy with hy|hy
  .exact ymq hy
  .exact absurd rfl (S.nofree _ (PySem.mem_of_lookup hy))
 .exact le_of_lt (x.above y c (PySem.mem_of_lookup h))
 .have hi:i<vs.length:=by
   unfold start at h2
   by_cases hi:i<vs.length
   .exact hi
   .rw [getElem?_append_right (by simpa using hi)] at h2
    rw [getElem?_replicate] at h2
    split at h2<;>cases h2
  have ha:vs[i]?=some v:=by
   unfold start at h2
   rw [getElem?_append_left (by simpa using hi),getElem?_map] at h2
   cases e:vs[i]? with
   | none=>rw [e] at h2;cases h2
   | some a=>rw [e] at h2;cases h2;rfl
  obtain ⟨u,hu,rv⟩:=r.get ha
  have hp:ps[i]?=some y:=by
   rw [<- S.pre,List.getElem?_take_of_lt (by omega)];exact h1
  have ndP:ps.Nodup:=by rw [<- S.pre];exact S.nd.sublist (List.take_sublist _ _)
  refine ⟨u,rv,?_⟩
  rcases S.par y (mem_of_getElem? hp) with k|k
  .exact .inl ⟨k,yjB ndP hp hu k⟩
  .obtain ⟨c,e⟩:=ymq (n:=s.heap.objs.size+1) k
   refine .inr ⟨.inl k,c,e,?_⟩
   have q:=x.cell y c e
   rw [yjC ndP hp hu (by show scope.names.lookup y≠_;rw [k];decide)] at q
   exact q
 .exact e0.hok.fresh (le_of_lt (x.above y c (PySem.mem_of_lookup h)))
 .unfold start
  show _=N.length
  rw [length_append,length_map,List.length_replicate]
  omega
theorem yyh {CX:CXT}{P:Program}{w:World}{K:PySem.W.Frag}{mg:Str->Option Value}{base:Heap}{k:Nat}{f:Addr}{name qual:Str}{params:Arguments}{body:List Stmt}{scope:Scope}{dV kV doc pm cdv ct oc:Value}{an od:Option Addr}
  {osl:Array (Option Value)}{N ps:List Str}{sp:Sp}(lk:K.lookup f=some ⟨oc,od,.func (fnOf name qual params body scope dV kV doc pm an cdv ct),osl⟩) (hcd:codeIn K cdv qual=true) (S:ydC N ps scope)
  (len:∀ vs H Q E,sp vs H Q E->vs.length=ps.length)
  (hbody:∀ (A:Around) (outer:List Env) (s:Shared) (H:Hp) (vs:List V) (Q:VK) (E:XK),Room k (A.deeper (envOfC qual scope s.heap.objs.size f cdv))->sp vs H Q E ->
   ∃ t,PSs (ylc CX P w K mg base N qual scope f cdv A outer s H E) body t/\t { nx:=fun _ H'=>Q .non H',rt:=Q } (start N vs) H) :
  FnOk P w K mg base CX (k+1) f (fnOf name qual params body scope dV kV doc pm an cdv ct) ps sp:=by
 refine ⟨len,fun A outer s H args us vs Q E hr e0 hb r hsp=>?_⟩
 have hl:=len _ _ _ _ hsp
 have KX:K.In s.heap:=e0.mod.kin.keeps fun b o e=>(e0.bs b o e).1
 have lim:s.heap.NoLimit:=e0.mod.nolimit.keeps fun b o e=>(e0.bs b o e).1
 have hkind:∀ y∈ps.zip us,scope.names.lookup y.1=some .local \/ (scope.names.lookup y.1=some .cell/\((cellsFrom (s.heap.objs.size+1) scope.names []).lookup y.1).isSome=true):=fun ⟨n,v⟩ hy=>by
  rcases S.par n (of_mem_zip hy).1 with q|q
  .exact .inl q
  .exact .inr ⟨q,PySem.W.cellsFrom_some _ _ _ (.inl q)⟩
 refine codeAny_call_function hr.depth (KX _ _ lk) rfl S.co S.gen rfl (PySem.W.codeRec_of KX hcd) (hb _ _ _ _ ?_)
 refine wpAny_newFunctionEnv_cells S.kind hkind fun env he s1 x=>?_
 subst he
 refine ⟨lim.keeps x.toInCall.keep,codeAny_func ?_⟩
 obtain ⟨t,ht,hq⟩:=hbody A outer s H vs Q E (hr.deeper _) hsp
 have I:Inv (ylc CX P w K mg base N qual scope f cdv A outer s H E) [] (start N vs) H s1:=yoS S hr.hd e0 hl r x
 refine wpAny_mono (ht [] s1 (start N vs) H _ I hq) (fun fl s' hs=>?_) fun e s' hs=>hs
 have fin:∀ {σ':St}{H':Hp}{v:V}{u:Value},Inv (ylc CX P w K mg base N qual scope f cdv A outer s H E) [] σ' H' s'->RelV v u->Q v H'->CE outer P w H s Q u s' :=
  fun {σ' H' v u} J rv q=>⟨v,H',J.os,J.bare,J.base,J.hok,rv,q⟩
 cases fl with
 | ret u =>
  obtain ⟨v,σ',H',J,rv,q⟩:=hs
  exact fin J rv q
 | next =>
  obtain ⟨σ',H',J,q⟩:=hs
  exact fin (v:=V.non) (u:=Value.none) J rfl q
 | brk =>
  obtain ⟨_,_,_,q⟩:=hs
  exact False.elim q
 | cont =>
  obtain ⟨_,_,_,q⟩:=hs
  exact False.elim q
end L2
namespace L2
open PySem PySem.Spec PyProof.Rows
section
variable {X:Cx}{x:Str}{p pos:Pos}{e:Expr}{es:List Expr}{t:TA}{id T:String}{r:List V->Hp->VK->Prop}
def tCB (r:List V->Hp->VK->Prop) (t:TA):TE:=fun σ H Q=>t σ H fun vs H1=>r vs H1 Q
theorem yit (hc:yek X (.builtin id) r) (hg:Gl X x) (hm:X.mg x=none) (hv:bootBuiltins x=some (.builtin id)) (ha:PA X (e::es) t) (hn:x≠"__name__":=by decide) (hdb:(x == ("__debug__":Str))=false:=by decide)
  (he:starEach (e::es) X.env=(false,eval e X.env)::starEach es X.env:=by rfl) (hpl:(backTo pos (starEach es X.env)).any (·.1)=false:=by rfl):PE X (.Call (.Name x p) (e::es) [] pos) (tCB r t):=by
 intro pins s σ H Q I h
 refine wpAny_Call_Name_kw (yju I hg hm hv ?_ hn hdb)
 exact PyProof.Rows.callWith_builtin1 (thn (ha pos pins s σ H _ I h) fun us s1 ⟨vs,H1,I1,r1,q1⟩=>hc pins s1 σ H1 vs us Q I1 r1 q1) he hpl
theorem ygH (hc:yek X (.type T) r) (hg:Gl X x) (hm:X.mg x=none) (hv:bootBuiltins x=some (.type T)) (ha:PA X (e::es) t) (hn:x≠"__name__":=by decide) (hdb:(x == ("__debug__":Str))=false:=by decide)
  (he:starEach (e::es) X.env=(false,eval e X.env)::starEach es X.env:=by rfl) (hpl:(backTo pos (starEach es X.env)).any (·.1)=false:=by rfl):PE X (.Call (.Name x p) (e::es) [] pos) (tCB r t):=by
 intro pins s σ H Q I h
 refine wpAny_Call_Name_kw (yju I hg hm hv ?_ hn hdb)
 exact PyProof.Rows.callWith_type1 (thn (ha pos pins s σ H _ I h) fun us s1 ⟨vs,H1,I1,r1,q1⟩=>hc pins s1 σ H1 vs us Q I1 r1 q1) he hpl
end
end L2
namespace HT
open PySem PyProof.Rows
section
open PySem.SeqAt
open PySem.AutoSeq1 (wpAny_loadPart')
open PySem.MeetsSeq PySem.MeetsSeq2 PySem.MeetsSeq3
end
section
variable {prog:Program}{w:World}{A:Around}{E:Value->Shared->Prop}{s:Shared}
def sIx (n d:Nat):Option Int->Nat
 | none=>d
 | some v=>if v<0 then (v+(n:Int)).toNat else min v.toNat n
end
end HT
namespace L2
open PySem PySem.Spec PyProof.Rows
abbrev TO:=St->Hp->(Option Int->Hp->Prop)->Prop
noncomputable def PO (X:Cx) (e:Option Expr) (t:TO):Prop :=
 ∀ (pins:List (Addr×Obj)) (s:Shared) (σ:St) (H:Hp) (Q:Option Int->Hp->Prop),Inv X pins σ H s->t σ H Q ->
  wpAny (model X.prog X.w) X.A (evalPart e X.env) (fun u s'=>∃ o H',Inv X pins σ H' s'/\IsPart u o/\Q o H') X.xe s
def yoT:TO:=fun _ H Q=>Q none H
def yyi (t:TE):TO:=fun σ H Q=>t σ H fun x H1=>∃ i,x=.int i/\Q (some i) H1
theorem intsAre_of {ns:List Int}:∀ {us:List Value},Vals (ns.map V.int) us->IntsAre us ns:=by
 induction ns with
 | nil=>intro us r;rw [map_nil] at r;cases r;exact .nil
 | cons n ns ih =>
  intro us r
  rw [map_cons] at r
  cases r with
  | cons r1 r2 =>
   obtain ⟨t,e⟩:=r1
   subst e
   exact .cons n t (ih r2)
section
variable {X:Cx}{e:Expr}{te:TE}{lo hi:Option Expr}{tl th:TO}{pos p2:Pos}
theorem yvh:PO X none yoT:=by
 intro pins s σ H Q I h
 rw [evalPart_none]
 exact wpAny_pure ⟨none,H,I,.none,h⟩
theorem yvi (h:PE X e te):PO X (some e) (yyi te):=by
 intro pins s σ H Q I hw
 rw [evalPart_some]
 refine thn (h pins s σ H _ I hw) fun u s1 ⟨x,H1,I1,r1,q1⟩=>?_
 obtain ⟨i,rfl,q⟩:=q1
 obtain ⟨t,rfl⟩:=r1
 exact ⟨some i,H1,I1,.int i t,q⟩
def SlR (X:Cx) (r:V->Option Int->Option Int->Hp->VK->Prop):Prop :=
 ∀ (pins:List (Addr×Obj)) (s:Shared) (σ:St) (H:Hp) (x:V) (v vl vu:Value) (lo hi:Option Int) (sl:Addr) (Q:VK),Inv X pins σ H s->RelV x v->s.heap.IsSliceOf sl vl vu .none->IsPart vl lo->IsPart vu hi->r x lo hi H Q ->
  ∃ T id,typeLookup (.type T) "__getitem__" = pure (some (.builtin id))/\s.TypeIs v T/\wpAny (model X.prog X.w) X.A (getItem v (.ref sl)) (EP X pins σ Q) X.xe s
noncomputable def tSl (r:V->Option Int->Option Int->Hp->VK->Prop) (te:TE) (tl th:TO):TE:=fun σ H Q=>te σ H fun x H1=>tl σ H1 fun l H2=>th σ H2 fun u H3=>r x l u H3 Q
theorem yrE {r:V->Option Int->Option Int->Hp->VK->Prop}(hr:SlR X r) (he:PE X e te) (hl:PO X lo tl) (hu:PO X hi th):PE X (.Subscript e (.Slice lo hi none p2) pos) (tSl r te tl th):=by
 intro pins s σ H Q I h
 refine Subscript_ (thn (he pins s σ H _ I h) fun v s1 ⟨x,H1,I1,r1,q1⟩=>?_)
 refine wpAny_Slice (thn (hl pins s1 σ H1 _ I1 q1) fun vl s2 ⟨l,H2,I2,pl,q2⟩=>thn (hu pins s2 σ H2 _ I2 q2) fun vu s3 ⟨u,H3,I3,pu,q3⟩=>?_)
 rw [evalPart_none]
 refine wpAny_pure ?_
 have I4:Inv X pins σ H3 { s3 with heap:=s3.heap.push { cls:=.type "slice",data:=.fields #[vl,vu,.none] } }:=I3.kept (t':=s3.toks) fun b ob q=>Heap.get?_push_of_some _ q
 obtain ⟨T,id,hT,ht,hg⟩:=hr pins { s3 with heap:=s3.heap.push { cls:=.type "slice",data:=.fields #[vl,vu,.none] } } σ H3 x v vl vu l u s3.heap.objs.size Q I4 r1 (Heap.IsSliceOf.new ..) pl pu q3
 show wpAny (model X.prog X.w) X.A (subscriptTail e (.Slice lo hi none p2) v (.ref s3.heap.objs.size)) (EP X pins σ Q) X.xe { s3 with heap:=s3.heap.push { cls:=.type "slice",data:=.fields #[vl,vu,.none] } }
 exact tail_any (ops:=[.ref s3.heap.objs.size,v]) ht hT hg (by with_unfolding_all rfl)
noncomputable def yyj (xs:List V) (lo hi:Option Int):List V:=(xs.drop (HT.sIx xs.length 0 lo)).take (HT.sIx xs.length xs.length hi-HT.sIx xs.length 0 lo)
theorem yle (xs:List V) (lo hi:Option Int):(yyj xs lo hi).length<=xs.length:=by
 unfold yyj
 rw [length_take,length_drop]
 omega
end
end L2
namespace L2
open PySem PySem.Spec PyProof.Rows
noncomputable def ixN (n:Nat) (i:Int):Option Nat:=if 0<=i then (if i<n then some i.toNat else none) else if -(n:Int)<=i then some (i+n).toNat else none
def atI {α:Type}(xs:List α) (i:Int):Option α:=(ixN xs.length i).bind fun j=>xs[j]?
theorem yoU {n:Nat}{i:Int}{j:Nat}(h:ixN n i=some j):seqIndex? i n=some j/\j<n/\-(n:Int)<=i/\i<n:=by
 unfold ixN at h
 by_cases h0:0<=i
 .rw [if_pos h0] at h
  by_cases h1:i<n
  .rw [if_pos h1] at h
   have e:i.toNat=j:=Option.some.inj h
   exact ⟨by rw [seqIndex_of h0 h1,e],by omega,by omega,h1⟩
  .rw [if_neg h1] at h;cases h
 .rw [if_neg h0] at h
  by_cases h1:-(n:Int)<=i
  .rw [if_pos h1] at h
   have e:(i+n).toNat=j:=Option.some.inj h
   exact ⟨by rw [seqIndex_neg (by omega) h1,e],by omega,h1,by omega⟩
  .rw [if_neg h1] at h;cases h
theorem ylf {α:Type}{xs:List α}{i:Int}{v:α}(h:atI xs i=some v):∃ j,seqIndex? i xs.length=some j/\xs[j]?=some v/\j<xs.length/\-(xs.length:Int)<=i/\i<xs.length:=by
 unfold atI at h
 cases e:ixN xs.length i with
 | none=>rw [e] at h;cases h
 | some j =>
  rw [e] at h
  obtain ⟨h1,h2,h3,h4⟩:=yoU e
  exact ⟨j,h1,h,h2,h3,h4⟩
theorem ydS {α:Type}{xs:List α}{j:Nat}{v:α}(h:xs[j]?=some v):atI xs (j:Int)=some v:=by
 have hj:j<xs.length:=(List.getElem?_eq_some_iff.mp h).1
 have e:ixN xs.length (j:Int)=some j:=by
  unfold ixN
  rw [if_pos (by omega),if_pos (by omega)];simp
 unfold atI;rw [e];exact h
def yoV (b:Expr):Prop:=∀ o i,subscripted b false o i=operate [o,i] (getItem o i)
def IxR (X:Cx) (r:R2):Prop :=
 ∀ (value slice:Expr) (pins:List (Addr×Obj)) (s:Shared) (σ:St) (H:Hp) (x y:V) (v u:Value) (Q:VK),Inv X pins σ H s->RelV x v->RelV y u->r x y H Q ->
  subscripted slice false v u=operate [v,u] (getItem v u)->wpAny (model X.prog X.w) X.A (subscriptTail value slice v u) (EP X pins σ Q) X.xe s
def MtR (X:Cx) (id:String) (r:V->List V->Hp->VK->Prop):Prop :=
 ∀ (pins:List (Addr×Obj)) (s:Shared) (σ:St) (H:Hp) (x:V) (xs:List V) (v:Value) (us:List Value) (Q:VK),Inv X pins σ H s->RelV x v->Vals xs us->r x xs H Q ->
  wpAny (model X.prog X.w) X.A (call (.builtin id) (v::us)) (EP X pins σ Q) X.xe s
section
variable {X:Cx}{a b:Expr}{ta tb:TE}{pos:Pos}
theorem yBH {r:R2}(hr:IxR X r) (ha:PE X a ta) (hb:PE X b tb) (hs:yoV b):PE X (.Subscript a b pos) (tOp r ta tb):=by
 intro pins s σ H Q I h
 exact Subscript_ (yBC ha hb I h fun v u s2 x y H2 I2 rx ry q=>hr a b pins s2 σ H2 x y v u Q I2 rx ry q (hs _ _))
def yDQ (K:PySem.W.Frag):R2:=fun x y H Q=>∃ p xs i v,x=.ref p/\y=.int i/\SqL K H p xs/\atI xs i=some v/\Q v H
def yDR (K:PySem.W.Frag):R2:=fun x y H Q=>∃ p xs i v,x=.ref p/\y=.int i/\SqT K H p xs/\atI xs i=some v/\Q v H
def yDS:R2:=fun x y H Q=>∃ z i c,x=.str z/\y=.int i/\z.length<=sizeLine/\atI z.cps.toList i=some c/\Q (.str ⟨#[c]⟩) H
theorem yJ:IxR X (yDQ X.K):=by
 intro value slice pins s σ H x y v u Q I rx ry h hs
 obtain ⟨p,xs,i,z,rfl,rfl,hq,he,q⟩:=h
 cases rx
 obtain ⟨t,rfl⟩:=ry
 obtain ⟨its,r,pl,hz⟩:=I.list hq
 obtain ⟨j,h1,h2,h3,h4,h5⟩:=ylf he
 obtain ⟨w,ew,rw'⟩:=r.get h2
 have hl:=r.length
 have hn:=yhT
 have fin:EP X pins σ Q w s:=⟨z,H,I,rw',q⟩
 by_cases h0:0<=i
 .have hj:i.toNat=j:=by
   rw [seqIndex_of h0 h5] at h1
   exact Option.some.inj h1
  exact item_listR pl.isList h0 (by omega) (by rw [hj];simpa using ew) fin hs
 .have hj:(i+(its.toArray.size:Int)).toNat=j:=by
   rw [seqIndex_neg (by omega) h4] at h1
   rw [size_toArray,<- hl]
   exact Option.some.inj h1
  exact subscriptTail_builtinR (x:=w) pl.isList.typeIs slot_list_getitem.lookup
   (wpAny_getItem_list_neg (Q:=fun r s'=>r=w/\EP X pins σ Q r s') pl.isList (by omega) (by rw [size_toArray]<;>omega) (by omega) (by rw [hj];simpa using ew) ⟨rfl,fin⟩) hs
theorem yI:IxR X (yDR X.K):=by
 intro value slice pins s σ H x y v u Q I rx ry h hs
 obtain ⟨p,xs,i,z,rfl,rfl,hq,he,q⟩:=h
 cases rx
 obtain ⟨t,rfl⟩:=ry
 obtain ⟨its,r,pl,hz⟩:=I.tuple hq
 obtain ⟨j,h1,h2,h3,h4,h5⟩:=ylf he
 obtain ⟨w,ew,rw'⟩:=r.get h2
 have hl:=r.length
 have hn:=yhT
 have fin:EP X pins σ Q w s:=⟨z,H,I,rw',q⟩
 exact subscriptTail_builtinR (x:=w) pl.typeIs slot_tuple_getitem.lookup
  (getItem_tuple (j:=j) (Q:=fun r s'=>r=w/\EP X pins σ Q r s') pl (by omega) (by omega) (by rw [size_toArray,<- hl];exact h1) (by simpa using ew) ⟨rfl,fin⟩) hs
theorem yyk:IxR X yDS:=by
 intro value slice pins s σ H x y v u Q I rx ry h hs
 obtain ⟨z,i,c,rfl,rfl,hz,he,q⟩:=h
 obtain ⟨t,rfl⟩:=rx
 obtain ⟨t',rfl⟩:=ry
 obtain ⟨j,h1,h2,h3,h4,h5⟩:=ylf he
 have hl:z.cps.toList.length=z.length:=by simp [Str.length]
 rw [hl] at h1 h4 h5
 have hn:=yhT
 exact tail_any (typeIs_str s z t) slot_str_getitem.lookup (getItem_str (c:=c) (by
  have e1:decide (i < -(2 ^ 63:Int))=false:=decide_eq_false (by omega)
  have e2:decide (i>=2 ^ 63)=false:=decide_eq_false (by omega)
  rw [e1,e2,Bool.or_false]) (by rw [h1];simpa using h2) ⟨.str ⟨#[c]⟩,H,I.tok _,⟨_,rfl⟩,q⟩) hs
theorem yns (its:List Value) (n j:Nat) (u:Value):Obj.mapSeq (·.setIfInBounds j u) { cls:=.type "list",data:=.seq its.toArray n }={ cls:=.type "list",data:=.seq (its.set j u).toArray n }:=by
 simp [Obj.mapSeq]
theorem Inv.lst {pins:List (Addr×Obj)}{σ:St}{H:Hp}{s:Shared}{p:Addr}{xs:List V}(I:Inv X pins σ H s) (h:H p=some (.lst xs)) :
  ∃ (its:List Value) (n:Nat),Vals xs its/\s.heap.get? p=some { cls:=.type "list",data:=.seq its.toArray n }/\xs.length<=sizeLine:=by
 obtain ⟨z,its,n,r,e⟩:=I.hok p _ h
 exact ⟨its,n,r,e,z⟩
theorem Inv.lstUpd {pins:List (Addr×Obj)}{σ:St}{H:Hp}{s:Shared}{p:Addr}{xs ys:List V}{its its':List Value}{n n':Nat}{f:Obj->Obj}(I:Inv X pins σ H s) (h:H p=some (.lst xs))
  (ho:s.heap.get? p=some { cls:=.type "list",data:=.seq its.toArray n }) (hf:f { cls:=.type "list",data:=.seq its.toArray n }={ cls:=.type "list",data:=.seq its'.toArray n' }) (r:Vals ys its') (hz:ys.length<=sizeLine) (t:Nat) :
  Inv X pins σ (upd H p (.lst ys)) { s with heap:=s.heap.update p f,toks:=t }:=by
 have e:(s.heap.update p f).get? p=some { cls:=.type "list",data:=.seq its'.toArray n' }:=by
  rw [Heap.get?_update_self f ho (by rw [hf]<;>rfl),hf]
 refine I.write (x:=p) (e:=p) (by rw [h];trivial) (.inl rfl) (fun b u hb q=>(Heap.get?_update_other _ _ (Ne.symm hb)).trans q) ⟨_,e⟩ ?_
 exact ⟨hz,its',n',r,e⟩
def yyl:V->V->V->Hp->(Hp->Prop)->Prop:=fun o i v H Q=>∃ p xs k j,o=.ref p/\i=.int k/\H p=some (.lst xs)/\ixN xs.length k=some j/\Q (upd H p (.lst (xs.set j v)))
theorem set_list:yDJ X yyl:=by
 intro pins s σ H o i v ov iv u Q I ro ri rv h
 obtain ⟨p,xs,k,j,rfl,rfl,hp,hj,q⟩:=h
 cases ro
 obtain ⟨t,rfl⟩:=ri
 obtain ⟨its,n,r,ho,hz⟩:=I.lst hp
 obtain ⟨h1,h2,h3,h4⟩:=yoU hj
 have hl:=r.length
 have hn:=yhT
 have I':Inv X pins σ (upd H p (.lst (xs.set j v))) { s with heap:=s.heap.update p (Obj.mapSeq (·.setIfInBounds j u)) } :=
  I.lstUpd hp ho (yns its n j u) (r.set rv j) (by rw [length_set];exact hz) s.toks
 by_cases h0:0<=k
 .have hk:k.toNat=j:=by
   rw [seqIndex_of h0 h4] at h1
   exact Option.some.inj h1
  exact PySem.W.ki_setAt ho h0 (by omega) (by rw [size_toArray,<- hl];exact h4) (by rw [hk];exact ⟨_,I',q⟩)
 .have hk:(k+(its.toArray.size:Int)).toNat=j:=by
   rw [seqIndex_neg (by omega) h3] at h1
   rw [size_toArray,<- hl]
   exact Option.some.inj h1
  exact PySem.W.ki_setBack ho (by omega) (by rw [size_toArray,<- hl];exact h3) (by omega) (by rw [hk];exact ⟨_,I',q⟩)
theorem yjD (lo hi:Option Int) (n:Nat):(sliceBounds lo hi none n).1=((HT.sIx n 0 lo:Nat):Int)/\(sliceBounds lo hi none n).2.1=((HT.sIx n n hi:Nat):Int)/\(sliceBounds lo hi none n).2.2=1:=by
 refine ⟨?_,?_,rfl⟩
 .cases lo with
  | none=>simp [sliceBounds,HT.sIx]
  | some i =>
   simp only [sliceBounds,HT.sIx,Option.getD_none,show (1:Int)>0 by decide,if_true]
   by_cases h:i<0
   .simp only [h,if_true]<;>omega
   .simp only [h,if_false]<;>omega
 .cases hi with
  | none=>simp [sliceBounds,HT.sIx]
  | some i =>
   simp only [sliceBounds,HT.sIx,Option.getD_none,show (1:Int)>0 by decide,if_true]
   by_cases h:i<0
   .simp only [h,if_true]<;>omega
   .simp only [h,if_false]<;>omega
theorem yiu (its:List Value) (lo hi:Option Int):slicePick its.toArray lo hi none=((its.drop (HT.sIx its.length 0 lo)).take (HT.sIx its.length its.length hi-HT.sIx its.length 0 lo)).toArray:=by
 obtain ⟨h1,h2,h3⟩:=yjD lo hi its.toArray.size
 unfold slicePick
 rw [h1,h2,h3]
 simp only [sliceRange_one,pick_run,size_toArray]<;>rfl
def yDT (K:PySem.W.Frag):V->Option Int->Option Int->Hp->VK->Prop:=fun x lo hi H Q=>∃ a xs,x=.ref a/\SqL K H a xs/\∀ p,H p=none->Q (.ref p) (upd H p (.lst (yyj xs lo hi)))
theorem yvj:SlR X (yDT X.K):=by
 intro pins s σ H x v vl vu lo hi sl Q I rx hs pl pu h
 obtain ⟨a,xs,rfl,hx,q⟩:=h
 cases rx
 obtain ⟨its,r,ht,hz⟩:=I.list hx
 have hlen:=r.length
 refine ⟨"list",_,slot_list_getitem.lookup,ht.isList.typeIs,?_⟩
 refine wpAny_getItem_list_slice ht.isList hs pl pu .none (by simp) ?_ (by rw [size_toArray]<;>omega)
 rw [yiu,<- hlen]
 refine ⟨.ref s.heap.objs.size,_,I.laid (t':=s.toks) (o:=.lst (yyj xs lo hi)) (fun b ob q=>Heap.get?_push_of_some _ q) (Nat.le_refl _) ?_,rfl,q _ (I.hok.fresh (Nat.le_refl _))⟩
 exact ⟨Nat.le_trans (yle xs lo hi) hz,_,0,(r.drop (HT.sIx xs.length 0 lo)).take (HT.sIx xs.length xs.length hi-HT.sIx xs.length 0 lo),Heap.get?_push_size _ rfl⟩
def ynt:V->Bool
 | .non=>true
 | .bl _=>true
 | .int _=>true
 | .str _=>true
 | _=>false
noncomputable def eqV:V->V->Bool
 | .non,.non=>true
 | .bl a,.bl b=>a == b
 | .bl a,.int b=>(if a then 1 else 0) == b
 | .int a,.bl b=>a == (if b then 1 else 0)
 | .int a,.int b=>a == b
 | .str a,.str b=>a == b
 | _,_=>false
theorem eqAt_V {A:Around}{s:Shared}{y x:V}{u v:Value}(ry:RelV y u) (rx:RelV x v) (fy:ynt y=true) (fx:ynt x=true):SeqAt.EqAt A s u v (eqV y x):=by
 cases y with
 | non =>
  cases ry
  cases x with
  | non=>cases rx;exact SeqAt.EqAt.same _
  | bl b=>cases rx;exact SeqAt.EqAt.none_bool b
  | int b=>obtain ⟨t,rfl⟩:=rx;exact SeqAt.EqAt.none_int b t
  | str b=>obtain ⟨t,rfl⟩:=rx;exact SeqAt.EqAt.none_str b t
  | _=>exact absurd (show false=true from fx) Bool.false_ne_true
 | bl a =>
  cases ry
  cases x with
  | non=>cases rx;exact SeqAt.EqAt.bool_none a
  | bl b=>cases rx;exact SeqAt.EqAt.bool_bool a b
  | int b=>obtain ⟨t,rfl⟩:=rx;exact SeqAt.EqAt.bool_int a b t
  | str b=>obtain ⟨t,rfl⟩:=rx;exact SeqAt.EqAt.bool_str a b t
  | _=>exact absurd (show false=true from fx) Bool.false_ne_true
 | int a =>
  obtain ⟨t',rfl⟩:=ry
  cases x with
  | non=>cases rx;exact SeqAt.EqAt.int_none a t'
  | bl b=>cases rx;exact SeqAt.EqAt.int_bool a t' b
  | int b=>obtain ⟨t,rfl⟩:=rx;exact SeqAt.EqAt.int_int a t' b t
  | str b=>obtain ⟨t,rfl⟩:=rx;exact SeqAt.EqAt.int_str a t' b t
  | _=>exact absurd (show false=true from fx) Bool.false_ne_true
 | str a =>
  obtain ⟨t',rfl⟩:=ry
  cases x with
  | non=>cases rx;exact SeqAt.EqAt.str_none a t'
  | bl b=>cases rx;exact SeqAt.EqAt.str_bool a t' b
  | int b=>obtain ⟨t,rfl⟩:=rx;exact SeqAt.EqAt.str_int a t' b t
  | str b=>obtain ⟨t,rfl⟩:=rx;exact SeqAt.EqAt.str_str a t' b t
  | _=>exact absurd (show false=true from fx) Bool.false_ne_true
 | _=>exact absurd (show false=true from fy) Bool.false_ne_true
theorem yB:yek X (.builtin "len") (fun xs H Q=>∃ p ys,xs=[.ref p]/\(SqL X.K H p ys\/SqT X.K H p ys)/\Q (.int ys.length) H):=by
 intro pins s σ H xs us Q I r h
 obtain ⟨p,ys,rfl,hq,q⟩:=h
 obtain ⟨u,rfl,rx⟩:=vals1 r
 cases rx
 have hn:=yhT
 rcases hq with hq|hq
 .obtain ⟨its,r',pl,hz⟩:=I.list hq
  have hlen:=r'.length
  exact Calls.call_len_list pl.isList (by simp only [size_toArray]<;>omega) ⟨.int ys.length,H,I.tok _,⟨s.toks+1,by rw [size_toArray,hlen]⟩,q⟩
 .obtain ⟨its,r',pl,hz⟩:=I.tuple hq
  have hlen:=r'.length
  exact len_tuple pl (by simp only [size_toArray]<;>omega) ⟨.int ys.length,H,I.tok _,⟨s.toks+1,by rw [size_toArray,hlen]⟩,q⟩
theorem yep:yek X (.builtin "len") (fun xs H Q=>∃ z,xs=[.str z]/\z.length<=sizeLine/\Q (.int z.length) H):=by
 intro pins s σ H xs us Q I r h
 obtain ⟨z,rfl,hz,q⟩:=h
 obtain ⟨u,rfl,t,rfl⟩:=vals1 r
 have hn:=yhT
 exact len_str (by omega) ⟨.int z.length,H,I.tok _,⟨_,rfl⟩,q⟩
theorem yE:yek X (.type "list") (fun xs H Q=>∃ p ys,xs=[.ref p]/\(SqL X.K H p ys\/SqT X.K H p ys)/\∀ l,H l=none->Q (.ref l) (upd H l (.lst ys))):=by
 intro pins s σ H xs us Q I r h
 obtain ⟨p,ys,rfl,hq,q⟩:=h
 obtain ⟨u,rfl,rx⟩:=vals1 r
 cases rx
 have fin:∀ (its:List Value),Vals ys its->ys.length<=sizeLine->∀ (h':Heap) (c':Nat),(∀ b o',s.heap.get? b=some o'->h'.get? b=some o') ->
   h'.get? s.heap.objs.size=some { cls:=.type "list",dict:=none,data:=.seq its.toArray c',slots:=#[] }->EP X pins σ Q (.ref s.heap.objs.size) { s with heap:=h' }:=fun its r' hz h' c' kp e =>
  ⟨.ref s.heap.objs.size,_,I.laid (t':=s.toks) kp (Nat.le_refl _) (show ObjOk X.prog X.w _ h' _ (.lst ys) from ⟨hz,its,c',r',e⟩),rfl,q _ (I.hok.fresh (Nat.le_refl _))⟩
 rcases hq with hq|hq
 .obtain ⟨its,r',pl,hz⟩:=I.list hq
  have hlen:=r'.length
  obtain ⟨o,ho,hc,n,hd⟩:=pl.isList
  exact call_list_seq p (.inl rfl) ho hc hd (fun h' c' kp e=>fin its r' hz h' c' kp e) (by simp only [size_toArray]<;>omega)
 .obtain ⟨its,r',pl,hz⟩:=I.tuple hq
  have hlen:=r'.length
  obtain ⟨o,ho,hc,n,hd⟩:=pl
  exact call_list_seq p (.inr rfl) ho hc hd (fun h' c' kp e=>fin its r' hz h' c' kp e) (by simp only [size_toArray]<;>omega)
def tyV (K:PySem.W.Frag) (T:String) (x:V) (H:Hp):Prop:=match x with
 | .str _=>T = "str"
 | .int _=>T = "int"
 | .ref p=>(T = "list"/\∃ xs,SqL K H p xs)\/(T = "tuple"/\∃ o,K.lookup p=some o/\o.cls=.type "tuple"/\o.dict=none) \/
   (T = "dict"/\((∃ kvs,H p=some (.dK kvs))\/∃ kvs,H p=some (.dT kvs)))\/(T = "set"/\∃ S n,H p=some (.set S n))
 | _=>False
theorem ytR {pins:List (Addr×Obj)}{σ:St}{H:Hp}{s:Shared}{T:String}{x:V}{v:Value}(I:Inv X pins σ H s) (r:RelV x v) (ty:tyV X.K T x H) :
  s.TypeIs v T/\∀ a,v=.ref a->∃ ob,s.heap.get? a=some ob/\ob.dict=none:=by
 cases x with
 | str z =>
  obtain ⟨t,rfl⟩:=r
  cases (show T = "str" from ty)
  exact ⟨typeIs_str s z t,fun _ e=>nomatch e⟩
 | int i =>
  obtain ⟨t,rfl⟩:=r
  cases (show T = "int" from ty)
  exact ⟨typeIs_int s i t,fun _ e=>nomatch e⟩
 | ref p =>
  cases r
  rcases ty with ⟨rfl,xs,hq⟩|⟨rfl,o,hk,hc,hd⟩|⟨rfl,hk⟩|⟨rfl,S,n,hk⟩
  .obtain ⟨its,_,pl,_⟩:=I.list hq
   refine ⟨pl.isList.typeIs,fun a e=>?_⟩
   cases e
   obtain ⟨o,n,e,c,hd,_⟩:=pl
   exact ⟨o,e,hd⟩
  .refine ⟨⟨o,I.kIn p o hk,hc⟩,fun a e=>?_⟩
   cases e
   exact ⟨o,I.kIn _ o hk,hd⟩
  .have z:∃ o,s.heap.get? p=some o/\o.ExactDict:=by
    rcases hk with ⟨kvs,hk⟩|⟨kvs,hk⟩
    .obtain ⟨_,_,_,_,o,_,_,e,ex,_⟩:=I.hok p _ hk
     exact ⟨o,e,ex⟩
    .obtain ⟨_,_,_,_,o,_,_,e,ex,_⟩:=I.hok p _ hk
     exact ⟨o,e,ex⟩
   obtain ⟨o,e,ex⟩:=z
   refine ⟨⟨o,e,ex.1⟩,fun a e2=>?_⟩
   cases e2
   exact ⟨o,e,ex.2.1⟩
  .obtain ⟨o,_,_,_,e,ex,_⟩:=I.hok p _ hk
   refine ⟨⟨o,e,ex.1⟩,fun a e2=>?_⟩
   cases e2
   exact ⟨o,e,ex.2.1⟩
 | _=>exact False.elim ty
def yDU (K:PySem.W.Frag) (T:String) (r:V->List V->Hp->VK->Prop) (to:TE):TE:=fun σ H Q=>to σ H fun x H1=>tyV K T x H1/\r x [] H1 Q
def tBM (K:PySem.W.Frag) (T:String) (r:V->List V->Hp->VK->Prop) (to:TE) (t:TA):TE:=fun σ H Q=>to σ H fun x H1=>tyV K T x H1/\t σ H1 fun xs H2=>r x xs H2 Q
variable {o e:Expr}{es:List Expr}{to:TE}{t:TA}{name:Str}{apos cpos:Pos}{T id:String}{r:V->List V->Hp->VK->Prop}
theorem yym (pa:PlainAttrs T) (slot:Slot T name id) (hty:typeOf (.builtin id)=pure (.type "method_descriptor")) (hm:MtR X id r) (ho:PE X o to)
  (hbase:attributeBase o name X.env (eval o X.env)=eval o X.env:=by rfl) (hline:(apos.endLine == cpos.line)=true:=by rfl):PE X (.Call (.Attribute o name apos) [] [] cpos) (yDU X.K T r to):=by
 intro pins s σ H Q I h
 refine wpAny_Call_method0_late hbase hline (thn (ho pins s σ H _ I h) fun v s1 ⟨x,H1,I1,r1,ty,q1⟩=>?_)
 obtain ⟨h1,h2⟩:=ytR I1 r1 ty
 exact ⟨T,id,pa,slot,hty,h1,h2,Calls.callWith_builtin rfl (PySem.evalArgs_none (hm pins s1 σ H1 x [] v [] Q I1 r1 .nil q1))⟩
theorem yvk (pa:PlainAttrs T) (slot:Slot T name id) (hty:typeOf (.builtin id)=pure (.type "method_descriptor")) (hm:MtR X id r) (ho:PE X o to) (ha:PA X (e::es) t)
  (hbase:attributeBase o name X.env (eval o X.env)=eval o X.env:=by rfl)
  (hfew:((backTo cpos (starEach (e::es) X.env)).all (fun x=>!x.1) && (backToKw cpos (keywordEach [] X.env)).all (fun x=>x.1.isSome)
   && decide ((e::es).length+([]:List Keyword).length+(if ([]:List Keyword).isEmpty then 0 else 1)<30))=true:=by rfl)
  (hline:(apos.endLine == cpos.line)=true:=by rfl) (hs:starEach (e::es) X.env=(false,eval e X.env)::starEach es X.env:=by rfl) (hplain:(backTo cpos (starEach es X.env)).any (·.1)=false:=by rfl) :
  PE X (.Call (.Attribute o name apos) (e::es) [] cpos) (tBM X.K T r to t):=by
 intro pins s σ H Q I h
 refine wpAny_Call_method_late hbase hfew hline rfl (thn (ho pins s σ H _ I h) fun v s1 ⟨x,H1,I1,r1,ty,q1⟩=>?_)
 obtain ⟨h1,h2⟩:=ytR I1 r1 ty
 refine ⟨T,id,pa,slot,hty,h1,h2,?_⟩
 have hA:=ha cpos pins s1 σ H1 _ I1 q1
 rw [hs] at hA ⊢
 refine Calls.callWith_builtin (by show (false || (backTo cpos (starEach es X.env)).any (·.1))=false;rw [hplain]<;>rfl) (Calls.evalArgs_plain ?_)
 exact thn hA fun us s2 ⟨vs,H2,I2,r2,q2⟩=>hm pins s2 σ H2 x vs v us Q I2 r1 r2 q2
end
end L2
namespace L2
open PySem PySem.Spec PyProof.Rows
def MtM (X:Cx) (id:String) (r:V->List V->Hp->VK->Prop):Prop :=
 ∀ (pins:List (Addr×Obj)) (s:Shared) (σ:St) (H:Hp) (x:V) (xs:List V) (v:Value) (us:List Value) (Q:VK),Inv X pins σ H s->RelV x v->Vals xs us->r x xs H Q ->
  wpAny (model X.prog X.w) X.A (call (.builtin id) (v::us)) (EP X pins σ Q) X.xe s
theorem Vals.one:∀ {x:V}{us:List Value},Vals [x] us->∃ u,us=[u]/\RelV x u
 | _,_,.cons r .nil=>⟨_,rfl,r⟩
theorem Vals.zero:∀ {us:List Value},Vals [] us->us=[]
 | _,.nil=>rfl
theorem Vals.rep {xs:List V}{us:List Value}(h:Vals xs us):∀ k:Nat,Vals (replicate k xs).flatten (replicate k us).flatten
 | 0=>.nil
 | k+1=>by
  rw [List.replicate_succ,List.replicate_succ,List.flatten_cons,List.flatten_cons]
  exact Vals.append h (Vals.rep h k)
theorem foldl_rep (its:List Value):∀ (k:Nat) (acc:List Value),
  List.foldl (fun x1 x2=>x1++x2) acc.toArray (replicate k its.toArray)=(acc++(replicate k its).flatten).toArray
 | 0,acc=>by simp
 | k+1,acc=>by
  have e:acc.toArray++its.toArray=(acc++its).toArray:=by simp
  have e2:(acc++its)++(replicate k its).flatten=acc++(replicate (k+1) its).flatten:=by
   rw [List.replicate_succ,List.flatten_cons,append_assoc]
  rw [<- e2,<- foldl_rep its k (acc++its),<- e,List.replicate_succ,List.foldl_cons]
section
variable {X:Cx}{pins:List (Addr×Obj)}{σ:St}{H:Hp}{s:Shared}{l b:Addr}{xs ys zs:List V}
theorem Inv.lset {its its':List Value}{n:Nat}{f:Array Value->Array Value}{t':Nat}(I:Inv X pins σ H s) (hH:H l=some (.lst xs))
  (e:s.heap.get? l=some { cls:=.type "list",data:=.seq its.toArray n }) (hf:f its.toArray=its'.toArray) (hv:Vals ys its') (hz:ys.length<=sizeLine) :
  Inv X pins σ (upd H l (.lst ys)) { s with heap:=s.heap.update l (Obj.mapSeq f),toks:=t' }:=by
 have q:=PySem.IsL.update e f
 rw [hf] at q
 refine I.write (x:=l) (e:=l) (by rw [hH];exact trivial) (.inl rfl) (fun b' u hb hu=>(Heap.get?_update_other s.heap (Obj.mapSeq f) (Ne.symm hb)).trans hu) ⟨_,q⟩ ?_
 exact ⟨hz,its',_,hv,q⟩
theorem Inv.lnew {its:List Value}{t':Nat}(I:Inv X pins σ H s) (hv:Vals ys its) (hz:ys.length<=sizeLine) :
  Inv X pins σ (upd H s.heap.objs.size (.lst ys)) { s with heap:=s.heap.push { cls:=.type "list",data:=.seq its.toArray },toks:=t' } :=
 I.laid (fun _ _ q=>Heap.get?_push_of_some _ q) (Nat.le_refl _) ⟨hz,its,0,hv,Heap.get?_push_size _ rfl⟩
theorem Inv.fresh (I:Inv X pins σ H s):H s.heap.objs.size=none:=I.hok.fresh (Nat.le_refl _)
theorem Inv.lstM (I:Inv X pins σ H s) (hH:H l=some (.lst xs)):xs.length<=sizeLine/\∃ (its:List Value) (n:Nat),Vals xs its/\xs.length=its.length/\s.heap.get? l=some { cls:=.type "list",data:=.seq its.toArray n }:=by
 obtain ⟨z,its,n,r,e⟩:=I.hok l _ hH
 exact ⟨z,its,n,r,r.length,e⟩
theorem ymr {n:Nat}(h:n<=sizeLine):Builtin.List.listTooLong n=false:=by
 unfold Builtin.List.listTooLong
 exact decide_eq_false (by omega)
end
section
variable {X:Cx}
noncomputable def ylg:V->List V->Hp->VK->Prop:=fun x vs H Q=>∃ l xs y,x=.ref l/\vs=[y]/\H l=some (.lst xs)/\xs.length<sizeLine/\Q .non (upd H l (.lst (xs++[y])))
theorem yfp:MtM X "list.append" ylg:=by
 intro pins s σ H x vs v us Q I rx rv h
 obtain ⟨l,xs,y,rfl,rfl,hH,hz,q⟩:=h
 cases rx
 obtain ⟨u,rfl,ru⟩:=rv.one
 obtain ⟨z,its,n,r,hl,e⟩:=I.lstM hH
 refine call_meets F.slot_list_append ⟨_,e,rfl⟩ F.entry_list_append (F.args_list_append_2 _ _) (PySem.list_append l its.toArray n u (by rw [size_toArray];omega)) ⟨e,?_⟩
 refine ⟨.non,_,I.lset (its':=its++[u]) hH e (by simp) (r.append (.cons ru .nil)) ?_,rfl,q⟩
 rw [length_append,List.length_singleton]
 omega
noncomputable def yoW:V->List V->Hp->VK->Prop:=fun x vs H Q=>∃ l b xs zs,x=.ref l/\vs=[.ref b]/\H l=some (.lst xs)/\H b=some (.lst zs)/\xs.length+zs.length<=sizeLine/\Q .non (upd H l (.lst (xs++zs)))
theorem yoX:MtM X "list.extend" yoW:=by
 intro pins s σ H x vs v us Q I rx rv h
 obtain ⟨l,b,xs,zs,rfl,rfl,hH,hB,hz,q⟩:=h
 cases rx
 obtain ⟨u,rfl,ru⟩:=rv.one
 cases ru
 obtain ⟨z,its,n,r,hl,e⟩:=I.lstM hH
 obtain ⟨z2,its2,n2,r2,hl2,e2⟩:=I.lstM hB
 have hsz:its.toArray.size+its2.toArray.size<=sizeLine:=by rw [size_toArray,size_toArray];omega
 have hlong:¬ (!its.toArray.isEmpty && Builtin.List.listTooLong (its.toArray.size+its2.toArray.size))=true:=by
  rw [ymr hsz,Bool.and_false]
  exact Bool.false_ne_true
 refine call_meets F.slot_list_extend ⟨_,e,rfl⟩ F.entry_list_extend (F.args_list_extend_2 _ _)
  (AutoSeq1.list_extend_list_list_0 l its.toArray n b its2.toArray n2 hlong (by rw [size_toArray];omega) (by omega)) ⟨e,e2,?_⟩
 refine ⟨.non,_,I.lset (its':=its++its2) hH e (by simp) (r.append r2) ?_,rfl,q⟩
 rw [length_append]
 omega
noncomputable def yDV:R2:=fun x y H Q=>∃ l b xs zs,x=.ref l/\y=.ref b/\H l=some (.lst xs)/\H b=some (.lst zs)/\xs.length+zs.length<=sizeLine/\∀ p,H p=none->Q (.ref p) (upd H p (.lst (xs++zs)))
theorem yyn:OpR X (binaryOp .Add) yDV:=by
 intro pins s σ H x y v u Q I rx ry h
 obtain ⟨l,b,xs,zs,rfl,rfl,hH,hB,hz,q⟩:=h
 cases rx
 cases ry
 obtain ⟨z,its,n,r,hl,e⟩:=I.lstM hH
 obtain ⟨z2,its2,n2,r2,hl2,e2⟩:=I.lstM hB
 refine PySem.P.add_list e e2 ?_ (by rw [size_toArray,size_toArray];omega)
 have ea:its.toArray++its2.toArray=(its++its2).toArray:=by simp
 rw [ea]
 exact ⟨.ref _,_,I.lnew (t':=s.toks) (r.append r2) (by rw [length_append];omega),rfl,q _ I.fresh⟩
noncomputable def yDW:R2:=fun x y H Q=>∃ l k xs,x=.ref l/\y=.int k/\H l=some (.lst xs)/\-(2 ^ 63)<=k/\k<2 ^ 63/\xs.length*k.toNat<=sizeLine /\
 ∀ p,H p=none->Q (.ref p) (upd H p (.lst (replicate k.toNat xs).flatten))
theorem len_rep {α:Type}(xs:List α) (k:Nat):(replicate k xs).flatten.length=k*xs.length:=by
 induction k with
 | zero=>simp
 | succ k ih=>rw [List.replicate_succ,List.flatten_cons,length_append,ih,Nat.succ_mul,Nat.add_comm]
theorem yoY:OpR X (binaryOp .Mult) yDW:=by
 intro pins s σ H x y v u Q I rx ry h
 obtain ⟨l,k,xs,rfl,rfl,hH,h1,h2,hz,q⟩:=h
 cases rx
 obtain ⟨t,rfl⟩:=ry
 obtain ⟨z,its,n,r,hl,e⟩:=I.lstM hH
 have hlen:its.toArray.size*k.toNat<=sizeLine:=by rw [size_toArray,<- hl];exact hz
 have hcap:¬ its.toArray.size*k.toNat>(2 ^ 63-1)/8:=by
  have:(sizeLine:Nat)<=(2 ^ 63-1)/8:=by decide
  omega
 have hfit:¬ (!Builtin.List.listFitsIndex k)=true:=by
  rw [fitsIndex_both h1 h2]
  exact Bool.false_ne_true
 have hlong:¬ Builtin.List.listTooLong (its.toArray.size*k.toNat)=true:=by
  rw [ymr hlen]
  exact Bool.false_ne_true
 have hnew:List.foldl (fun x1 x2=>x1++x2) #[] (replicate (if its.toArray.isEmpty=true then 0 else k.toNat) its.toArray)=(replicate k.toNat its).flatten.toArray:=by
  have f0:∀ m:Nat,List.foldl (fun x1 x2=>x1++x2) #[] (replicate m its.toArray)=(replicate m its).flatten.toArray:=fun m=>by
   have:=foldl_rep its m []
   rw [List.nil_append] at this
   exact this
  rw [f0]
  cases its with
  | nil=>simp
  | cons a r'=>rw [if_neg (by simp)]
 refine wpAny_binaryOp_repeat_ref (T:="list") (U:="int") (by decide) ⟨_,e,rfl⟩ (fun s'=>typeIs_int s' k t) noFill_list_mul F.fills_int_mul F.slot_int_rmul repeat_list F.slot_int_index.lookup
  (call_meets F.slot_int_rmul (typeIs_int s k t) F.entry_int_rmul (F.args_int_rmul_2 _ _) (int___rmul___int_list k t l its.toArray n)
   ⟨e,rfl,⟨_,e,rfl⟩,call_meets F.slot_list_mul ⟨_,e,rfl⟩ F.entry_list_mul (F.args_list_mul_2 _ _) (AutoListH.list___mul___list_int_3 l its.toArray n k t hfit hcap hlong) ⟨e,?_⟩⟩)
 rw [hnew]
 exact ⟨.ref _,_,I.lnew (t':=s.toks) (r.rep k.toNat) (by rw [len_rep,Nat.mul_comm];exact hz),rfl,q _ I.fresh⟩
end
section
variable {prog:Program}{w:World}{A:Around}{E:Value->Shared->Prop}{s:Shared}
end
section
variable {X:Cx}
end
end L2
namespace Att
open PySem PySem.W PySem.Calls PyProof.Rows
theorem ygI {P:Params}{h:Heap}:∀ (ns:List Int) (vs:List Value),WellAll P h vs (ns.map WData.int)->IntsAre vs ns:=by
 intro ns
 induction ns with
 | nil =>
  intro vs w
  rw [map_nil] at w
  cases w
  exact .nil
 | cons n ns ih =>
  intro vs w
  rw [map_cons] at w
  cases w with
  | cons a b =>
   cases a
   exact .cons _ _ (ih _ b)
theorem yoZ {l:OpenLaw}{n:Nat}(hn:l.most=some n) {P:Params}{h:Heap}{args:List WData}{vals:List Value}
  (hpre:l.row.toRowW.claim.pre args=true) (hwl:WellAll P h vals args) :
  ∃ a vs ns,vals=[Value.ref a]/\args=[WData.list (ns.map WData.int)]/\h.get? a=some { cls:=.type "list",data:=.seq vs.toArray }/\IntsAre vs ns/\ns.length<=n:=by
 have hsh:WShape.hasAll [] args [.list .int]=true:=(pre_splitW hpre).1
 have hc:l.pre.holds [] { args:=args }=true:=(pre_splitW hpre).2
 obtain ⟨d,r,rfl,h1,h2⟩:=hasAllW_cons hsh
 obtain rfl:=hasAllW_nil h2
 obtain ⟨xs,rfl,h3⟩:=hasW_list h1
 obtain ⟨ns,rfl⟩:=items_int h3
 have hlen:ns.length<=n:=by
  unfold OpenLaw.pre at hc
  have h4:(WTm.not (.lt (.lit (.int (n:Int))) (.len (.arg 0)))).holds [] { args:=[.list (ns.map .int)] }=true:=by
   have h4:=(holds_andW hc).1
   rw [hn] at h4
   exact h4
  have h5:=condW_of h4 (w_not (w_lt w_lit (w_len_list (w_arg rfl))))
  rw [length_map] at h5
  refine Nat.le_of_not_lt fun q=>?_
  have q':(n:Int)<((ns.length:Nat):Int):=by omega
  first
   | (rw [decide_eq_true q'] at h5;exact absurd h5 (by decide))
   | (simp at h5;omega)
 cases hwl with
 | cons w1 w2 =>
  cases w2
  cases w1 with
  | list ho hall=>exact ⟨_,_,ns,rfl,rfl,ho,ygI ns _ hall,hlen⟩
theorem ypa (l:OpenLaw) (args:List WData):l.row.toRowW.claim.post args (.bool true) args=true :=
 postW_of (r:=l.row.toRowW) (X:=(true == true))
  (show WShape.has [] (.bool true) .bool=true by first|rfl|decide|simp [WShape.has,WShape.arms,WShape.armsAll])
  (show (WTm.eq .res (.lit (.bool true))).value [] { args:=args,res:=some (.bool true),after:=args }=some (.bool (true == true)) from w_eq_bool (w_res rfl) w_lit) rfl
theorem attach_call {l:OpenLaw}{n:Nat}{q:Program}{loose:List Str}{XP:(Str->Option Value)->Heap->Prop}{YP:World->Heap->Prop}{d:DefRec}
  (hn:l.most=some n) (hdf:d.params.defaults=[])
  (call:∀ (w:World) (s₀ s₁:Shared) (mg mb:Str->Option Value) (fa:Addr) (o:Obj) (pm cd doc:Value) (a:Addr) (vs:List Value) (ns:List Int),
   Ground q loose [] XP w s₀ mg mb s₁.heap->YP w s₁.heap ->
   s₁.heap.get? fa=some o->o.data=.func (docDef d.name d.params d.body d.scope pm cd doc)->s₁.heap.CodeRec cd d.name->mg d.name=some (.ref fa) ->
   s₁.heap.get? a=some { cls:=.type "list",data:=.seq vs.toArray }->IntsAre vs ns->ns.length<=n->s₁.gens = #[] ->
   codeAny (model l.prog w) callerA (.call (.ref fa) ⟨[.ref a],[]⟩) (fun r s'=>r=.ok (.ret (.bool true))/\OldK s₁.heap s'.heap/\s'.os=s₁.os/\AllBare s'.gens) s₁) :
  WalkO q loose XP YP l.row.toRowW d [] (fun f vs=>PySem.call f vs):=by
 intro w s₀ s₁ mg mb G Y fa o pm cd doc dV kV ho hd hcd hD hmg hg args vals as hpre hlay hrd hwl hlo
 obtain rfl:dV=.none:=Dflts.none hD hdf
 obtain rfl:kV=.none:=Dflts.noKw hD
 obtain ⟨a,vs,ns,rfl,rfl,hobj,hints,hlen⟩:=yoZ hn hpre hwl
 refine enter_call (codeAny_mono (call w s₀ s₁ mg mb fa o pm cd doc a vs ns G Y ho (fd_plain hd) hcd hmg hobj hints hlen hg) fun r s' hq=>?_)
 obtain ⟨rfl,h2,h3,h4⟩:=hq
 exact ⟨.inl ⟨.bool true,.bool true,[],rfl,fun _=>rfl,.bool true,ypa l _,fun _=>⟨List.Pairwise.nil,fun _ hm=>(nomatch hm)⟩⟩,h2,h3,h4⟩
section
variable {prog:Program}{w:World}{A:Around}{E:Value->Shared->Prop}{s:Shared}{K:Frag}
end
end Att
namespace L2
open PySem PySem.Spec PyProof.Rows
theorem ygJ:∀ {vs:List Value}{ns:List Int},IntsAre vs ns->Vals (ns.map V.int) vs
 | _,_,.nil=>.nil
 | _,_,.cons n t h=>.cons ⟨t,rfl⟩ (ygJ h)
def yBI (H:Hp):Prop:=∀ b,H b=none\/∃ o xs,H b=some (.frz o (.lst xs))
theorem yrF {P:Program}{w:World}{K:PySem.W.Frag}{mg mb:Str->Option Value}{CX:CXT}{k:Nat}{fa a:Addr}{fd:FuncData}{x:Str}{sp:Sp}{s₁:Shared}{vs:List Value}{ns:List Int}
  (KX:K.In s₁.heap) (hns:s₁.heap.Ns mainGlobals mg) (hb:s₁.heap.Ns builtinsNs mb) (hbb:∀ x:Str,x≠"__name__"->mb x=bootBuiltins x) (hlim:s₁.heap.NoLimit) (hg:s₁.gens = #[])
  (ha:s₁.heap.get? a=some { cls:=.type "list",data:=.seq vs.toArray }) (hi:IntsAre vs ns) (hl:ns.length<=sizeLine) (hr:Room k callerA)
  (F:∀ base:Heap,K.In base->base.Ns mainGlobals mg->FnOk P w K mg base CX k fa fd [x] sp) (hbind:∀ (s:Shared) (u:Value),BindsTo s fd ⟨[u],[]⟩ [(x,u)])
  (hsp:∀ H:Hp,yBI H->SqL K H a (ns.map V.int)->sp [.ref a] H (fun v _=>v=.bl true) fun _ _ _=>False)
  (hCX:∀ H e s',CX [] H s₁ (fun _ _ _=>False) e s'->False) :
  codeAny (model P w) callerA (.call (.ref fa) ⟨[.ref a],[]⟩) (fun r s'=>r=.ok (.ret (.bool true))/\OldK s₁.heap s'.heap/\s'.os=s₁.os/\AllBare s'.gens) s₁:=by
 have rv:=ygJ hi
 have lenV:=hi.length
 have core:∀ H:Hp,yBI H->SqL K H a (ns.map V.int)->HOk P w H s₁.heap->(∀ b,H b≠none->b=a)->(H a≠none->K.lookup a=none) ->
   codeAny (model P w) callerA (.call (.ref fa) ⟨[.ref a],[]⟩) (fun r s'=>r=.ok (.ret (.bool true))/\OldK s₁.heap s'.heap/\s'.os=s₁.os/\AllBare s'.gens) s₁:=by
  intro H hO hS hok hA hK
  have base_of:∀ {b:Addr}{o:Obj},s₁.heap.get? b=some o->H b=none->(yrp s₁.heap H).get? b=some o:=fun e n=>yrq e n
  have noA:∀ {b:Addr}{o:Obj}{es:Array DictEntry}{ep:Nat},s₁.heap.get? b=some o->o.data=.dict es ep->H b=none:=fun {b o es ep} e d=>by
   cases q:H b with
   | none=>rfl
   | some u =>
    have e':b=a:=hA b (by rw [q];simp)
    subst e'
    rw [ha] at e;cases e
    have d':Data.seq vs.toArray _=Data.dict es ep:=d
    cases d'
  have nsK:∀ {b:Addr}{m:Str->Option Value},s₁.heap.Ns b m->(yrp s₁.heap H).Ns b m:=fun {b m} ⟨o,es,ep,e,d,r⟩=>⟨o,es,ep,base_of e (noA e d),d,r⟩
  have hKb:K.In (yrp s₁.heap H):=fun b o e=>base_of (KX b o e) (by
   cases q:H b with
   | none=>rfl
   | some u =>
    have e':b=a:=hA b (by rw [q];simp)
    subst e'
    rw [hK (by rw [q];simp)] at e;cases e)
  have hM:Mod K mg (yrp s₁.heap H):=⟨hKb,nsK hns,⟨mb,nsK hb,hbb⟩,let ⟨mc,h1,h2⟩:=hlim;⟨mc,nsK h1,h2⟩⟩
  have e0:Env0 P w K mg (yrp s₁.heap H) callerA [] s₁ H:=⟨rfl,hM,fun b o e=>yuU e,le_of_eq (yor _ _),trivial,fun b hb=>absurd (show b∈([]:List Addr) from hb) (by simp),hok,.of_eq hg⟩
  refine codeAny_mono ((F _ hKb (nsK hns)).run callerA [] s₁ H ⟨[.ref a],[]⟩ [.ref a] [.ref a] _ _ hr e0 (hbind s₁ (.ref a)) (.cons rfl .nil) (hsp H hO hS)) fun r s' h=>?_
  cases r with
  | error e=>exact (hCX H e s' h).elim
  | ok fl =>
   cases fl with
   | next=>exact False.elim h
   | brk=>exact False.elim h
   | cont=>exact False.elim h
   | ret u =>
    obtain ⟨v,H',os,bare,un,hok',r',q⟩:=h
    have q':v=.bl true:=q
    subst q'
    obtain rfl:u=Value.bool true:=r'
    refine ⟨rfl,OldK.of_keep fun b o e=>?_,os,bare⟩
    cases q:H b with
    | none=>exact un.keep b o e q (by intro z;exact absurd (show b∈([]:List Addr) from z) (by simp)) (by simp)
    | some u =>
     rcases hO b with z|⟨ob,xs,z⟩
     .rw [q] at z;cases z
     .have z2:=un.frzs b ob _ z
      obtain ⟨e1,_⟩:=hok b _ z
      obtain ⟨e2,_⟩:=hok' b _ z2
      rw [e] at e1;cases e1
      exact e2
 cases hk:K.lookup a with
 | some o =>
  have e:=KX a o hk
  rw [ha] at e
  cases e
  refine core (fun _=>none) (fun _=>.inl rfl) (.inr ⟨_,vs.toArray,_,hk,rfl,rfl,rfl,by rw [size_toArray,lenV];exact hl,by simpa using rv⟩) (fun b u z=>by have z':(none:Option HO)=some u:=z;cases z') (fun b z=>absurd rfl z) fun z=>absurd rfl z
 | none =>
  refine core (fun b=>if b=a then some (.frz { cls:=.type "list",data:=.seq vs.toArray } (.lst (ns.map V.int))) else none) (fun b=>?_) (.inl (.inr ⟨{ cls:=.type "list",data:=.seq vs.toArray },if_pos rfl⟩)) (fun b u z=>?_) (fun b z=>?_) fun _=>hk
  .by_cases hb:b=a
   .exact .inr ⟨_,_,if_pos hb⟩
   .exact .inl (if_neg hb)
  .by_cases hb:b=a
   .have z':=(if_pos hb).symm.trans z
    cases z'
    subst hb
    exact ⟨ha,by rw [length_map];exact hl,vs,_,rv,ha⟩
   .have z':=(if_neg hb).symm.trans z
    cases z'
  .by_cases hb:b=a
   .exact hb
   .exact absurd (if_neg hb) z
end L2
namespace L2
open PySem PySem.Spec PyProof.Rows
theorem walk_of {l:PySem.W.OpenLaw}{n k:Nat}{q:Program}{loose:List Str}{XP:(Str->Option Value)->Heap->Prop}{YP:World->Heap->Prop}{d:DefRec}{K:Params->PySem.W.Frag}{CX:World->CXT}{sp:World->Sp}{x:Str}
  (hn:l.most=some n) (hn2:n<=sizeLine) (hdf:d.params.defaults=[]) (hr:Room k callerA)
  (hY:∀ (w:World) (h:Heap),YP w h->(K w.params).In h)
  (F:∀ (w:World) (mg:Str->Option Value) (fa:Addr) (h:Heap),(K w.params).In h->h.Ns mainGlobals mg->mg d.name=some (.ref fa) ->
   ∃ fd:FuncData,(∀ (s:Shared) (u:Value),BindsTo s fd ⟨[u],[]⟩ [(x,u)]) /\
    ∀ base:Heap,(K w.params).In base->base.Ns mainGlobals mg->FnOk l.prog w (K w.params) mg base (CX w) k fa fd [x] (sp w))
  (hsp:∀ (w:World) (H:Hp) (a:Addr) (ns:List Int),ns.length<=n->yBI H->SqL (K w.params) H a (ns.map V.int)->sp w [.ref a] H (fun v _=>v=.bl true) fun _ _ _=>False)
  (hCX:∀ (w:World) (H:Hp) (s:Shared) (e:Value) (s':Shared),CX w [] H s (fun _ _ _=>False) e s'->False) :
  PySem.W.WalkO q loose XP YP l.row.toRowW d [] (fun f vs=>PySem.call f vs):=by
 refine Att.attach_call hn hdf fun w s₀ s₁ mg mb fa o pm cd doc a vs ns G Y ho hd hcd hmg hobj hints hlen hg=>?_
 have KX:=hY w _ Y
 obtain ⟨fd,hb,hF⟩:=F w mg fa _ KX G.T.g hmg
 exact yrF KX G.T.g G.T.b G.T.builtins G.T.nolimit hg hobj hints (Nat.le_trans hlen hn2) hr hF hb (fun H hO hS=>hsp w H a ns hlen hO hS) fun H e s'=>hCX w H s₁ e s'
end L2
namespace L2
open PySem PySem.Spec PyProof.Rows
noncomputable def inClass (s:Stmt) (j:Nat):Stmt:=match s with
 | .ClassDef _ _ _ body _ _ _ _ _ _ _=>body.getD j (.Pass ⟨0,0,0,0⟩)
 | _=>.Pass ⟨0,0,0,0⟩
noncomputable def ylh (s:Stmt):Arguments:=match s with
 | .FunctionDef _ a _ _ _ _ _ _ _ _=>a
 | _=>{ posonlyargs:=[],args:=[],vararg:=none,kwonlyargs:=[],kw_defaults:=[],kwarg:=none,defaults:=[] }
def yeq (s:Stmt):List Stmt:=match s with
 | .FunctionDef _ _ b _ _ _ _ _ _ _=>b
 | _=>[]
noncomputable def yT (s:Stmt):Scope:=match s with
 | .FunctionDef _ _ _ _ _ _ sc _ _ _=>sc
 | _=>{ kind:=.function,names:=[],isGenerator:=false,isCoroutine:=false }
abbrev CX0:CXT:=fun _ _ _ _ _ _=>False
abbrev E0:XK:=fun _ _ _=>False
theorem yiv {X:Cx}:yeh CX0 X E0:=fun _ _ _ _ _ _ _ h=>h.elim
structure Fun (K:PySem.W.Frag) (x qual:Str) (st:Stmt) (f:Addr) (fd:FuncData):Prop where
 ex:∃ (oc:Value) (od:Option Addr) (kV doc pm:Value) (an:Option Addr) (cdv ct:Value) (osl:Array (Option Value)),
  fd=fnOf x qual (ylh st) (yeq st) (yT st) .none kV doc pm an cdv ct/\K.lookup f=some ⟨oc,od,.func fd,osl⟩/\codeIn K cdv qual=true
 kp:keepIn K (.ref f)=true
section
variable {P:Program}{w:World}{K:PySem.W.Frag}{mg:Str->Option Value}{base:Heap}
theorem Fun.ok {x qual:Str}{st:Stmt}{f:Addr}{fd:FuncData}{N ps:List Str}{k:Nat}{sp:Sp}(F:Fun K x qual st f fd) (S:ydC N ps (yT st)) (len:∀ vs H Q E,sp vs H Q E->vs.length=ps.length)
  (hbody:∀ (cdv:Value) (A:Around) (outer:List Env) (s:Shared) (H:Hp) (vs:List V) (Q:VK) (E:XK),Room k (A.deeper (envOfC qual (yT st) s.heap.objs.size f cdv))->sp vs H Q E ->
   ∃ t,PSs (ylc CX0 P w K mg base N qual (yT st) f cdv A outer s H E).nox (yeq st) t/\t { nx:=fun _ H'=>Q .non H',rt:=Q } (start N vs) H):FnOk P w K mg base CX0 (k+1) f fd ps sp:=by
 obtain ⟨oc,od,kV,doc,pm,an,cdv,ct,osl,rfl,lk,hcd⟩:=F.ex
 refine yyh lk hcd S len fun A outer s H vs Q E hr hsp=>?_
 obtain ⟨t,h,q⟩:=hbody cdv A outer s H vs Q E hr hsp
 exact ⟨t,h.nox,q⟩
theorem fun_mk {x qual:Str}{st:Stmt}{f:Addr}{oc:Value}{od an:Option Addr}{osl:Array (Option Value)}{kV doc pm cdv ct:Value}(l:K.lookup f=some ⟨oc,od,.func (fnOf x qual (ylh st) (yeq st) (yT st) .none kV doc pm an cdv ct),osl⟩)
  (c:codeIn K cdv qual=true) (k:keepIn K (.ref f)=true):Fun K x qual st f (fnOf x qual (ylh st) (yeq st) (yT st) .none kV doc pm an cdv ct):=⟨⟨oc,od,kV,doc,pm,an,cdv,ct,osl,rfl,l,c⟩,k⟩
end
theorem yvl {A:Around}{k:Nat}(hr:Room k A):A.units+1<cLine:=Nat.lt_of_le_of_lt (Nat.add_le_add_left (by decide:1<=64) _) hr.units
theorem yjE {n:Nat}(h:n<=1000):n<sizeLine:=Nat.lt_of_le_of_lt h (by decide)
section
variable {X:Cx}
end
def Same (H H':Hp):Prop:=∀ b o,H b=some o->H' b=some o
theorem Same.refl (H:Hp):Same H H:=fun _ _ h=>h
theorem Same.trans {H H1 H2:Hp}(a:Same H H1) (b:Same H1 H2):Same H H2:=fun c o h=>b c o (a c o h)
theorem Same.free {H H':Hp}(e:Same H H') {l:Addr}(h:H' l=Option.none):H l=Option.none:=by
 cases q:H l with
 | none=>rfl
 | some o =>
  rw [e l o q] at h
  cases h
theorem Same.seq {K:PySem.W.Frag}{H H':Hp}{a:Addr}{xs:List V}(e:Same H H') (h:SqL K H a xs):SqL K H' a xs:=by
 rcases h with (h|⟨o,h⟩)|h
 .exact .inl (.inl (e _ _ h))
 .exact .inl (.inr ⟨o,e _ _ h⟩)
 .exact .inr h
end L2
namespace L2
open PySem PySem.Spec PyProof.Rows
def cV:V->Option Value
 | .ty n=>some (.type n)
 | .ref a=>some (.ref a)
 | _=>none
def IsI (K:PySem.W.Frag) (H:Hp) (x c:V) (b:Bool):Prop:=∃ t u,ymn K H x t/\cV c=some u/\PySem.W.kitOne K t u=some b
theorem yli {K:PySem.W.Frag}{H:Hp}{i:Int}:IsI K H (.int i) (.ty "int") true:=⟨_,_,.int i,rfl,by with_unfolding_all rfl⟩
theorem yjF {K:PySem.W.Frag}{H:Hp}{i:Int}:IsI K H (.int i) (.ty "bool") false:=⟨_,_,.int i,rfl,by with_unfolding_all rfl⟩
theorem ylj {K:PySem.W.Frag}{H:Hp}:IsI K H .non (.ty "int") false:=⟨_,_,.non,rfl,by with_unfolding_all rfl⟩
theorem ylk {K:PySem.W.Frag}{H:Hp}{i:Bool}:IsI K H (.bl i) (.ty "bool") true:=⟨_,_,.bl i,rfl,by with_unfolding_all rfl⟩
theorem yll {K:PySem.W.Frag}{H:Hp}{i:Str}:IsI K H (.str i) (.ty "str") true:=⟨_,_,.str i,rfl,by with_unfolding_all rfl⟩
theorem yjG {K:PySem.W.Frag}{H:Hp}{a:Addr}{xs:List V}(e:H a=some (.lst xs)):IsI K H (.ref a) (.ty "list") true:=⟨_,_,.lst e,rfl,by with_unfolding_all rfl⟩
theorem str_len {v:Int}(h0:0<=v) {k:Nat}(hk:0<k) (h:v<10 ^ k):(Str.ofString (toString v)).length<=k:=toString_length_le h0 hk h
end L2
namespace L2
open PySem
abbrev yBJ:R2:=rI0 fun i j=>.int (i+j)
abbrev yBK:R2:=rI0 fun i j=>.int (i-j)
abbrev yBL:R2:=rI CMul fun i j=>.int (i*j)
abbrev yBM:R2:=rI yDM fun i j=>.int (i/j)
abbrev yBN:R2:=rI (fun _ j=>0<j) fun i j=>.int (i%j)
abbrev yBO:R2:=rI yBF fun i j=>.int (i ^ j.toNat)
abbrev yEv:R2:=rI0 fun i j=>.bl (decide (i<j))
abbrev yEw:R2:=rI0 fun i j=>.bl (decide (i<=j))
abbrev yEx:R2:=rI0 fun i j=>.bl (decide (j<i))
abbrev yBP:V->Hp->VK->Prop:=rU fun i=>.int (-i)
def yBQ:R2:=fun x y H Q=>∃ i j,x=.str i/\y=.str j/\i.length+j.length<=sizeLine/\Q (.str (i++j)) H
def yEy:R2:=fun x y H Q=>y=.non/\Q (.bl (decide (x=.non))) H
def yBR:R2:=fun x y H Q=>y=.non/\Q (.bl (!decide (x=.non))) H
noncomputable def yBS:List V->Hp->VK->Prop:=fun xs H Q=>(∃ i,xs=[.int i]/\Q (.int i) H)\/∃ k,xs=[.bl k]/\Q (.int (if k then 1 else 0)) H
def yBT:List V->Hp->VK->Prop:=fun xs H Q=>∃ z,xs=[.str z]/\z.length<=sizeLine/\Q (.int z.length) H
def yyo (K:PySem.W.Frag):List V->Hp->VK->Prop:=fun xs H Q=>∃ p ys,xs=[.ref p]/\(SqL K H p ys\/SqT K H p ys)/\Q (.int ys.length) H
def yBU:List V->Hp->VK->Prop:=fun xs H Q=>∃ i,xs=[.int i]/\i.natAbs.log2<1920/\Q (.str (toString i)) H
def yBV (K:PySem.W.Frag):List V->Hp->VK->Prop:=fun xs H Q=>∃ x c b,xs=[x,c]/\IsI K H x c b/\Q (.bl b) H
theorem ydr {H:Hp}{p:Addr}(h:H p=none) (o:HO):Same H (upd H p o):=fun b u q=>by rw [yu (ybb q h)];exact q
section
variable {K:PySem.W.Frag}{σ:St}{H:Hp}{Q:VK}{ta tb tc:TE}{tA tB':TT}{t u:TS}{D:Ends}
theorem w_not {Q:Bool->Hp->Prop}:yBy tA σ H Q=tA σ H fun c H1=>Q (!c) H1:=rfl
end
end L2
namespace L2
open PySem
def yvm (cs:List Nat):Int:=cs.foldl (fun (a:Int) (c:Nat)=>a*10+((c:Int)-48)) 0
noncomputable def yyp:List V->Hp->VK->Prop:=fun xs H Q=>∃ x:Str,xs=[.str x]/\x.cps.toList≠[]/\(∀ c∈x.cps.toList,48<=c/\c<=57)/\x.length<=640/\Q (.int (yvm x.cps.toList)) H
def yDX:R2:=fun x y H Q=>∃ (c:Nat) (j:Str),x=.str ⟨#[c]⟩/\y=.str j/\Q (.bl (decide (c∈j.cps.toList))) H
noncomputable def ypb:V->List V->Hp->VK->Prop:=fun x vs H Q=>∃ (z:Str) (c:Nat),x=.str z/\vs=[.str ⟨#[c]⟩]/\z.length<=1000/\c∈z.cps.toList/\Q (.int (z.cps.toList.idxOf c)) H
noncomputable def yDY:List V->Hp->VK->Prop:=fun xs H Q=>∃ (p:Addr) (bs:List Bool),xs=[.ref p]/\H p=some (.lst (bs.map V.bl))/\Q (.bl (bs.all id)) H
noncomputable def yDZ:List V->Hp->VK->Prop:=fun xs H Q=>∃ (p:Addr) (ns:List Int),xs=[.ref p]/\H p=some (.lst (ns.map V.int))/\Q (.int ns.sum) H
def yvn (K:PySem.W.Frag):List V->Hp->VK->Prop:=fun xs H Q=>∃ p ys,xs=[.ref p]/\(SqL K H p ys\/SqT K H p ys)/\∀ l,H l=none->Q (.ref l) (upd H l (.lst ys))
noncomputable def Its (z:Str):It:=⟨fun i _=>i<z.length,fun i H x H'=>H'=H/\∃ c,z.cps.toList[i]?=some c/\x=.str ⟨#[c]⟩,fun i _=>i=z.length⟩
def yEa (ta:TE):TI:=fun σ H R=>ta σ H fun x H1=>∃ z,x=.str z/\z.length<=sizeLine/\R (Its z) H1
noncomputable def yBW (J:It) (te:TE) (inn:V->St) (D:Addr) (Q:VK) (H:Hp):Prop:=∃ W:Nat->Nat->Hp->Prop,(∃ m,W 0 m H)/\∀ i m H,W i m H ->
 (J.stop i H/\Q (.ref D) H)\/(J.go i H/\∀ x H',J.yld i H x H'->te (inn x) H' fun y H2=>∃ acc,H2 D=some (.lst acc)/\acc.length<sizeLine/\∃ m',m'<m/\W (i+1) m' (upd H2 D (.lst (acc++[y]))))
def inner (ix:List Nat) (σ:St) (x:V):St:=some x::ix.map fun i=>(σ[i]?).getD none
def ynu (wi:TI) (ix:List Nat) (te:TE):TE:=fun σ H Q=>wi σ H fun J H1=>∀ D,H1 D=none->yBW J te (inner ix σ) D Q (upd H1 D (.lst []))
section
variable {K:PySem.W.Frag}{σ:St}{H:Hp}{Q:VK}{ta tb tc:TE}{tA tB':TT}{t u:TS}{D:Ends}
end
end L2
namespace L2
open PySem
def ytS (C:Addr):TE:=fun _ H Q=>∀ x dx,H x=none->H dx=none->dx≠x->Q (.ref x) (upd (upd H dx (.own x)) x (.ins C dx []))
noncomputable def ytT {κ:Type}(A:κ->Addr) (m:Str) (sp:κ->Sp) (ta:TE):TE:=fun σ H Q=>ta σ H fun x H1=>∃ a k dx fs,x=.ref a/\H1 a=some (.ins (A k) dx fs)/\fs.lookup m=none/\sp k [x] H1 Q E0
theorem yBX {k:Str}{v:V}{r:List (Str×V)}:List.lookup k ((k,v)::r)=some v:=by simp [List.lookup]
theorem yyq {k k':Str}{v:V}{r:List (Str×V)}(h:¬ k=k'):List.lookup k ((k',v)::r)=List.lookup k r:=by
 have:(k == k')=false:=by simpa using h
 simp [List.lookup,this]
section
variable {K:PySem.W.Frag}{σ:St}{H:Hp}{Q:VK}{ta tb tc:TE}{t u:TS}{D:Ends}
end
end L2
namespace L2
open PySem PySem.Builtin PySem.Builtin.Str
theorem at_one {z:Str}{c i:Nat}:StrLaws.At z ⟨#[c]⟩ z.length i ↔ z.cps.toList[i]?=some c:=by
 unfold StrLaws.At subAt
 have e1:(⟨#[c]⟩:Str).length=1:=rfl
 rw [e1]
 have e2:(z.cps.extract i (i+1) == (⟨#[c]⟩:Str).cps)=true ↔ z.cps.extract i (i+1) = #[c]:=by simp
 rw [e2]
 constructor
 .rintro ⟨h1,h2⟩
  have h3:(z.cps.extract i (i+1)).toList=[c]:=by rw [h2]
  rw [Array.toList_extract,List.extract_eq_take_drop] at h3
  have h4:((z.cps.toList.drop i).take (i+1-i))[0]?=some c:=by rw [h3];rfl
  rw [List.getElem?_take_of_lt (by omega),List.getElem?_drop] at h4
  simpa using h4
 .intro h
  obtain ⟨hlt,hc⟩:=List.getElem?_eq_some_iff.mp h
  have hl:i<z.length:=by simpa [Str.length] using hlt
  refine ⟨by omega,?_⟩
  apply Array.ext'
  rw [Array.toList_extract,List.extract_eq_take_drop]
  have e:i+1-i=1:=by omega
  rw [e,List.drop_eq_getElem_cons hlt,hc]
  rfl
theorem ypc (z:Str) (c:Nat):(occurrences z ⟨#[c]⟩ 0 z.length 1=[]/\c∉z.cps.toList)\/∃ r,occurrences z ⟨#[c]⟩ 0 z.length 1=z.cps.toList.idxOf c::r/\c∈z.cps.toList:=by
 rcases StrLaws.occ_head z ⟨#[c]⟩ 1 (Nat.le_refl _) with ⟨h1,h2⟩|⟨i,r,h1,h2,h3⟩
 .refine .inl ⟨h1,fun hc=>?_⟩
  obtain ⟨i,hi,e⟩:=getElem_of_mem hc
  exact h2 i (at_one.mpr (List.getElem?_eq_some_iff.mpr ⟨hi,e⟩))
 .have hi:=at_one.mp h2
  obtain ⟨hlt,hc⟩:=List.getElem?_eq_some_iff.mp hi
  have hm:c∈z.cps.toList:=mem_of_getElem? hi
  refine .inr ⟨r,?_,hm⟩
  have hj:z.cps.toList.idxOf c<z.cps.toList.length:=List.idxOf_lt_length_of_mem hm
  have hg:z.cps.toList[z.cps.toList.idxOf c]?=some c:=by
   rw [List.getElem?_eq_getElem hj,List.getElem_idxOf hj]
  have e:i=z.cps.toList.idxOf c:=by
   rcases Nat.lt_trichotomy i (z.cps.toList.idxOf c) with h|h|h
   .exact absurd hc (by
     have:=List.not_of_lt_findIdx (p:=(· == c)) (xs:=z.cps.toList) (i:=i) (by simpa [idxOf] using h)
     simpa using this)
   .exact h
   .exact absurd (at_one.mpr hg) (h3 _ h)
  rw [h1,e]
end L2
namespace L2
open PySem PySem.Spec PyProof.Rows
theorem ybU {env:Env}(y:Str):∀ names:List (Str×NameKind),
  (names.map fun (n,k)=>if (k == NameKind.free && env.scope.kind == .function && env.kindOf n == some .cell) then (n,NameKind.cell) else (n,k)).lookup y
   = (names.lookup y).map fun k=>if (k == NameKind.free && env.scope.kind == .function && env.kindOf y == some .cell) then NameKind.cell else k
 | []=>rfl
 | (n,k)::r=>by
  have ih:=ybU (env:=env) y r
  show List.lookup y ((if (k == NameKind.free && env.scope.kind == .function && env.kindOf n == some .cell)=true then (n,NameKind.cell) else (n,k))::_)=_
  cases hx:y == n with
  | true =>
   have e:y=n:=eq_of_beq hx
   subst e
   by_cases hc:(k == NameKind.free && env.scope.kind == .function && env.kindOf y == some .cell)=true
   .rw [if_pos hc]
    simp only [lookup_cons,hx,map_some,if_pos hc]
   .rw [if_neg hc]
    simp only [lookup_cons,hx,map_some,if_neg hc]
  | false =>
   by_cases hc:(k == NameKind.free && env.scope.kind == .function && env.kindOf n == some .cell)=true
   .rw [if_pos hc];simp only [lookup_cons,hx];exact ih
   .rw [if_neg hc];simp only [lookup_cons,hx];exact ih
theorem yds {env:Env}:∀ (names:List (Str×NameKind)) (cs:List (Str×Addr)),(∀ n,(n,NameKind.free)∈names->∃ c,env.cells.lookup n=some c) ->
  ∃ cl,(forIn names cs (fun (x:Str×NameKind) (r:List (Str×Addr))=>if (x.2 == NameKind.free)=true then do let c <- cellOf env x.1;pure (ForInStep.yield ((x.1,c)::r)) else pure (ForInStep.yield r)):Sem (List (Str×Addr)))=pure cl /\
   (∀ y,(y,NameKind.free)∈names->cl.lookup y=env.cells.lookup y)/\(∀ y,(y,NameKind.free)∉names->cl.lookup y=cs.lookup y)
 | [],cs,_=>⟨cs,rfl,fun y h=>by simp at h,fun y _=>rfl⟩
 | (n,k)::r,cs,h=>by
  by_cases hk:k=.free
  .subst hk
   obtain ⟨c,hc⟩:=h n mem_cons_self
   obtain ⟨cl,e,h1,h2⟩:=yds r ((n,c)::cs) fun y hy=>h y (mem_cons_of_mem _ hy)
   refine ⟨cl,?_,fun y hy=>?_,fun y hy=>?_⟩
   .rw [List.forIn_cons]
    have e0:cellOf env n=pure c:=by unfold cellOf;rw [hc]
    simp only [beq_self_eq_true,if_true,e0,pure_bind]
    exact e
   .by_cases hr:(y,NameKind.free)∈r
    .exact h1 y hr
    .rw [h2 y hr]
     rcases mem_cons.mp hy with z|z
     .cases z
      rw [hc];simp [List.lookup]
     .exact absurd z hr
   .have hr:(y,NameKind.free)∉r:=fun z=>hy (mem_cons_of_mem _ z)
    rw [h2 y hr]
    have hn:(y == n)=false:=by
     cases e:y == n with
     | false=>rfl
     | true=>exact absurd (by rw [eq_of_beq e];exact mem_cons_self) hy
    simp [List.lookup,hn]
  .obtain ⟨cl,e,h1,h2⟩:=yds r cs fun y hy=>h y (mem_cons_of_mem _ hy)
   have hb:(k == NameKind.free)=false:=by simpa using hk
   refine ⟨cl,?_,fun y hy=>?_,fun y hy=>?_⟩
   .rw [List.forIn_cons]
    simp only [hb,Bool.false_eq_true,if_false,pure_bind]
    exact e
   .rcases mem_cons.mp hy with z|z
    .cases z;exact absurd rfl hk
    .exact h1 y z
   .exact h2 y fun z=>hy (mem_cons_of_mem _ z)
noncomputable def cxC (X:Cx) (scope:Scope) (cl:List (Str×Addr)) (C:Addr) (N:List Str) (s₃:Shared) (H₃:Hp) (fp:List Addr) (pins:List (Addr×Obj)):Cx :=
 { prog:=X.prog,w:=X.w,K:=X.K,mg:=X.mg,base:=X.base,A:=X.A,N:=N,s₀:=s₃,H₀:=H₃,env:=compEnvC scope cl C X.env,outer:=X.stack,stack:=X.stack,ex:=fp,fn:=fun _=>false,calm:=X.calm,pn:=X.pn++pins,xe:=fun _ _=>False }
noncomputable def FrOk (X:Cx) (scope:Scope):List Nat->List Str->Prop
 | [],[]=>True
 | i::is,y::ys=>X.N[i]?=some y/\scope.names.lookup y=some .free/\X.env.kindOf y=some .cell/\FrOk X scope is ys
 | _,_=>False
theorem FrOk.len {X:Cx}{scope:Scope}:∀ {is:List Nat}{ys:List Str},FrOk X scope is ys->is.length=ys.length
 | [],[],_=>rfl
 | _::is,_::ys,h=>by rw [length_cons,length_cons,FrOk.len h.2.2.2]
theorem FrOk.get {X:Cx}{scope:Scope}:∀ {is:List Nat}{ys:List Str}{j:Nat}{y:Str},FrOk X scope is ys->ys[j]?=some y->∃ i,is[j]?=some i/\X.N[i]?=some y/\scope.names.lookup y=some .free/\X.env.kindOf y=some .cell
 | [],[],_,_,_,e=>by simp at e
 | [],_::_,_,_,h,_=>h.elim
 | _::_,[],_,_,h,_=>h.elim
 | i::is,z::ys,0,y,h,e=>by
  simp at e
  subst e
  exact ⟨i,rfl,h.1,h.2.1,h.2.2.1⟩
 | i::is,z::ys,j+1,y,h,e=>by
  obtain ⟨k,h1,h2⟩:=FrOk.get (j:=j) h.2.2.2 (by simpa using e)
  exact ⟨k,by simpa using h1,h2⟩
end L2
namespace L2
open PySem PySem.Spec PyProof.Rows
theorem yrG {P:Program}{w:World}{K:PySem.W.Frag}{tg:Expr}{ty:String}(hty:ty = "str_ascii_iterator"\/ty = "str_iterator") (z:Str) (t:Tok) (it:Addr):Turn P w K tg (Its z) [it] it (fun i h=>h.IsStrIter it ty z t i) where
 mem:=by simp
 obj:=fun i h st b hb=>by
  have e:b=it:=by simpa using hb
  subst e
  obtain ⟨o,e,c,d⟩:=st
  exact ⟨o,e,fun v q=>by rw [d] at q;cases q⟩
 keep:=fun i h h' st k=>by
  obtain ⟨o,e,c,d⟩:=st
  exact ⟨o,k it (by simp) o e,c,d⟩
 item:=by
  intro X hP hw hK hc i pins s σ H E I hf st hg
  subst hP hw hK
  obtain ⟨f0,f1,f2,f3,f4,f5⟩:=hf it (by simp)
  have hg:i<z.length:=hg
  obtain ⟨ch,hz⟩:∃ ch,z.cps[i]?=some ch:=⟨_,Array.getElem?_eq_getElem (show i<z.cps.size from hg)⟩
  have fin:∀ h',h'.IsStrIter it ty z t (i+1)->Heap.SameBut it s.heap h'->∃ u,some (Value.str ⟨#[ch]⟩ s.toks)=some u /\
    wpAny (model X.prog X.w) X.A (letOwnedTupleGo tg (.ref it) u) (fun _ s2=>∃ x H',Inv X pins σ H' s2/\RelV x u/\(Its z).yld i H x H'/\s2.heap.IsStrIter it ty z t (i+1)/\∀ b∈[it],H' b=none) E { s with heap:=h',toks:=s.toks+1 }:=fun h' st' sb=>by
   have I1:Inv X pins σ H { s with heap:=h',toks:=s.toks+1 }:=I.turned (t':=s.toks+1) (fun b o hb e=>(sb.2 b hb).trans e) f0 f1 f3 f4 f5
   obtain ⟨o,e,c,d⟩:=id st'
   refine ⟨_,rfl,yoA (s:={ s with heap:=h',toks:=s.toks+1 }) e c d (by rcases hty with rfl|rfl<;>decide) ⟨.str ⟨#[ch]⟩,H,I1,⟨_,rfl⟩,⟨rfl,_,by simpa using hz,rfl⟩,st',fun b hb=>(hf b hb).1⟩⟩
  rcases hty with rfl|rfl
  .exact wpAny_pyNext_ascii_item st hz fun h' st' sb=>fin h' st' sb
  .exact wpAny_pyNext_wide_item st hz fun h' st' sb=>fin h' st' sb
 done:=by
  intro X hP hw hK hc i pins s σ H E I hf st hg
  subst hP hw hK
  obtain ⟨f0,f1,f2,f3,f4,f5⟩:=hf it (by simp)
  have hg:i=z.length:=hg
  have hz:z.cps[i]?=none:=by simp [hg,Str.length]
  rcases hty with rfl|rfl
  .exact wpAny_pyNext_ascii_end (I.ok.hd hc) st hz fun h' eb=>⟨rfl,I.turned (t':=s.toks) (fun b o hb e=>eb b o hb e) f0 f1 f3 f4 f5⟩
  .exact wpAny_pyNext_wide_end (I.ok.hd hc) st hz fun h' eb=>⟨rfl,I.turned (t':=s.toks) (fun b o hb e=>eb b o hb e) f0 f1 f3 f4 f5⟩
 self:=fun _ _ _ _ _ st h=>by
  rcases hty with rfl|rfl
  .exact wpAny_pyIter_striter_ascii st h
  .exact wpAny_pyIter_striter_wide st h
section
variable {X:Cx}{tg:Expr}
theorem yyr {l:Expr}{tl:TE}(hl:PE X l tl):PI X tg l (yEa tl):=by
 intro pins s σ H R I h
 refine thn (hl pins s σ H _ I h) fun v s1 ⟨x,H1,I1,r1,q1⟩=>?_
 obtain ⟨z,e,hz,q⟩:=q1
 subst e
 obtain ⟨t,rfl⟩:=r1
 have fin:∀ ty,(ty = "str_ascii_iterator"\/ty = "str_iterator")->PIE X pins σ tg R (.ref s1.heap.objs.size) { s1 with heap:=s1.heap.push { cls:=.type ty,data:=.fields #[.str z t,.int 0 0] } }:=fun ty hty=>by
  refine ⟨s1.heap.objs.size,[s1.heap.objs.size],_,_,H1,rfl,I1.kept (t':=s1.toks) fun b o e=>Heap.get?_push_of_some _ e,yrG hty z t _,⟨_,Heap.get?_push_size _ rfl,rfl,rfl⟩,fun b hb=>?_,q⟩
  have e:b=s1.heap.objs.size:=by simpa using hb
  subst e
  exact I1.fpOk (Nat.le_refl _) (I1.hok.fresh (Nat.le_refl _))
 cases ha:z.cps.all (· < 128)
 .exact wpAny_pyIter_wide ha (fin _ (.inr rfl))
 .exact wpAny_pyIter_ascii ha (fin _ (.inl rfl))
theorem yiw:∀ {bs:List Bool}{us:List Value},Vals (bs.map V.bl) us->us=bs.map Value.bool
 | [],_,.nil=>rfl
 | b::bs,_,.cons r t=>by rw [show _=Value.bool b from r,yiw t];rfl
theorem yms (hc:X.calm=true):yek X (.builtin "all") yDY:=by
 intro pins s σ H xs us Q I r h
 obtain ⟨p,bs,rfl,hp,q⟩:=h
 obtain ⟨u,rfl,rx⟩:=vals1 r
 cases rx
 obtain ⟨its,n,rv,e,hz⟩:=I.lst hp
 have eb:=yiw rv
 subst eb
 have hl:s.heap.IsList p (bs.map Value.bool).toArray:=⟨_,e,rfl,n,rfl⟩
 have hlt:p<s.heap.objs.size:=Heap.lt_size e
 refine call_all_walk (wpAny_pyIter_list hl ?_)
 refine ⟨s.heap.objs.size,[s.heap.objs.size,p],[s.heap.objs.size],(bs.map Value.bool).toArray.size,_,_,fun i=>(bs[i]?).getD true,rfl,Walks.list (A:=X.A.in1) (I.ok.hd hc) _ p (ne_of_lt hlt) _,
  ⟨⟨_,Heap.get?_push_size _ rfl,rfl,rfl⟩,hl.push _⟩,fun i v s' Q' E' hP hQ=>?_,fun h' tk hk=>?_⟩
 .have hP:(bs.map Value.bool)[i]?=some v:=by simpa using hP
  rw [getElem?_map] at hP
  cases eb:bs[i]? with
  | none=>rw [eb] at hP;cases hP
  | some b =>
   rw [eb] at hP
   cases hP
   simp only [eb,Option.getD_some] at hQ
   exact wpAny_truthy_bool hQ
 .have ea:((List.range (bs.map Value.bool).toArray.size).all fun i=>(bs[i]?).getD true)=bs.all id:=by
   rw [size_toArray,length_map]
   exact LSm.range_all bs
  rw [ea]
  exact ⟨.bl _,H,I.kept (t':=tk) fun b o eo=>hk b o (fun hm=>by rw [List.mem_singleton.mp hm] at eo;exact absurd (Heap.lt_size eo) (lt_irrefl _)) (Heap.get?_push_of_some _ eo),rfl,q⟩
theorem yrH (hc:X.calm=true):yek X (.builtin "sum") yDZ:=by
 intro pins s σ H xs us Q I r h
 obtain ⟨p,ns,rfl,hp,q⟩:=h
 obtain ⟨u,rfl,rx⟩:=vals1 r
 cases rx
 obtain ⟨its,n,rv,e,hz⟩:=I.lst hp
 have hi:IntsAre its ns:=intsAre_of rv
 have hl:s.heap.IsList p its.toArray:=⟨_,e,rfl,n,rfl⟩
 obtain ⟨xs,hx⟩:=hi.allInts.items
 have hl':s.heap.IsList p (intItems xs):=hx ▸ hl
 refine sum_intListG (I.ok.hd hc) hl' fun h' tk t' hk=>?_
 have e1:ns=xs.toList.map (·.1):=by
  rw [<- nums_intItems,<- hx]
  exact (show numsOf its.toArray.toList=ns from hi.numsOf).symm
 have e2:preSum (numAt xs) xs.size=ns.sum:=by
  rw [preSum_eq,List.take_of_length_le (by simp),e1]
 rw [e2]
 exact ⟨.int ns.sum,H,I.kept (t':=tk) hk,⟨_,rfl⟩,q⟩
theorem yjH:OpR X (compareOp .In) yDX:=by
 intro pins s σ H x y v u Q I rx ry h
 obtain ⟨c,j,rfl,rfl,q⟩:=h
 refine yoK pins s σ H _ _ v u Q I rx ry ⟨_,_,rfl,rfl,?_⟩
 have e:(!(Builtin.Str.occurrences j ⟨#[c]⟩ 0 j.length 1).isEmpty)=decide (c∈j.cps.toList):=by
  rcases ypc j c with ⟨h1,h2⟩|⟨r,h1,h2⟩
  .rw [h1];simp [h2]
  .rw [h1];simp [h2]
 rw [e]
 exact q
theorem yrI {C:Addr}{x:Str}{p pos:Pos}(hm:makesIn X.K C=true) (hi:findIn X.K (.ref C) "__init__" = some (some (.builtin "object.__init__"))) (hk:keepIn X.K (.ref C)=true)
  (hg:Gl X x) (hmg:X.mg x=some (.ref C)) (hdb:(x == ("__debug__":Str))=false:=by decide):PE X (.Call (.Name x p) [] [] pos) (ytS C):=by
 intro pins s σ H Q I h
 refine wpAny_Call_Name_kw (yeo I hg hmg ?_ hdb)
 refine PySem.W.callWith_K0 I.kIn hk (wpAny_call ?_)
 have I2:=Inv.made (C:=C) I
 have q:=h (s.heap.objs.size+1) s.heap.objs.size (I.hok.fresh (Nat.le_succ _)) (I.hok.fresh (Nat.le_refl _)) (ne_of_lt (Nat.lt_succ_self _))
 have kin:=I.kIn
 obtain ⟨hh,g,d,t,os⟩:=s
 have Y:=PySem.W.makes_of (M:=model X.prog X.w) kin hm
 refine PySem.W.make_core Y (PySem.W.looks_findIn kin hi) (fun self=>PySem.W.Looks.of_pure (PySem.W.oi_bind self)) (.inr ⟨rfl,rfl⟩) ?_
 have e1:((hh.push emptyDict).push (instObj C hh.objs.size)).get? (hh.objs.size+1)=some (instObj C hh.objs.size):=by
  have:=Heap.get?_push_size (h:=hh.push emptyDict) (o:=instObj C hh.objs.size) rfl
  rwa [Heap.size_push] at this
 have t1:PySem.W.Looks (model X.prog X.w) ((hh.push emptyDict).push (instObj C hh.objs.size)) (typeOf (.ref (hh.objs.size+1))) (.ref C):=(PySem.W.Looks.ld e1).andThen .now
 have t2:PySem.W.Looks (model X.prog X.w) ((hh.push emptyDict).push (instObj C hh.objs.size)) (isInstance (.ref (hh.objs.size+1)) (.type "object")) true:=t1.andThen (Y.top.keeps fun b o e=>Heap.get?_push_of_some _ (Heap.get?_push_of_some _ e))
 refine codeAny_call_builtin PySem.W.oi_plain PySem.W.entry_oi (@PySem.W.check_slot (model X.prog X.w) _ _ _ "object.__init__" "object" "__init__" (.ref (hh.objs.size+1)) [] [] _ PySem.W.oi_kind PySem.W.oi_split t2 (PySem.W.oi_args (.ref (hh.objs.size+1))) ?_)
 show wpAny _ _ (Builtin.«object.__init__» ⟨[.ref (hh.objs.size+1)],[]⟩) _ _ _
 rw [PySem.W.oi_run]
 exact wpAny_pure (And.intro rfl ⟨.ref _,_,I2,rfl,q⟩)
def ylm {κ:Type}(P:Program) (w:World) (K:PySem.W.Frag) (mg:Str->Option Value) (base:Heap) (k:Nat) (A:κ->Addr) (m:Str) (sp:κ->Sp):Prop :=
 ∀ c:κ,Cls K (A c)/\((∀ vs H Q E,¬ sp c vs H Q E)\/∃ f fd ps,Meth K (A c) m f/\FnOk P w K mg base CX0 k f fd ps (sp c)/\Binds K fd ps [])
theorem ypd {κ:Type}{A:κ->Addr}{m:Str}{sp:κ->Sp}{k:Nat}{o:Expr}{ta:TE}{apos pos:Pos}{pl:Sem Bool}(he:PE X o ta) (G:ylm X.prog X.w X.K X.mg X.base k A m sp) (hr:Room k X.A)
  (ht:eval (.Call (.Attribute o m apos) [] [] pos) X.env=(do
   let ov <- eval o X.env
   standAt apos.atName
   let (f,first) <- holding [ov] (getMethod ov m pl)
   callWith pos f first (backTo pos (starEach [] X.env)) (backToKw pos (keywordEach [] X.env))):=by rfl):PE X (.Call (.Attribute o m apos) [] [] pos) (ytT A m sp ta):=by
 intro pins s σ H Q I h
 refine PySem.W.methodCall_KW (pl:=pl) (thn (he pins s σ H _ I h) fun u s1 ⟨x,H1,I1,rx,a,c,dx,fs,ex,ea,l,q⟩=>?_) ht
 subst ex
 obtain rfl:u=Value.ref a:=rx
 obtain ⟨cl,hn|⟨f,fd,ps,hm,F,hb⟩⟩:=G c
 .exact (hn _ _ _ _ q).elim
 refine yfQ I1 ea cl hm l ?_
 exact PySem.W.callWith_K0 (first:=[.ref a]) I1.kIn hm.kp (yjy (us:=[.ref a]) (vs:=[.ref a]) (dvs:=[]) (ds:=[]) F hr hb .nil yiv I1 (.cons rfl .nil) q)
end
end L2
namespace L2
open PySem PySem.Spec PyProof.Rows
def ExO (D a:Addr):HO:=.ext fun h=>∃ ox,PySem.W.InstAt h a ox D none
def xAd (K:PySem.W.Frag) (n:Str):Addr:=match nsIn K mainGlobals n with|some (some (.ref D))=>D|_=>0
section
variable {X:Cx}
theorem yM:yek X (.builtin "isinstance") (yBV X.K):=by
 intro pins s σ H xs us Q I r h
 obtain ⟨x,c,b,rfl,⟨t,u',ty,hc,hk⟩,q⟩:=h
 obtain ⟨u,w',rfl,ru,rc⟩:=vals2 r
 have e:w'=u':=by
  cases c<;>first|(cases hc;exact rc)|cases hc
 subst e
 exact yoP I ru ty hk fun tk=>⟨.bl b,H,I.tok tk,rfl,q⟩
theorem yhV:∀ (cs:List Nat) (a:Nat),(∀ c∈cs,48<=c/\c<=57)->((cs.foldl (fun acc c=>acc*10+(c-48)) a:Nat):Int)=cs.foldl (fun (a:Int) (c:Nat)=>a*10+((c:Int)-48)) (a:Int)
 | [],_,_=>rfl
 | c::cs,a,h=>by
  have hc:=h c mem_cons_self
  rw [List.foldl_cons,List.foldl_cons,yhV cs _ fun d hd=>h d (mem_cons_of_mem _ hd)]
  congr 1
  omega
theorem yjI:yek X (.type "int") yyp:=by
 intro pins s σ H xs us Q I r h
 obtain ⟨z,rfl,hne,hd,hl,q⟩:=h
 obtain ⟨u,rfl,t,rfl⟩:=vals1 r
 have e:=PySem.intText_digits (x:=z) hd hne (by omega)
 have e2:((PySem.NumText.digitsVal z.cps.toList:Nat):Int)=yvm z.cps.toList:=yhV z.cps.toList 0 hd
 rw [e2] at e
 exact PySem.W.KIN.call_text e hl ⟨.int _,H,I.tok _,⟨_,rfl⟩,q⟩
end
end L2
namespace L2
open PySem PySem.Spec PyProof.Rows
section
variable {X:Cx}
theorem yvo {x:Str}{n:Int}{t:Tok}{pos:Pos}(hg:Gl X x) (hm:X.mg x=some (.int n t)) (hd:(x == ("__debug__":Str))=false:=by decide):PE X (.Name x pos) (tC (.int n)):=yip hg hm ⟨t,rfl⟩ hd
theorem yvp {x:Str}{n:Str}{t:Tok}{pos:Pos}(hg:Gl X x) (hm:X.mg x=some (.str n t)) (hd:(x == ("__debug__":Str))=false:=by decide):PE X (.Name x pos) (tC (.str n)):=yip hg hm ⟨t,rfl⟩ hd
theorem ype {x:Str}{a:Addr}{pos:Pos}(hg:Gl X x) (hm:X.mg x=some (.ref a)) (hd:(x == ("__debug__":Str))=false:=by decide):PE X (.Name x pos) (tC (.ref a)):=yip hg hm rfl hd
theorem yys {x:Str}{n:String}{pos:Pos}(hg:Gl X x) (hm:X.mg x=none) (hv:bootBuiltins x=some (.type n)) (hn:x≠"__name__":=by decide) (hd:(x == ("__debug__":Str))=false:=by decide):PE X (.Name x pos) (tC (.ty n)):=yuW hg hm hv rfl hn hd
end
end L2
namespace L2
open PySem PySem.Spec PyProof.Rows
theorem yln {K:PySem.W.Frag}{H:Hp}{i:Int}:IsI K H (.int i) (.ty "str") false:=⟨_,_,.int i,rfl,by with_unfolding_all rfl⟩
theorem yjJ {K:PySem.W.Frag}{H:Hp}{i:Int}:IsI K H (.int i) (.ty "list") false:=⟨_,_,.int i,rfl,by with_unfolding_all rfl⟩
theorem yix {K:PySem.W.Frag}{H:Hp}{i:Int}:IsI K H (.int i) (.ty "tuple") false:=⟨_,_,.int i,rfl,by with_unfolding_all rfl⟩
theorem yjK {K:PySem.W.Frag}{H:Hp}{i:Int}:IsI K H (.int i) (.ty "dict") false:=⟨_,_,.int i,rfl,by with_unfolding_all rfl⟩
theorem ynv {K:PySem.W.Frag}{H:Hp}{i:Bool}:IsI K H (.bl i) (.ty "int") true:=⟨_,_,.bl i,rfl,by with_unfolding_all rfl⟩
theorem ynw {K:PySem.W.Frag}{H:Hp}{i:Bool}:IsI K H (.bl i) (.ty "str") false:=⟨_,_,.bl i,rfl,by with_unfolding_all rfl⟩
theorem ylo {K:PySem.W.Frag}{H:Hp}{i:Bool}:IsI K H (.bl i) (.ty "list") false:=⟨_,_,.bl i,rfl,by with_unfolding_all rfl⟩
theorem yjL {K:PySem.W.Frag}{H:Hp}{i:Bool}:IsI K H (.bl i) (.ty "tuple") false:=⟨_,_,.bl i,rfl,by with_unfolding_all rfl⟩
theorem ylp {K:PySem.W.Frag}{H:Hp}{i:Bool}:IsI K H (.bl i) (.ty "dict") false:=⟨_,_,.bl i,rfl,by with_unfolding_all rfl⟩
theorem ylq {K:PySem.W.Frag}{H:Hp}{i:Str}:IsI K H (.str i) (.ty "int") false:=⟨_,_,.str i,rfl,by with_unfolding_all rfl⟩
theorem yjM {K:PySem.W.Frag}{H:Hp}{i:Str}:IsI K H (.str i) (.ty "bool") false:=⟨_,_,.str i,rfl,by with_unfolding_all rfl⟩
theorem yjN {K:PySem.W.Frag}{H:Hp}{i:Str}:IsI K H (.str i) (.ty "list") false:=⟨_,_,.str i,rfl,by with_unfolding_all rfl⟩
theorem yiy {K:PySem.W.Frag}{H:Hp}{i:Str}:IsI K H (.str i) (.ty "tuple") false:=⟨_,_,.str i,rfl,by with_unfolding_all rfl⟩
theorem yjO {K:PySem.W.Frag}{H:Hp}{i:Str}:IsI K H (.str i) (.ty "dict") false:=⟨_,_,.str i,rfl,by with_unfolding_all rfl⟩
theorem yjP {K:PySem.W.Frag}{H:Hp}:IsI K H (.non) (.ty "bool") false:=⟨_,_,.non,rfl,by with_unfolding_all rfl⟩
theorem ylr {K:PySem.W.Frag}{H:Hp}:IsI K H (.non) (.ty "str") false:=⟨_,_,.non,rfl,by with_unfolding_all rfl⟩
theorem yjQ {K:PySem.W.Frag}{H:Hp}:IsI K H (.non) (.ty "list") false:=⟨_,_,.non,rfl,by with_unfolding_all rfl⟩
theorem yiz {K:PySem.W.Frag}{H:Hp}:IsI K H (.non) (.ty "tuple") false:=⟨_,_,.non,rfl,by with_unfolding_all rfl⟩
theorem yjR {K:PySem.W.Frag}{H:Hp}:IsI K H (.non) (.ty "dict") false:=⟨_,_,.non,rfl,by with_unfolding_all rfl⟩
theorem yls {K:PySem.W.Frag}{H:Hp}{a:Addr}{xs:List V}(e:H a=some (.lst xs)):IsI K H (.ref a) (.ty "int") false:=⟨_,_,.lst e,rfl,by with_unfolding_all rfl⟩
theorem yjS {K:PySem.W.Frag}{H:Hp}{a:Addr}{xs:List V}(e:H a=some (.lst xs)):IsI K H (.ref a) (.ty "bool") false:=⟨_,_,.lst e,rfl,by with_unfolding_all rfl⟩
theorem ylt {K:PySem.W.Frag}{H:Hp}{a:Addr}{xs:List V}(e:H a=some (.lst xs)):IsI K H (.ref a) (.ty "str") false:=⟨_,_,.lst e,rfl,by with_unfolding_all rfl⟩
theorem yiA {K:PySem.W.Frag}{H:Hp}{a:Addr}{xs:List V}(e:H a=some (.lst xs)):IsI K H (.ref a) (.ty "tuple") false:=⟨_,_,.lst e,rfl,by with_unfolding_all rfl⟩
theorem yjT {K:PySem.W.Frag}{H:Hp}{a:Addr}{xs:List V}(e:H a=some (.lst xs)):IsI K H (.ref a) (.ty "dict") false:=⟨_,_,.lst e,rfl,by with_unfolding_all rfl⟩
theorem yiB {K:PySem.W.Frag}{H:Hp}{a:Addr}(e:(∃ xs,H a=some (.tup xs))\/∃ o,K.lookup a=some o/\o.cls=.type "tuple"):IsI K H (.ref a) (.ty "tuple") true:=e.elim (fun ⟨_,e⟩=>⟨_,_,.tup e,rfl,by with_unfolding_all rfl⟩) fun ⟨_,e,c⟩=>⟨_,_,.kt e c,rfl,by with_unfolding_all rfl⟩
theorem ylu {K:PySem.W.Frag}{H:Hp}{a:Addr}(e:(∃ xs,H a=some (.tup xs))\/∃ o,K.lookup a=some o/\o.cls=.type "tuple"):IsI K H (.ref a) (.ty "int") false:=e.elim (fun ⟨_,e⟩=>⟨_,_,.tup e,rfl,by with_unfolding_all rfl⟩) fun ⟨_,e,c⟩=>⟨_,_,.kt e c,rfl,by with_unfolding_all rfl⟩
theorem yjU {K:PySem.W.Frag}{H:Hp}{a:Addr}(e:(∃ xs,H a=some (.tup xs))\/∃ o,K.lookup a=some o/\o.cls=.type "tuple"):IsI K H (.ref a) (.ty "bool") false:=e.elim (fun ⟨_,e⟩=>⟨_,_,.tup e,rfl,by with_unfolding_all rfl⟩) fun ⟨_,e,c⟩=>⟨_,_,.kt e c,rfl,by with_unfolding_all rfl⟩
theorem ylv {K:PySem.W.Frag}{H:Hp}{a:Addr}(e:(∃ xs,H a=some (.tup xs))\/∃ o,K.lookup a=some o/\o.cls=.type "tuple"):IsI K H (.ref a) (.ty "str") false:=e.elim (fun ⟨_,e⟩=>⟨_,_,.tup e,rfl,by with_unfolding_all rfl⟩) fun ⟨_,e,c⟩=>⟨_,_,.kt e c,rfl,by with_unfolding_all rfl⟩
theorem yjV {K:PySem.W.Frag}{H:Hp}{a:Addr}(e:(∃ xs,H a=some (.tup xs))\/∃ o,K.lookup a=some o/\o.cls=.type "tuple"):IsI K H (.ref a) (.ty "list") false:=e.elim (fun ⟨_,e⟩=>⟨_,_,.tup e,rfl,by with_unfolding_all rfl⟩) fun ⟨_,e,c⟩=>⟨_,_,.kt e c,rfl,by with_unfolding_all rfl⟩
theorem yjW {K:PySem.W.Frag}{H:Hp}{a:Addr}(e:(∃ xs,H a=some (.tup xs))\/∃ o,K.lookup a=some o/\o.cls=.type "tuple"):IsI K H (.ref a) (.ty "dict") false:=e.elim (fun ⟨_,e⟩=>⟨_,_,.tup e,rfl,by with_unfolding_all rfl⟩) fun ⟨_,e,c⟩=>⟨_,_,.kt e c,rfl,by with_unfolding_all rfl⟩
end L2
namespace L2
open PySem PySem.Spec PyProof.Rows
theorem ymt {K:PySem.W.Frag}{C:Addr}:PySem.W.kitOne K (.ref C) (.ref C)=some true:=by
 unfold PySem.W.kitOne
 have:((Value.ref C) == (Value.ref C))=true:=by simp
 rw [if_pos this]
theorem yrJ {K:PySem.W.Frag}{C C':Addr}{b:Bool}(hm:mroIn K C' (.type "object")=some true) (ht:typeIn K (.ref C')=some (.type "type")) (hs:subIn K (.ref C) (.ref C')=some b):PySem.W.kitCls K (.ref C) (.ref C')=some b:=by
 unfold PySem.W.kitCls
 have h1:(PySem.W.clsIn K C').isSome=true:=by
  unfold mroIn at hm
  cases e:PySem.W.clsIn K C' with
  | none=>rw [e] at hm;cases hm
  | some c=>rfl
 have h2:(typeIn K (.ref C') == some (.type "type"))=true:=by rw [ht];simp
 show (if _ then _ else _)=_
 rw [if_pos (by rw [h1,h2];rfl)]
 exact hs
theorem yfq {K:PySem.W.Frag}{C C':Addr}(hn:(C == C')=false) (hm:mroIn K C' (.type "object")=some true) (ht:typeIn K (.ref C')=some (.type "type")) (hs:subIn K (.ref C) (.ref C')=some false):PySem.W.kitOne K (.ref C) (.ref C')=some false:=by
 unfold PySem.W.kitOne
 have:¬ ((Value.ref C) == (Value.ref C'))=true:=by
  intro z
  have z:=eq_of_beq z
  cases z
  simp at hn
 rw [if_neg this]
 exact yrJ hm ht hs
theorem all_cons {α:Type}{p:α->Prop}{a:α}{l:List α}(h:p a) (t:∀ x∈l,p x):∀ x∈a::l,p x:=fun x hx=>by
 rcases mem_cons.mp hx with e|e
 .rw [e];exact h
 .exact t x e
end L2
namespace L2
open PySem PySem.Spec PyProof.Rows
noncomputable def Exc (h:Heap) (a:Addr) (C:Value) (T:Option Addr):Prop:=∃ o vs,h.get? a=some o/\(o.cls=C/\o.dict=none)/\o.data=.fields vs/\match T with
 | none=>vs[1]?=some .none
 | some T=>vs[1]?=some (.ref T)/\T≠a/\∃ oT ts,h.get? T=some oT/\oT.data=.fields ts/\ts[3]?=some .none
structure Lv (fs:List Addr) (a:Addr) (T:Option Addr) (h h':Heap):Prop where
 keep:∀ b o,h.get? b=some o->b≠a->some b≠T->b∉fs->h'.get? b=some o
 slot:∀ b o,h.get? b=some o->b≠a->some b≠T->b∈fs->∃ sl,h'.get? b=some { o with slots:=sl }
 there:∀ b o,h.get? b=some o->∃ o',h'.get? b=some o'
section
variable {M:Model}{A:Around}{E:Value->Shared->Prop}{s:Shared}{base:Heap}{env:Env}{outer:List Env}{L a:Addr}{C:Value}{T:Option Addr}{fs:List Addr}{h h1:Heap}
theorem yhE {l:List Env}:(env::l).dropWhile (fun x=>x.frame != env.frame)=env::l:=by
 simp [List.dropWhile]
theorem ynx {Q:Value->Shared->Prop}(hf:A.frames=some (env::outer)) (ff:s.heap.FunFrames base (env::outer)) (hL:env.frame=some L)
  (k:∀ h',Heap.SlotsOnly (frs (env::outer)) s.heap h'->Q (.ref L) { s with heap:=h' }):wpAny M A (PySem.frameOf env) Q E s:=by
 unfold PySem.frameOf
 refine wpAny_bind (wpAny_frameEnvs hf ?_)
 rw [yhE]
 unfold frameObject
 refine wpAny_bind (wpAny_bind (wpAny_readyFrames_fun ff fun h' hs=>?_))
 rw [hL]
 exact wpAny_pure (wpAny_pure (k h' hs))
theorem yBY {o:Obj}{vs:Array Value}{f:Array Value->Array Value}(d:o.data=.fields vs):o.mapFields f={ o with data:=.fields (f vs) }/\(o.mapFields f).isFreed=false:=by
 obtain ⟨c,dd,da,sl⟩:=o
 cases d
 exact ⟨rfl,rfl⟩
theorem ygf {Q:Unit->Shared->Prop}{o:Obj}{vs:Array Value}{hd:Value}(hf:A.frames=some (env::outer)) (ff:s.heap.FunFrames base (env::outer)) (hL:env.frame=some L) (ho:s.heap.get? a=some o) (d:o.data=.fields vs) (hv:1<vs.size)
  (k:∀ h' ts,h'.get? a=some { o with data:=.fields (vs.setIfInBounds 1 (.ref s.heap.objs.size)) }->h'.get? s.heap.objs.size=some ⟨.type "traceback",none,.fields ts,#[]⟩->3<ts.size->Lv (frs (env::outer)) a none s.heap h'->Q () { s with heap:=h' }) :
  wpAny M A (do
   let fo <- PySem.frameOf env
   let pl <- entryPlaceOf L (hd != .none)
   let en <- EntryCells.newEntry hd fo .none (rawInt L) .none pl
   setField (.ref a) 1 en) Q E s:=by
 have na:a∉frs (env::outer):=fun z=>by
  obtain ⟨_,o',e1,e2⟩:=ff.mem z
  rw [ho] at e1
  cases e1
  exact e2 _ d
 refine wpAny_bind (ynx hf ff hL fun h1 sl=>?_)
 obtain ⟨sz,sk,ss⟩:=sl
 refine wpAny_bind (wpAny_entryPlaceOf fun pl hp=>?_)
 have ho1:h1.get? a=some o:=by rw [sk a na];exact ho
 have hlt:=Heap.lt_size ho1
 unfold EntryCells.newEntry newFields
 refine wpAny_bind (wpAny_newObj_type ?_ ?_)
 .have ho2:=Heap.get?_push_of_some (⟨.type "traceback",none,.fields ([hd,.ref L,.none,rawInt L,.none]++if pl.isEmpty=true then replicate 6 .none else pl).toArray,#[]⟩:Obj) ho1
  refine wpAny_setField ho2 d hv ?_
  have hs:=sz
  obtain ⟨m1,m2⟩:=yBY (f:=fun x=>x.setIfInBounds 1 (.ref h1.objs.size)) d
  refine k _ ([hd,.ref L,.none,rawInt L,.none]++if pl.isEmpty=true then replicate 6 .none else pl).toArray ?_ ?_ ?_ ⟨?_,?_,?_⟩
  .rw [<- hs,Heap.get?_update_self _ ho2 m2,m1]
  .rw [<- hs,Heap.get?_update_ne _ _ _ _ (fun z=>by rw [z] at hlt;exact lt_irrefl _ hlt)]
   exact Heap.get?_push_size _ rfl
  .simp
  .intro b ob hb n1 _ n3
   rw [Heap.get?_update_ne _ _ _ _ n1]
   exact Heap.get?_push_of_some _ (by rw [sk b n3];exact hb)
  .intro b ob hb n1 _ _
   obtain ⟨sl,e⟩:=ss b ob hb
   refine ⟨sl,?_⟩
   rw [Heap.get?_update_ne _ _ _ _ n1]
   exact Heap.get?_push_of_some _ e
  .intro b ob hb
   by_cases e:b=a
   .rw [e]
    exact ⟨_,Heap.get?_update_self _ ho2 m2⟩
   .obtain ⟨sl,e'⟩:=ss b ob hb
    refine ⟨{ ob with slots:=sl },?_⟩
    rw [Heap.get?_update_ne _ _ _ _ e]
    exact Heap.get?_push_of_some _ e'
 .rcases hp with rfl|⟨_,_,_,_,_,_,_,rfl⟩
  .show _<=_;simp;decide
  .show _<=_;simp;decide
theorem Exc.nofr (x:Exc s.heap a C T) (ff:s.heap.FunFrames base (env::outer)):a∉frs (env::outer)/\∀ t,T=some t->t∉frs (env::outer):=by
 obtain ⟨o,vs,ho,_,d,h⟩:=x
 refine ⟨fun z=>?_,fun t et z=>?_⟩
 .obtain ⟨_,o',e1,e2⟩:=ff.mem z
  rw [ho] at e1
  cases e1
  exact e2 _ d
 .subst et
  obtain ⟨_,_,oT,ts,e1,e2,_⟩:=h
  obtain ⟨_,o',f1,f2⟩:=ff.mem z
  rw [e1] at f1
  cases f1
  exact f2 _ e2
theorem yjX {Q:Unit->Shared->Prop}{o oT:Obj}{vs ts:Array Value}{t:Addr}(ho:s.heap.get? a=some o) (d:o.data=.fields vs) (hv:vs[1]?=some (.ref t)) (hT:s.heap.get? t=some oT) (dT:oT.data=.fields ts) (h3:3<ts.size) (k:Q () { s with heap:=s.heap.update t (Obj.mapFields fun x=>x.setIfInBounds 3 .none) }):wpAny M A (setFlight (.ref a) none) Q E s:=wpAny_setFlight_none ho d hv hT dT h3 k
theorem ymu {Q:Unit->Shared->Prop}(hf:A.frames=some (env::outer)) (ff:s.heap.FunFrames base (env::outer)) (hL:env.frame=some L) (x:Exc s.heap a C T)
  (k:∀ h' t,Exc h' a C (some t)->s.heap.objs.size<=t->Lv (frs (env::outer)) a T s.heap h'->Q () { s with heap:=h' }):wpAny M A (noteFrame (.ref a) env) (fun _ s'=>wpAny M A (setFlight (.ref a) none) Q E s') E s:=by
 obtain ⟨na,nt⟩:=x.nofr ff
 obtain ⟨o,vs,ho,hc,d,h⟩:=x
 have s1:∀ {v:Value},vs[1]?=some v->1<vs.size:=fun e=>(Array.getElem?_eq_some_iff.mp e).1
 have nn:s.heap.objs.size<=s.heap.objs.size:=Nat.le_refl _
 have fin:∀ (s1:Shared) (h':Heap) (ts:Array Value),s1.heap.objs.size=s.heap.objs.size->s1.heap.get? a=some o->h'.get? a=some { o with data:=.fields (vs.setIfInBounds 1 (.ref s1.heap.objs.size)) }->h'.get? s1.heap.objs.size=some ⟨.type "traceback",none,.fields ts,#[]⟩->3<ts.size->1<vs.size ->
   (∀ h2,(∀ b,b≠s.heap.objs.size->h2.get? b=h'.get? b)->Exc h2 a C (some s.heap.objs.size)->Q () { s1 with heap:=h2 })->wpAny M A (setFlight (.ref a) none) Q E { s1 with heap:=h' }:=by
  intro s1 h' ts ez ea e1 e2 h3 hv kk
  have hlt:a<s.heap.objs.size:=by rw [<- ez];exact Heap.lt_size ea
  rw [ez] at e1 e2
  refine yjX (s:={ s1 with heap:=h' }) (t:=s.heap.objs.size) (o:={ o with data:=.fields (vs.setIfInBounds 1 (.ref s.heap.objs.size)) }) (vs:=vs.setIfInBounds 1 (.ref s.heap.objs.size)) e1 rfl (by simp [hv]) e2 rfl h3 (kk _ (fun b hb=>Heap.get?_update_ne _ _ _ _ hb) ⟨{ o with data:=.fields (vs.setIfInBounds 1 (.ref s.heap.objs.size)) },vs.setIfInBounds 1 (.ref s.heap.objs.size),by rw [Heap.get?_update_ne _ _ _ _ (ne_of_lt hlt)];exact e1,hc,rfl,by simp [hv],(ne_of_lt hlt).symm,_,_,Heap.get?_update_self _ e2 rfl,rfl,by simp [h3]⟩)
 unfold noteFrame
 rw [hL]
 cases T with
 | none =>
  refine wpAny_bind (wpAny_field ho d h ?_)
  rw [if_neg (by decide)]
  refine ygf hf ff hL ho d (s1 h) fun h' ts e1 e2 h3 lv=>?_
  refine fin s h' ts rfl ho e1 e2 h3 (s1 h) fun h2 kp x2=>k h2 _ x2 nn ⟨fun b ob hb n1 n2 n3=>?_,fun b ob hb n1 n2 n3=>?_,fun b ob hb=>?_⟩
  .rw [kp b (ne_of_lt (Heap.lt_size hb))];exact lv.keep b ob hb n1 n2 n3
  .rw [kp b (ne_of_lt (Heap.lt_size hb))];exact lv.slot b ob hb n1 n2 n3
  .rw [kp b (ne_of_lt (Heap.lt_size hb))];exact lv.there b ob hb
 | some t =>
  obtain ⟨h,hta,oT,tts,hT,dT,h3⟩:=h
  have h3':3<tts.size:=(Array.getElem?_eq_some_iff.mp h3).1
  refine wpAny_bind (wpAny_field ho d h ?_)
  rw [if_pos (show (Value.ref t != Value.none)=true from rfl)]
  refine wpAny_bind (wpAny_field hT dT h3 ?_)
  rw [if_neg (show ¬ (Value.none == rawInt (L:Int))=true from Bool.false_ne_true)]
  refine wpAny_bind (wpAny_setField hT dT h3' ?_)
  obtain ⟨m1,m2⟩:=yBY (f:=fun x=>x.setIfInBounds 3 .none) dT
  have ho':(s.heap.update t (Obj.mapFields fun x=>x.setIfInBounds 3 .none)).get? a=some o:=by rw [Heap.get?_update_ne _ _ _ _ hta.symm];exact ho
  have ez:(s.heap.update t (Obj.mapFields fun x=>x.setIfInBounds 3 .none)).objs.size=s.heap.objs.size:=by simp [Heap.update]
  refine ygf (s:={ s with heap:=s.heap.update t (Obj.mapFields fun x=>x.setIfInBounds 3 .none) }) hf (base:=base) ?_ hL ho' d (s1 h) fun h' ts e1 e2 h3 lv=>?_
  .refine ff.of_keeps fun b ob hb nf=>⟨ob,?_,rfl⟩
   rw [Heap.get?_update_ne _ _ _ _ (fun z=>by rw [z,hT] at hb;cases hb;exact nf _ dT)]
   exact hb
  .refine fin { s with heap:=s.heap.update t (Obj.mapFields fun x=>x.setIfInBounds 3 .none) } h' ts ez ho' e1 e2 h3 (s1 h) fun h2 kp x2=>k h2 _ x2 nn ⟨fun b ob hb n1 n2 n3=>?_,fun b ob hb n1 n2 n3=>?_,fun b ob hb=>?_⟩
   .rw [kp b (ne_of_lt (Heap.lt_size hb))];exact lv.keep b ob (by rw [Heap.get?_update_ne _ _ _ _ (fun z=>n2 (by rw [z]))];exact hb) n1 (by simp) n3
   .rw [kp b (ne_of_lt (Heap.lt_size hb))];exact lv.slot b ob (by rw [Heap.get?_update_ne _ _ _ _ (fun z=>n2 (by rw [z]))];exact hb) n1 (by simp) n3
   .rw [kp b (ne_of_lt (Heap.lt_size hb))]
    by_cases e:b=t
    .exact lv.there b (oT.mapFields fun x=>x.setIfInBounds 3 .none) (by rw [e];exact Heap.get?_update_self _ hT m2)
    .exact lv.there b ob (by rw [Heap.get?_update_ne _ _ _ _ e];exact hb)
theorem yny {Q:Unit->Shared->Prop}(hf:A.frames=some (env::outer)) (ff:s.heap.FunFrames base (env::outer)) (hL:env.frame=some L) (x:Exc s.heap a C T)
  (k:∀ h' t,Exc h' a C (some t)->s.heap.objs.size<=t->Lv (frs (env::outer)) a T s.heap h'->Q () { s with heap:=h' }):wpAny M A (leaving env (.ref a)) Q E s:=wpAny_bind (ymu hf ff hL x k)
end
end L2
namespace L2
open PySem PySem.Spec PyProof.Rows
def CXr (P:Program) (w:World):CXT:=fun outer H s E e s'=>∃ a C T H',e=.ref a/\Exc s'.heap a C (some T)/\s.heap.get? a=none/\s.heap.get? T=none/\H' a=none/\H' T=none/\s'.os=s.os/\AllBare s'.gens/\Un (frs outer) [] H H' s.heap s'.heap/\HOk P w H' s'.heap/\E C (some a) H'
structure Fly (X:Cx) (a:Addr) (C:Value) (T:Option Addr) (H:Hp) (s:Shared):Prop where
 x:Exc s.heap a C T
 na:X.s₀.heap.get? a=none
 nt:∀ t,T=some t->X.s₀.heap.get? t=none/\H t=none
 ha:H a=none
 inv:∃ pins σ,Inv X pins σ H s
section
variable {P:Program}{w:World}{K:PySem.W.Frag}{mg:Str->Option Value}{base:Heap}{N:List Str}{qual:Str}{scope:Scope}{f a:Addr}{cd C:Value}{A:Around}{outer:List Env}{s s':Shared}{H H':Hp}{E:XK}{T:Option Addr}
theorem ytU (F:Fly (ylc (CXr P w) P w K mg base N qual scope f cd A outer s H E) a C T H' s') (q:E C (some a) H'):(ylc (CXr P w) P w K mg base N qual scope f cd A outer s H E).xe (.ref a) s':=by
 obtain ⟨x,na,nt,ha,pins,σ,I⟩:=F
 have na:s.heap.get? a=none:=na
 have nt:∀ t,T=some t->s.heap.get? t=none/\H' t=none:=nt
 have un:Un (frs outer) [] H H' s.heap s'.heap:=I.base
 have st:s'.heap.FunFrames base (envOfC qual scope s.heap.objs.size f cd::outer):=I.stack
 have sf:∀ b∈frs (envOfC qual scope s.heap.objs.size f cd::outer),H' b=none:=I.stkFree
 have lt:∀ {b:Addr}{o:Obj},s.heap.get? b=some o->b<s.heap.objs.size:=fun e=>Heap.lt_size e
 have sz:s.heap.objs.size<=s'.heap.objs.size:=I.sz
 show wpAny (model P w) (A.deeper (envOfC qual scope s.heap.objs.size f cd)) (leaving (envOfC qual scope s.heap.objs.size f cd) (.ref a)) (fun _ s''=>CXr P w outer H s E (.ref a) s'') _ s'
 refine yny (L:=s.heap.objs.size) (A:=A.deeper (envOfC qual scope s.heap.objs.size f cd)) (by have:=I.ok.frames;exact this) st rfl x fun h' t x' ht lv=>?_
 have hfs:∀ b,b∈frs (envOfC qual scope s.heap.objs.size f cd::outer)->b=s.heap.objs.size\/b∈frs outer:=fun b hb=>by
  rcases mem_cons.mp (show b∈s.heap.objs.size::frs outer from hb) with e|e
  .exact .inl e
  .exact .inr e
 have neT:∀ {b:Addr}{o:Obj},s.heap.get? b=some o->some b≠T:=fun {b o} hb z=>by rw [(nt b z.symm).1] at hb;cases hb
 have nea:∀ {b:Addr}{o:Obj},s.heap.get? b=some o->b≠a:=fun {b o} hb z=>by rw [z,na] at hb;cases hb
 have nt':s.heap.get? t=none:=by
  cases e:s.heap.get? t with
  | none=>rfl
  | some o=>exact absurd (lt e) (Nat.not_lt_of_le (Nat.le_trans sz ht))
 refine ⟨a,C,t,H',rfl,x',na,nt',ha,I.hok.fresh ht,I.os,I.bare,⟨?_,?_,?_,?_,un.tups,un.frzs,un.tbls⟩,?_,q⟩
 .intro b o hb n1 n2 n3
  refine lv.keep b o (un.keep b o hb n1 n2 n3) (nea hb) (neT hb) fun z=>?_
  rcases hfs b z with e|e
  .exact ne_of_lt (lt hb) e
  .exact n2 e
 .intro b o hb n1 n2 n3
  obtain ⟨sl,e⟩:=un.slot b o hb n1 n2 n3
  obtain ⟨sl',e'⟩:=lv.slot b _ e (nea hb) (neT hb) (mem_cons_of_mem _ n2)
  exact ⟨sl',e'⟩
 .exact un.free
 .intro b o hb n1
  obtain ⟨o',e⟩:=un.there b o hb n1
  exact lv.there b o' e
 .intro b o hb
  have kp:∀ c u,(∃ v,H' c=some v)->s'.heap.get? c=some u->h'.get? c=some u:=fun c u ⟨v,hv⟩ hc=>lv.keep c u hc (fun z=>by rw [z,ha] at hv;cases hv) (fun z=>by rw [(nt c z.symm).2] at hv;cases hv) fun z=>by rw [sf c z] at hv;cases hv
  refine (I.hok b o hb).stay (fun c u hc=>kp c u ?_) (fun _ q=>q) fun _ _ q=>q
  rcases hc with e|e
  .exact ⟨o,by rw [e];exact hb⟩
  .exact ⟨_,e⟩
theorem yyt {E':XK}(hE:∀ C a H',E' C a H'->E C a H'):yeh (CXr P w) (ylc (CXr P w) P w K mg base N qual scope f cd A outer s H E) E':=by
 rintro pins σ H1 s1 e s' I ⟨a,C,T,H',rfl,x,na,nt,ha,ht,os,bare,un,hok,q⟩
 have I':=I.call' (s':=s') os un hok bare (fun b z=>absurd z (by simp))
 have un1:Un (frs outer) [] H H1 s.heap s1.heap:=I.base
 have up:∀ b,s1.heap.get? b=none->s.heap.get? b=none:=fun b hb=>by
  cases e:s.heap.get? b with
  | none=>rfl
  | some o =>
   obtain ⟨o',e'⟩:=un1.there b o e (by simp)
   rw [hb] at e';cases e'
 exact ytU ⟨x,up a na,fun t e=>by cases e;exact ⟨up _ nt,ht⟩,ha,pins,σ,I'⟩ (hE _ _ _ q)
end
end L2
namespace L2
open PySem PySem.Spec PyProof.Rows
structure XCls (K:PySem.W.Frag) (C:Addr):Prop where
 ex:∃ (nm q:Str) (N:Addr) (bs bm bmB:List Value) (hdct:Bool) (sn:List Str) (sub:List Value) (ab:Bool) (col:Option Bool) (dd:Option Addr) (k0 k1 k2 k3 k5:Option Value) (B newId initId:String) (mN:Str->Option Value),
  ExcBaseFacts B newId initId bmB/\bm.contains (.type "BaseException")=true/\mN "__init__" = none/\∀ h:Heap,K.In h->h.get? C=some (excClassObj nm q C N bs bm hdct sn sub ab col dd k0 k1 k2 k3 k5 newId)/\h.Ns N mN/\OwnTail h bmB bm
noncomputable def XEs (X:Cx) (E:XK):Prop:=∀ (a:Addr) (C:Value) (T:Option Addr) (H:Hp) (s:Shared),Fly X a C T H s->E C (some a) H->X.xe (.ref a) s
def yyu (C:Addr) (E:XK) (t:TE):TS:=fun _ σ H=>t σ H fun v H1=>[v].length=1/\∀ a,H1 a=none->E (.ref C) (some a) H1
theorem ObjOk.there {P:Program}{w:World}{H:Hp}{h:Heap}{a:Addr}{o:HO}(x:ObjOk P w H h a o):∃ u,h.get? a=some u:=by
 cases o with
 | lst xs=>obtain ⟨_,_,_,_,e⟩:=x;exact ⟨_,e⟩
 | tup xs=>obtain ⟨_,_,_,p⟩:=x;obtain ⟨_,e⟩:=p;first|exact ⟨_,e⟩|exact ⟨_,e.1⟩
 | dK kvs=>obtain ⟨_,_,_,_,o,_,_,e,_⟩:=x;exact ⟨_,e⟩
 | dT kvs=>obtain ⟨_,_,_,_,o,_,_,e,_⟩:=x;exact ⟨_,e⟩
 | set S n=>obtain ⟨o,_,_,_,e,_⟩:=x;exact ⟨_,e⟩
 | ins C dx fs=>obtain ⟨_,_,_,e,_⟩:=x;exact ⟨_,e⟩
 | own y=>obtain ⟨_,e⟩:=x;exact ⟨_,e⟩
 | xd fs=>obtain ⟨_,⟨_,_,_,e,_⟩,_⟩:=x;exact ⟨_,e⟩
 | rng lo hi=>obtain ⟨_,_,_,e⟩:=x;exact ⟨_,e⟩
 | frz ob u=>obtain ⟨e,_⟩:=x;exact ⟨_,e⟩
 | tbl ps=>exact ⟨_,x⟩
 | met f y=>exact ⟨_,x⟩
 | ext φ=>obtain ⟨_,⟨_,e⟩,_⟩:=x;exact ⟨_,e⟩
section
variable {X:Cx}{pins:List (Addr×Obj)}{σ:St}{H:Hp}{s:Shared}{h':Heap}
theorem Inv.more (I:Inv X pins σ H s) (k:∀ b o,s.heap.get? b=some o->h'.get? b=some o):Inv X pins σ H { s with heap:=h' } :=
 I.call (ch:=[]) (Un.kept k) (I.hok.kept k) I.bare (fun b z=>absurd z (by simp))
theorem yrK {C:Addr}{x:Str}{np cpos pos:Pos}{e:Expr}{t:TE}{E:XK}(c:XCls X.K C) (hE:XEs X E) (hx:X.ex=[]) (hc:X.calm=true) (hg:Gl X x) (hm:X.mg x=some (.ref C)) (ha:PE X e t)
  (hst:starEach [e] X.env=[(false,eval e X.env)]:=by rfl) (hd:(x == ("__debug__":Str))=false:=by decide):PS X (.Raise (some (.Call (.Name x np) [e] [] cpos)) none pos) (yyu C E t):=by
 intro pins s σ H D I h
 obtain ⟨nm,q,N,bs,bm,bmB,hdct,sn,sub,ab,col,dd,k0,k1,k2,k3,k5,B,newId,initId,mN,F,hb,hi,hk⟩:=c.ex
 refine wpAny_Raise_call_subT (nm:=nm) (q:=q) (N:=N) (bs:=bs) (hdct:=hdct) (sn:=sn) (sub:=sub) (ab:=ab) (col:=col) (dd:=dd) (k0:=k0) (k1:=k1) (k2:=k2) (k3:=k3) (k5:=k5) F hb (I.ok.hd hc) (by rw [hst];rfl) hi (yeo I hg hm ⟨rfl,?_⟩ hd)
 rw [hst]
 refine Calls.evalArgs_plain ?_
 have pa:=ydR ha yge (by rw [hst];rfl) cpos pins s σ H (fun vs H1=>vs.length=1/\∀ a,H1 a=none->E (.ref C) (some a) H1) I h
 rw [hst] at pa
 refine thn pa fun us s1 ⟨vs,H1,I1,r,hl,q1⟩=>?_
 have hl:us.length=1:=by rw [<- r.length];exact hl
 obtain ⟨g1,g2,g3⟩:=hk s1.heap I1.kIn
 refine ⟨rfl,by rw [hl];decide,g1,g2,g3,fun h' a me=>?_⟩
 obtain ⟨t',e1,e2,e3⟩:=me.there
 have I2:=I1.more (h':=h') me.keeps
 have hn:H1 a=none:=by
  cases q:H1 a with
  | none=>rfl
  | some o =>
   obtain ⟨u,e⟩:=(I1.hok a o q).there
   rw [me.new] at e;cases e
 have n0:X.s₀.heap.get? a=none:=by
  cases e:X.s₀.heap.get? a with
  | none=>rfl
  | some o =>
   obtain ⟨u,e'⟩:=I1.base.there a o e (by rw [hx];simp)
   rw [me.new] at e';cases e'
 exact hE a (.ref C) none H1 _ ⟨⟨_,_,e1,⟨rfl,rfl⟩,rfl,rfl⟩,n0,(fun t z=>by cases z),hn,pins,σ,I2⟩ (q1 a hn)
end
end L2
namespace L2
open PySem PySem.Spec PyProof.Rows
section
variable {M:Model}{A:Around}{E:Value->Shared->Prop}{s:Shared}
theorem ypf {nm q:Str}{C N:Addr}{bs bm:List Value}{hdct:Bool}{sn:List Str}{sub:List Value}{ab:Bool}{col:Option Bool}{dd:Option Addr}{k0 k1 k2 k3 k5:Option Value}{newId:String}
  {nm' q':Str}{C' N':Addr}{bs' bm':List Value}{hdct':Bool}{sn':List Str}{sub':List Value}{ab':Bool}{col':Option Bool}{dd':Option Addr}{k0' k1' k2' k3' k5':Option Value}{newId':String}{e:Addr}{oe:Obj}{Q:Bool->Shared->Prop}
  (hC:s.heap.get? C=some (excClassObj nm q C N bs bm hdct sn sub ab col dd k0 k1 k2 k3 k5 newId)) (hH:s.heap.get? C'=some (excClassObj nm' q' C' N' bs' bm' hdct' sn' sub' ab' col' dd' k0' k1' k2' k3' k5' newId')) (he:s.heap.get? e=some oe) (hc:oe.cls=.ref C) (hb:bm'.contains (.type "BaseException")=true) (hq:Q ((Value.ref C::bm).contains (.ref C')) s) :
  wpAny M A (excMatches (.ref e) (.ref C')) Q E s:=by
 obtain ⟨h,g,d,t,os⟩:=s
 have hcB:(Value.ref C'::bm').contains (.type "BaseException")=true:=by rw [List.contains_cons,hb,Bool.or_true]
 unfold excMatches isInstance
 refine wpAny_bind (wpAny_bind ?_)
 show wpAny M A (typeOf (.ref C')) _ _ _
 unfold typeOf
 refine wpAny_bind (wpAny_loadPart_at hH (wpAny_pure (wpAny_of_eq tc_notTuple ?_)))
 refine wpAny_ite_false rfl (wpAny_bind (wpAny_pure (wpAny_bind ?_)))
 simp only [List.forIn_cons,List.forIn_nil]
 unfold isExcClass isType
 refine wpAny_bind (wpAny_bind (wpAny_bind (wpAny_bind (wpAny_loadPart_at hH (wpAny_pure (wpAny_ite_true rfl (wpAny_isSubtype_exc hH ?_)))))))
 rw [hcB]
 refine wpAny_ite_false rfl (wpAny_pure (wpAny_pure (wpAny_bind (wpAny_bind (wpAny_loadPart_at he (wpAny_pure (wpAny_bind (wpAny_bind ?_))))))))
 rw [hc]
 refine wpAny_bind (wpAny_isSubtype_exc hC ?_)
 generalize (Value.ref C::bm).contains (Value.ref C')=b at *
 cases b with
 | true=>exact wpAny_ite_true rfl (wpAny_pure (wpAny_pure (wpAny_pure hq)))
 | false=>exact wpAny_ite_false rfl (wpAny_pure (wpAny_pure (wpAny_pure hq)))
end
end L2
namespace L2
open PySem PySem.Spec PyProof.Rows
section
variable {prog:Program}{w:World}{A:Around}{E:Value->Shared->Prop}{s:Shared}{K:PySem.W.Frag}{a D:Addr}{ox:Obj}
theorem yvq:((Manifest.find? "BaseException").bind fun x=>List.lookup "__getattribute__" x.attrs)=some Manifest.AttrKind.slot:=by rfl'
theorem ga_slot:Slot "BaseException" "__getattribute__" "BaseException.__getattribute__" :=
 Slot.of (by rw [typeLookup_type,builtinLookup_eq_fast];rfl) (owner:="BaseException") (n:="__getattribute__") (by rfl) (by rfl) (by rfl) (Or.inl yvq) (by rw [isSubtype_type];rfl) (by rfl')
theorem yrL:entryFor table "BaseException.__getattribute__" = some Builtin.«object.__getattribute__»:=by exact entryFor_alias (id':="object.__getattribute__") (by rfl) (by rfl) (by rfl') (by rfl)
theorem yBZ:builtinKind "BaseException.__getattribute__" = some Manifest.AttrKind.slot:=by first|rfl|rfl'
theorem yCa:splitId "BaseException.__getattribute__" = some ("BaseException","__getattribute__"):=by rfl
theorem yvr (x y:Value):argsOk "BaseException.__getattribute__" { pos:=[x,y] }:=by
 unfold argsOk
 first
  | rfl
  | skip
theorem yrM {tk:Tok}{Q:Unit->Shared->Prop}{x:Str}(L:∀ {Q:Bool->Shared->Prop},Q true s->wpAny (model prog w) A (isSubtype (.ref D) (.type "BaseException")) Q E s) (I:PySem.W.InstAt s.heap a ox D none) (hq:Q () s):wpAny (model prog w) A (checkBuiltinCall "BaseException.__getattribute__" { pos:=[.ref a,.str x tk] }) Q E s:=by
 have h:=yvr (.ref a) (.str x tk)
 unfold argsOk at h
 unfold checkBuiltinCall
 rw [yBZ,yCa]
 unfold isInstance
 refine wpAny_bind (wpAny_bind ((PySem.W.InstAt.type I).at (L ?_)))
 refine wpAny_ite_false rfl ?_
 exact wpAny_of_eq h hq
theorem yyv {tk:Tok}{R:Result->Shared->Prop}(X:K.In s.heap) (I:PySem.W.InstAt s.heap a ox D none) (L:∀ {A:Around}{E:Value->Shared->Prop}{Q:Bool->Shared->Prop},Q true s->wpAny (model prog w) A (isSubtype (.ref D) (.type "BaseException")) Q E s)
  (hf:PySem.W.findObj K D none "__class__" = some (Builtin.ObjectAttr.Found.bind (.builtin "getset_descriptor.__get__") (.builtin "object.__class__"))) (hm:mroIn K D (.type "object")=some true) (hq:R (.ok (.ret (.ref D))) s) :
  codeAny (model prog w) A (.call (.builtin "BaseException.__getattribute__") { pos:=[.ref a,.str "__class__" tk] }) R s:=by
 refine codeAny_call_builtin ga_slot.plain yrL (yrM L I ?_)
 unfold Builtin.«object.__getattribute__» slotArgs
 refine wpAny_bind (wpAny_ite_false rfl (wpAny_ite_false rfl (wpAny_pure ?_)))
 refine wpAny_bind (wpAny_pure (wpAny_bind ((PySem.W.InstAt.type I).at (wpAny_bind ((PySem.W.looks_find X I hf).at ?_)))))
 show wpAny _ _ (Builtin.ObjectAttr.bindTo _ _ _ _) _ _ _
 unfold Builtin.ObjectAttr.bindTo
 refine wpAny_bind (wpAny_holding (wpAny_call (PySem.W.class_get X I hm ?_)))
 exact wpAny_pure hq
theorem ypg {Q:Option Value->Shared->Prop}(X:K.In s.heap) (I:PySem.W.InstAt s.heap a ox D none) (L:∀ {s:Shared}{A:Around}{E:Value->Shared->Prop}{Q:Bool->Shared->Prop},K.In s.heap->Q true s->wpAny (model prog w) A (isSubtype (.ref D) (.type "BaseException")) Q E s)
  (hga:findIn K (.ref D) "__getattribute__" = some (some (.builtin "BaseException.__getattribute__"))) (hgn:findIn K (.ref D) "__getattr__" = some none)
  (hf:PySem.W.findObj K D none "__class__" = some (Builtin.ObjectAttr.Found.bind (.builtin "getset_descriptor.__get__") (.builtin "object.__class__"))) (hm:mroIn K D (.type "object")=some true)
  (hq:Q (some (.ref D)) { s with toks:=s.toks+1 }):wpAny (model prog w) A (getAttr? (.ref a) "__class__") Q E s:=by
 obtain ⟨hh,g,d,t,os⟩:=s
 have L0:=fun M=>PySem.W.InstAt.type (M:=M) I
 have L1:=fun M=>PySem.W.looks_findIn (M:=M) X hga
 have L2:=fun M=>PySem.W.looks_findIn (M:=M) X hgn
 unfold getAttr? getAttrBy?
 refine wpAny_bind (wpAny_mkText (wpAny_bind (wpAny_attempt ?_)))
 unfold getAttrBy
 refine wpAny_holding (wpAny_bind ((L0 _).at (wpAny_bind ((L1 _).at ?_))))
 refine wpAny_ite_false rfl ?_
 unfold getAttrByItsOwn hookBefore
 refine wpAny_bind (wpAny_ite_true rfl ((L2 _).at (wpAny_bind (wpAny_attempt (wpAny_holding ?_)))))
 unfold callGetattribute boundAndCalled
 refine wpAny_ite_false rfl (wpAny_bind (wpAny_of_eq (ga_slot.bind _) (wpAny_call (yyv X I (fun q=>L X q) hf hm ?_))))
 exact wpAny_pure (wpAny_pure hq)
theorem yrN {c0:Value}{dd:Option Addr}{cd:ClassData}{sl:Array (Option Value)}(lk:K.lookup D=some ⟨c0,dd,.cls cd,sl⟩) (L:∀ {prog:Program}{w:World}{s:Shared}{A:Around}{E:Value->Shared->Prop}{Q:Bool->Shared->Prop},K.In s.heap->Q true s->wpAny (model prog w) A (isSubtype (.ref D) (.type "BaseException")) Q E s)
  (hga:findIn K (.ref D) "__getattribute__" = some (some (.builtin "BaseException.__getattribute__"))) (hgn:findIn K (.ref D) "__getattr__" = some none)
  (hf:PySem.W.findObj K D none "__class__" = some (Builtin.ObjectAttr.Found.bind (.builtin "getset_descriptor.__get__") (.builtin "object.__class__"))) (hm:mroIn K D (.type "object")=some true) :
  PySem.W.KitX K (.ref a) (.ref D) fun h=>∃ ox,PySem.W.InstAt h a ox D none where
 ty:=fun _ _ _ ⟨_,I⟩=>PySem.W.InstAt.type I
 it:=fun _ _ X _ A' Q' E' s' k q=>by
  unfold isType
  exact wpAny_bind (wpAny_loadPart (k D _ (X D _ lk)) (wpAny_pure q))
 ne:=fun h tp _ _ _ _ X htp=>by
  refine Bool.eq_false_iff.mpr fun z=>?_
  have e:D=tp:=Value.ref.inj (beq_iff_eq.mp z)
  have:=X D _ lk
  rw [e,htp] at this
  cases this
 ca:=fun X ⟨_,I⟩ hq=>ypg X I L hga hgn hf hm hq
end
end L2
namespace L2
open PySem PySem.Spec PyProof.Rows
theorem ExO.ok {P:Program}{w:World}{H:Hp}{h:Heap}{a D:Addr}{ox:Obj}(I:PySem.W.InstAt h a ox D none):ObjOk P w H h a (ExO D a) :=
 ⟨⟨ox,I⟩,⟨ox,I.at_⟩,fun _ _ ⟨o,J⟩ k=>⟨o,k o J.at_,J.cls,J.no,by
  have:=J.dict
  revert this
  cases o.dict with
  | none=>exact fun _=>trivial
  | some dx=>exact fun z=>z.elim⟩⟩
noncomputable def yyw (K:PySem.W.Frag):List V->Hp->VK->Prop:=fun vs H Q=>yBV K vs H Q\/∃ (a D:Addr) (c:V) (u:Value) (b:Bool),vs=[.ref a,c]/\H a=some (ExO D a)/\PySem.W.KitX K (.ref a) (.ref D) (fun h=>∃ ox,PySem.W.InstAt h a ox D none)/\cV c=some u/\PySem.W.kitOne K (.ref D) u=some b/\Q (.bl b) H
theorem ycg {X:Cx}:yek X (.builtin "isinstance") (yyw X.K):=by
 intro pins s σ H xs us Q I r h
 rcases h with h|⟨a,D,c,u',b,rfl,e,kx,hc,hk,q⟩
 .exact yM pins s σ H xs us Q I r h
 .obtain ⟨u,w',rfl,ru,rc⟩:=vals2 r
  have e1:w'=u':=by
   cases c<;>first|(cases hc;exact rc)|cases hc
  subst e1
  obtain rfl:u=Value.ref a:=ru
  obtain ⟨p,_,_⟩:=(show ObjOk X.prog X.w H s.heap a (ExO D a) from I.hok a _ e)
  exact kia_one kx I.kIn p hk (fun z=>nomatch z) fun tk=>⟨.bl b,H,I.tok tk,rfl,q⟩
end L2
namespace L2
open PySem PySem.Spec PyProof.Rows
section
variable {P:Program}{w:World}{fs:List Addr}{H H':Hp}{h h1 h':Heap}{a D:Addr}{T:Option Addr}{ox:Obj}
theorem Un.noted (un:Un fs [] H H' h h1) (lv:Lv fs a T h1 h') (na:h.get? a=none) (nt:∀ t,T=some t->h.get? t=none) (h0:H a=none) (o:HO):Un fs [] H (upd H' a o) h h':=by
 have nea:∀ {b:Addr}{o:Obj},h.get? b=some o->b≠a:=fun {b o} hb z=>by rw [z,na] at hb;cases hb
 have neT:∀ {b:Addr}{o:Obj},h.get? b=some o->some b≠T:=fun {b o} hb z=>by rw [nt b z.symm] at hb;cases hb
 refine ⟨fun b o hb n1 n2 n3=>lv.keep b o (un.keep b o hb n1 n2 n3) (nea hb) (neT hb) n2,fun b o hb n1 n2 n3=>?_,fun b o hb n1 n3=>?_,fun b o hb n3=>?_,?_,?_,?_⟩
 .obtain ⟨sl,e⟩:=un.slot b o hb n1 n2 n3
  obtain ⟨sl',e'⟩:=lv.slot b _ e (nea hb) (neT hb) n2
  exact ⟨sl',e'⟩
 .rw [yu (nea hb)]
  exact un.free b o hb n1 n3
 .obtain ⟨o',e⟩:=un.there b o hb n3
  exact lv.there b o' e
 .intro b xs q
  rw [yu (fun z=>by rw [z,h0] at q;cases q)]
  exact un.tups b xs q
 .intro b o u q
  rw [yu (fun z=>by rw [z,h0] at q;cases q)]
  exact un.frzs b o u q
 .intro b ps q
  rw [yu (fun z=>by rw [z,h0] at q;cases q)]
  exact un.tbls b ps q
theorem HOk.noted (ok:HOk P w H' h1) (lv:Lv fs a T h1 h') (ha:H' a=none) (hT:∀ t,T=some t->H' t=none) (hfs:∀ b∈fs,H' b=none) (I:PySem.W.InstAt h' a ox D none):HOk P w (upd H' a (ExO D a)) h':=by
 intro b o hb
 by_cases e:b=a
 .rw [e,yr] at hb
  cases hb
  rw [e]
  exact ExO.ok I
 .rw [yu e] at hb
  have kp:∀ c u,(∃ v,H' c=some v)->h1.get? c=some u->h'.get? c=some u:=fun c u ⟨v,hv⟩ hc=>lv.keep c u hc (fun z=>by rw [z,ha] at hv;cases hv) (fun z=>by rw [hT c z.symm] at hv;cases hv) fun z=>by rw [hfs c z] at hv;cases hv
  have ne:∀ c v,H' c=some v->c≠a:=fun c v hv z=>by rw [z,ha] at hv;cases hv
  refine (ok b o hb).stay (fun c u hc=>kp c u ?_) (fun c q=>by rw [yu (ne c _ q)];exact q) fun c xs q=>by rw [yu (ne c _ q)];exact q
  rcases hc with e|e
  .exact ⟨o,by rw [e];exact hb⟩
  .exact ⟨_,e⟩
end
end L2
namespace L2
open PySem PySem.Spec PyProof.Rows
theorem Exc.inst {h:Heap}{a D:Addr}{T:Option Addr}(x:Exc h a (.ref D) T):∃ ox,PySem.W.InstAt h a ox D none:=by
 obtain ⟨o,vs,ho,⟨hc,hd⟩,dd,_⟩:=x
 refine ⟨o,ho,hc,?_,?_⟩
 .unfold PySem.W.notCls
  rw [dd]
 .rw [hd];trivial
theorem ymv {K:PySem.W.Frag}{bmB:List Value}{v:Value}(hb:bmB.contains v=true):∀ {l:List Value},PySem.W.tailIn K bmB l=true->l.contains v=true
 | [],e=>by rw [show bmB=[] from (beq_iff_eq.mp e).symm ▸ rfl] at hb;cases hb
 | u::r,e=>by
  unfold PySem.W.tailIn at e
  rcases Bool.or_eq_true_iff.mp e with q|q
  .rw [beq_iff_eq.mp q];exact hb
  .split at q
   .split at q
    .simp only [and_eq_true] at q
     rw [List.contains_cons,ymv hb q.2,Bool.or_true]
    .cases q
   .cases q
theorem XCls.of {K:PySem.W.Frag}{C:Addr}(q:PySem.W.excIn K C [.type "ValueError",.type "Exception",.type "BaseException",.type "object"] "ValueError.__new__" = true):XCls K C:=by
 unfold PySem.W.excIn at q
 split at q
 .rename_i dd cd sl ho
  split at q
  .rename_i C' bm k0 k1 k2 k3 n k5 hm hs
   simp only [and_eq_true,beq_iff_eq,Bool.not_eq_true'] at q
   obtain ⟨⟨⟨⟨⟨rfl,rfl⟩,hdel⟩,ht⟩,hok⟩,hni⟩:=q
   obtain ⟨nm,bs,mro,ns,qn,hd,sn,sub,ab,col,del⟩:=cd
   dsimp only at hm hdel hok hni
   subst hm hdel
   have hsl:sl = #[k0,k1,k2,k3,some (.builtin "ValueError.__new__"),k5]:=by
    obtain ⟨l⟩:=sl
    simp only at hs
    rw [hs]
   subst hsl
   have:∃ c d es m sl,K.lookup ns=some ⟨c,d,.dict es m,sl⟩:=by
    unfold PySem.W.nsOkIn at hok
    split at hok
    .rename_i c d es m sl ho
     exact ⟨_,_,_,_,_,ho⟩
    .cases hok
   obtain ⟨c,d,es,m,sl,hl⟩:=this
   have hmap:∀ h:Heap,K.In h->h.nsMap ns=nsFind es:=fun h X=>by
    funext x
    unfold Heap.nsMap
    rw [X _ _ hl]
   refine ⟨⟨nm,qn,ns,bs,bm,_,hd,sn,sub,ab,col,dd,k0,k1,k2,k3,k5,"ValueError","ValueError.__new__","ValueError.__init__",nsFind es,PySem.F.excBase_ValueError,ymv (by decide) ht,?_,fun h X=>⟨X _ _ ho,?_,PySem.W.tail_of_in X ht⟩⟩⟩
   .unfold nsIn at hni
    rw [hl] at hni
    dsimp only at hni
    split at hni
    .cases hni
    .rename_i he
     unfold nsFind findBy
     rw [<- Array.find?_toList,he]
     rfl
   .rw [<- hmap h X]
    exact .of_isNs (PySem.W.isNs_of_in X hok)
  .cases q
 .cases q
structure XSub (K:PySem.W.Frag) (D C:Addr):Prop where
 d:XCls K D
 c:XCls K C
 m:mroIn K D (.ref C)=some true
theorem XSub.hit {M:Model}{A:Around}{E:Value->Shared->Prop}{s:Shared}{K:PySem.W.Frag}{D C e:Addr}{Q:Bool->Shared->Prop}{T:Option Addr}(z:XSub K D C) (X:K.In s.heap) (x:Exc s.heap e (.ref D) T) (hq:Q true s):wpAny M A (excMatches (.ref e) (.ref C)) Q E s:=by
 obtain ⟨nm,q,N,bs,bm,bmB,hdct,sn,sub,ab,col,dd,k0,k1,k2,k3,k5,B,newId,initId,mN,F,hb,hi,hk⟩:=z.d.ex
 obtain ⟨nm',q',N',bs',bm',bmB',hdct',sn',sub',ab',col',dd',k0',k1',k2',k3',k5',B',newId',initId',mN',F',hb',hi',hk'⟩:=z.c.ex
 obtain ⟨g1,g2,g3⟩:=hk _ X
 obtain ⟨g1',g2',g3'⟩:=hk' _ X
 obtain ⟨o,vs,ho,⟨hc,hd⟩,_⟩:=x
 have hm:=z.m
 refine ypf g1 g1' ho hc hb' ?_
 have:(Value.ref D::bm).contains (.ref C)=true:=by
  unfold mroIn PySem.W.clsIn at hm
  split at hm
  .rename_i c0 d0 cd sl0 hl
   have:=X _ _ hl
   rw [g1] at this
   cases this
   simpa using hm
  .cases hm
 rw [this]
 exact hq
end L2
namespace L2
open PySem PySem.Spec PyProof.Rows
def Cx.inX (X:Cx) (a:Addr) (xe:Value->Shared->Prop):Cx:={ X with A:=X.A.mark (some (.ref a)),calm:=false,xe:=xe }
def Cx.wX (X:Cx) (xe:Value->Shared->Prop):Cx:={ X with xe:=xe }
section
variable {X:Cx}{pins:List (Addr×Obj)}{σ:St}{H:Hp}{s:Shared}{h':Heap}{a:Addr}{xe:Value->Shared->Prop}
theorem Inv.inX (I:Inv X pins σ H s):Inv (X.inX a xe) pins σ H s :=
 ⟨⟨I.ok.mod,I.ok.kind,I.ok.glob,I.ok.blt,I.ok.above,I.ok.inj,I.ok.has,I.ok.cab,(fun z=>by cases z),I.ok.frames,I.ok.stk,I.ok.exf,I.ok.bs,I.ok.bsz,I.ok.noex,I.ok.exfs,I.ok.funs,I.ok.frf⟩,I.os,I.bare,I.base,I.loc,I.cell,I.free,I.freeC,I.pin,I.hok,I.len⟩
theorem Inv.outX (ok:X.Ok) (I:Inv (X.inX a xe) pins σ H s):Inv X pins σ H s:=⟨ok,I.os,I.bare,I.base,I.loc,I.cell,I.free,I.freeC,I.pin,I.hok,I.len⟩
theorem Inv.wX (I:Inv X pins σ H s):Inv (X.wX xe) pins σ H s :=
 ⟨⟨I.ok.mod,I.ok.kind,I.ok.glob,I.ok.blt,I.ok.above,I.ok.inj,I.ok.has,I.ok.cab,I.ok.hd,I.ok.frames,I.ok.stk,I.ok.exf,I.ok.bs,I.ok.bsz,I.ok.noex,I.ok.exfs,I.ok.funs,I.ok.frf⟩,I.os,I.bare,I.base,I.loc,I.cell,I.free,I.freeC,I.pin,I.hok,I.len⟩
theorem Inv.unX (ok:X.Ok) (I:Inv (X.wX xe) pins σ H s):Inv X pins σ H s:=⟨ok,I.os,I.bare,I.base,I.loc,I.cell,I.free,I.freeC,I.pin,I.hok,I.len⟩
theorem yvs {M:Model}{A:Around}{E:Value->Shared->Prop}{i:Nat}{x:Str}{pos:Pos}{Q:Unit->Shared->Prop}(I:Inv X pins σ H s) (hN:X.N.Nodup) (hi:X.N[i]?=some x) (hk:X.env.scope.names.lookup x=some .local)
  (h:∀ s',Inv X pins (σ.set i none) H s'->Q () s'):wpAny M A (do bindName X.env x .none;unbindBehindTheSuite X.env x pos) Q E s:=by
 obtain ⟨m,hn,hl⟩:=id I.loc
 have hcls:(X.env.scope.kind == .class || (X.env.scope.kind == .module && X.env.locals != X.env.globals))=false:=by rw [I.ok.kind];rfl
 have hiσ:i<σ.length:=by rw [I.len];exact (List.getElem?_eq_some_iff.mp hi).1
 have cne:=I.cne
 have tracked:∀ {a:Addr}{h':Heap},(∃ o,s.heap.get? a=some o/\H a=none)->Heap.SameBut a s.heap h'->HOk X.prog X.w H h':=fun {a h'} ha hs b ob e=>by
  obtain ⟨_,_,hfree⟩:=ha
  refine (I.hok b ob e).stay (fun c w' hc q=>(hs.2 c ?_).trans q) (fun _ q=>q) fun _ _ q=>q
  rintro rfl
  rcases hc with rfl|hc
  .rw [hfree] at e;cases e
  .rw [hfree] at hc;cases hc
 refine wpAny_nameGoes_keeps hk hn hcls fun h' v hn' hs=>?_
 obtain ⟨oL,_,_,hoL,_⟩:=id hn
 refine h _ ⟨I.ok,I.os,I.bare,⟨fun b o e n hb hx=>?_,fun b o e n hb hx=>?_,I.base.free,fun b o e hx=>?_,I.base.tups,I.base.frzs,I.base.tbls⟩,⟨_,hn',fun j y v' e1 e2 e3=>?_⟩,fun y c e=>?_,I.free,I.freeC,fun p hp=>?_,tracked ⟨oL,hoL,I.free⟩ hs,by simpa using I.len⟩
 .exact (hs.2 b (ne_of_lt (lt_of_lt_of_le (Heap.lt_size e) I.ok.above))).trans (I.base.keep b o e n hb hx)
 .obtain ⟨sl,e1⟩:=I.base.slot b o e n hb hx
  exact ⟨sl,(hs.2 b (ne_of_lt (lt_of_lt_of_le (Heap.lt_size e) I.ok.above))).trans e1⟩
 .obtain ⟨o',e1⟩:=I.base.there b o e hx
  exact ⟨o',(hs.2 b (ne_of_lt (lt_of_lt_of_le (Heap.lt_size e) I.ok.above))).trans e1⟩
 .by_cases hj:j=i
  .subst hj
   rw [getElem?_set_self hiσ] at e2
   cases e2
  .rw [getElem?_set_ne (Ne.symm hj)] at e2
   obtain ⟨u',r',q⟩:=hl j y v' e1 e2 e3
   refine ⟨u',r',?_⟩
   rcases q with ⟨k,e⟩|⟨k,c,e,z⟩
   .refine .inl ⟨k,?_⟩
    have:y≠x:=fun e=>hj (yin hN e1 (e ▸ hi))
    simp [this,e]
   .exact .inr ⟨k,c,e,z.sameBut hs (cne y c e)⟩
 .obtain ⟨w',z⟩:=I.cell y c e
  exact ⟨w',z.sameBut hs (cne y c e)⟩
 .obtain ⟨e,n,ne,nf,d⟩:=I.pin p hp
  exact ⟨(hs.2 p.1 ne).trans e,n,ne,nf,d⟩
theorem ylw {M:Model}{A:Around}{E:Value->Shared->Prop}{C:Value}{t:Addr}{Q:Unit->Shared->Prop}(x:Exc s.heap a C (some t)) (k:∀ h',(∀ b,h'.get? b=s.heap.get? b)->Q () { s with heap:=h' }):wpAny M A (setFlight (.ref a) none) Q E s:=by
 obtain ⟨o,vs,ho,_,d,h1,hta,oT,ts,hT,dT,h3⟩:=x
 have h3':3<ts.size:=(Array.getElem?_eq_some_iff.mp h3).1
 refine yjX ho d h1 hT dT h3' (k _ fun b=>?_)
 by_cases e:b=t
 .subst e
  obtain ⟨m1,m2⟩:=yBY (f:=fun x=>x.setIfInBounds 3 .none) dT
  rw [Heap.get?_update_self _ hT m2,m1,hT]
  have:ts.setIfInBounds 3 .none=ts:=by
   apply Array.ext_getElem?
   intro j
   rw [Array.getElem?_setIfInBounds]
   split
   .rename_i q;subst q;rw [h3]
   .rfl
  rw [this]
  obtain ⟨c,dd,da,sl⟩:=oT
  cases dT
  rfl
 .exact Heap.get?_update_ne _ _ _ _ e
end
def BX (X:Cx) (body:List Stmt) (t:XK->St->Hp->Prop):Prop:=∀ (pins:List (Addr×Obj)) (s:Shared) (σ:St) (H:Hp) (E:XK) (XE:Value->Shared->Prop),Inv X pins σ H s->t E σ H ->
 (∀ H1 s1 e s',Inv X pins σ H1 s1->CXr X.prog X.w X.stack H1 s1 E e s'->XE e s')->wpAny (model X.prog X.w) X.A (execs body X.env) (fun _ _=>False) XE s
noncomputable def yEz (K:PySem.W.Frag) (C:Addr) (i:Nat) (t:XK->St->Hp->Prop) (ts:TS):TS:=fun D σ H=>t (fun c oa H'=>∃ D' a,c=.ref D'/\oa=some a/\XSub K D' C/\ts ⟨fun σ' H''=>D.nx (σ'.set i none) H'',fun _ _=>False,fun _ _=>False,fun _ _=>False⟩ (σ.set i (some (.ref a))) (upd H' a (ExO D' a))) σ H
theorem yyx {X:Cx}{C:Addr}{i:Nat}{x n:Str}{np hpos pos:Pos}{body suite:List Stmt}{b₀:Stmt}{t:XK->St->Hp->Prop}{ts:TS}(hb:BX X body t) (hs:∀ a xe,PSs (X.inX a xe) (b₀::suite) ts) (hg:Gl X x) (hm:X.mg x=some (.ref C)) (hN:X.N.Nodup) (hi:X.N[i]?=some n) (hk:X.env.scope.names.lookup n=some .local)
  (hst:X.stack=X.env::X.outer) (hL:X.env.frame=some X.env.locals) (hd:(x == ("__debug__":Str))=false:=by decide) :
  PS X (.Try body [.ExceptHandler (some (.Name x np)) (some n) (b₀::suite) hpos] [] [] pos) (yEz X.K C i t ts):=by
 intro pins s σ H D I h
 refine wpAny_Try_except (wpAny_mono (hb pins s σ H _ (fun e s'=>∃ H1 s1,Inv X pins σ H1 s1/\CXr X.prog X.w X.stack H1 s1 _ e s') I h fun H1 s1 e s' I1 q=>⟨H1,s1,I1,q⟩) (fun _ _ z=>z.elim) ?_)
 rintro e s' ⟨H1,s1,I1,a,C0,T,H',rfl,x0,na,nt,ha,ht,os,bare,un,hok,D',a',rfl,ea,sb,q⟩
 cases ea
 have st:s1.heap.FunFrames X.base X.stack:=I1.stack
 have st':s'.heap.FunFrames X.base X.stack:=(I1.call' (s':=s') os un hok bare (fun b z=>absurd z (by simp))).stack
 rw [hst] at st' un
 have hfs:∀ b∈frs (X.env::X.outer),H' b=none:=by
  have:=(I1.call' (s':=s') os (by rw [hst];exact un) hok bare (fun b z=>absurd z (by simp))).stkFree
  rw [hst] at this
  exact this
 have hf:X.A.frames=some (X.env::X.outer):=by rw [I.ok.frames,hst]
 have h1a:H1 a=none:=by
  cases q:H1 a with
  | none=>rfl
  | some o =>
   obtain ⟨u,e⟩:=(I1.hok a o q).there
   rw [na] at e;cases e
 refine ymu (L:=X.env.locals) hf st' hL x0 fun h' t' x' ht' lv=>?_
 obtain ⟨ox,J⟩:=x'.inst
 have un2:=Un.noted un lv na (fun t z=>by cases z;exact nt) h1a (ExO D' a)
 have hok2:HOk X.prog X.w (upd H' a (ExO D' a)) h':=HOk.noted hok lv ha (fun t z=>by cases z;exact ht) hfs J
 have I2:Inv X pins σ (upd H' a (ExO D' a)) { s' with heap:=h' }:=I1.call' (s':={ s' with heap:=h' }) os (by rw [hst];exact un2) hok2 bare (fun b z=>absurd z (by simp))
 refine wpAny_handleBy_cons (codeAny_handlers_test ?_) (by intro z;cases z)
 refine yeo (X:=X.inX a X.xe) I2.inX hg hm ?_ hd
 refine sb.hit (s:={ s' with heap:=h' }) I2.kIn x' ?_
 refine codeAny_handlers_suite_as ?_
 refine ylw (s:={ s' with heap:=h' }) x' fun h2 e2=>?_
 have I3:Inv X pins σ (upd H' a (ExO D' a)) { s' with heap:=h2 }:=I2.more (h':=h2) fun b o e=>by rw [e2];exact e
 refine yio (X:=X) (v:=.ref a) I3 hN hi (.inl hk) rfl (fun s4 I4=>?_) (.inr hk)
 refine wpAny_mono (hs a _ pins s4 _ _ _ I4.inX q) (fun f s5 h5=>?_) fun _ _ z=>z
 cases f with
 | next =>
  obtain ⟨σ',H'',I5,q5⟩:=h5
  exact yvs (I5.outX I.ok) hN hi hk fun s6 I6=>⟨_,_,I6,q5⟩
 | brk=>obtain ⟨_,_,_,z⟩:=h5;exact z.elim
 | cont=>obtain ⟨_,_,_,z⟩:=h5;exact z.elim
 | ret u=>obtain ⟨_,_,_,_,_,z⟩:=h5;exact z.elim
end L2
namespace PX
open PySem L2
structure Ck where
 K:PySem.W.Frag
 A:Nat->Addr
inductive PV where
 | non|bl (b:Bool)|int (i:Int)|str (s:Str)|ty (n:String)|cls (k:Nat)
 | scr (ns:List Int)
 | lst (xs:List PV)|tup (xs:List PV)
 | ins (k:Nat) (ns:List Str) (xs:List PV)
 | loc (n:Nat)
 | exc (n:Str)|xcl (n:Str)
inductive Nd where
 | lst (xs:List PV)|dct (ks:List Key) (xs:List PV)|fz (ks:List Key) (xs:List PV)|ins (k:Nat) (ns:List Str) (xs:List PV)|dead
abbrev AH:=List Nd
inductive PVar where|no|val (x:PV)|own (d:Nd)
abbrev PSt:=List PVar
inductive Out where|nx (ρ:PSt)|rt (x:PV)|bk (ρ:PSt)|ct (ρ:PSt)
abbrev XE:=PSt->AH->Option (PV×AH)
abbrev XT:=PSt->AH->Option (Bool×AH)
abbrev XA:=PSt->AH->Option (List PV×AH)
abbrev XO:=PSt->AH->Option (Nd×AH)
abbrev XS:=PSt->AH->Option (Out×AH)
abbrev Fn:=List PV->AH->Option (PV×AH)
def KTp (K:PySem.W.Frag) (a:Addr) (xs:List V):Prop:=∃ (o:Obj) (its:Array Value) (n:Nat),K.lookup a=some o/\o.cls=.type "tuple"/\o.data=.seq its n/\its.size<=sizeLine/\Vals xs its.toList
def TpAt (K:PySem.W.Frag) (F:Hp) (a:Addr) (xs:List V):Prop:=F a=some (.tup xs)\/KTp K a xs
theorem TpAt.mono {K:PySem.W.Frag}{F F':Hp}{a:Addr}{xs:List V}(s:Same F F') (h:TpAt K F a xs):TpAt K F' a xs:=h.elim (fun h=>.inl (s _ _ h)) .inr
mutual
noncomputable def Rep (K:Ck) (F:Hp) (m:List Addr):PV->V->Prop
 | .non,v=>v=.non
 | .bl b,v=>v=.bl b
 | .int i,v=>v=.int i
 | .str s,v=>v=.str s
 | .ty n,v=>v=.ty n
 | .cls k,v=>v=.ref (K.A k)
 | .scr ns,v=>∃ a,v=.ref a/\SqL K.K F a (ns.map V.int)
 | .lst xs,v=>∃ a vs,v=.ref a/\F a=some (.lst vs)/\RepL K F m xs vs
 | .tup xs,v=>∃ a vs,v=.ref a/\TpAt K.K F a vs/\RepL K F m xs vs
 | .ins k ns xs,v=>∃ a dx vs,v=.ref a/\F a=some (.ins (K.A k) dx (ns.zip vs))/\vs.length=ns.length/\RepL K F m xs vs
 | .loc n,v=>∃ a,v=.ref a/\m[n]?=some a
 | .exc n,v=>∃ a,v=.ref a/\F a=some (ExO (xAd K.K n) a)
 | .xcl n,v=>v=.ref (xAd K.K n)
noncomputable def RepL (K:Ck) (F:Hp) (m:List Addr):List PV->List V->Prop
 | [],vs=>vs=[]
 | x::xs,vs=>∃ v r,vs=v::r/\Rep K F m x v/\RepL K F m xs r
end
section
variable {K:Ck}{F F' H H':Hp}{m m':List Addr}
theorem ydT {n:Nat}{a:Addr}(p:m <+: m') (h:m[n]?=some a):m'[n]?=some a:=by
 obtain ⟨r,rfl⟩:=p
 rw [getElem?_append_left (List.getElem?_eq_some_iff.mp h).1];exact h
mutual
theorem Rep.mono (s:Same F F') (p:m <+: m'):∀ (x:PV) (v:V),Rep K F m x v->Rep K F' m' x v
 | .non,_,h=>h
 | .bl _,_,h=>h
 | .int _,_,h=>h
 | .str _,_,h=>h
 | .ty _,_,h=>h
 | .cls _,_,h=>h
 | .scr _,_,⟨a,e,h⟩=>⟨a,e,s.seq h⟩
 | .lst xs,_,⟨a,vs,e,h,r⟩=>⟨a,vs,e,s _ _ h,RepL.mono s p xs vs r⟩
 | .tup xs,_,⟨a,vs,e,h,r⟩=>⟨a,vs,e,h.mono s,RepL.mono s p xs vs r⟩
 | .ins _ _ xs,_,⟨a,dx,vs,e,h,l,r⟩=>⟨a,dx,vs,e,s _ _ h,l,RepL.mono s p xs vs r⟩
 | .loc _,_,⟨a,e,h⟩=>⟨a,e,ydT p h⟩
 | .exc _,_,⟨a,e,h⟩=>⟨a,e,s _ _ h⟩
 | .xcl _,_,h=>h
theorem RepL.mono (s:Same F F') (p:m <+: m'):∀ (xs:List PV) (vs:List V),RepL K F m xs vs->RepL K F' m' xs vs
 | [],_,h=>h
 | x::xs,_,⟨v,r,e,h,l⟩=>⟨v,r,e,Rep.mono s p x v h,RepL.mono s p xs r l⟩
end
theorem RepL.len:∀ {xs:List PV}{vs:List V},RepL K F m xs vs->vs.length=xs.length
 | [],_,h=>by rw [show _=[] from h];rfl
 | x::xs,_,⟨v,r,e,h,l⟩=>by rw [e,length_cons,length_cons,RepL.len l]
theorem RepL.get:∀ {xs:List PV}{vs:List V}{i:Nat}{x:PV},RepL K F m xs vs->xs[i]?=some x->∃ v,vs[i]?=some v/\Rep K F m x v
 | x::xs,_,0,y,⟨v,r,e,h,l⟩,q=>by
  simp at q;subst q;subst e;exact ⟨v,rfl,h⟩
 | x::xs,_,i+1,y,⟨v,r,e,h,l⟩,q=>by
  subst e
  obtain ⟨w,h1,h2⟩:=RepL.get (i:=i) l (by simpa using q)
  exact ⟨w,by simpa using h1,h2⟩
theorem RepL.get' {xs:List PV}{vs:List V}{i:Nat}{v:V}(h:RepL K F m xs vs) (e:vs[i]?=some v):∃ x,xs[i]?=some x/\Rep K F m x v:=by
 have hl:=h.len
 have hi:i<vs.length:=(List.getElem?_eq_some_iff.mp e).1
 have hx:xs[i]?=some xs[i]:=List.getElem?_eq_getElem (by omega)
 obtain ⟨w,h1,h2⟩:=h.get hx
 rw [e] at h1;cases h1
 exact ⟨_,hx,h2⟩
theorem RepL.app:∀ {xs ys:List PV}{vs us:List V},RepL K F m xs vs->RepL K F m ys us->RepL K F m (xs++ys) (vs++us)
 | [],_,_,_,h,k=>by rw [show _=[] from h];exact k
 | x::xs,ys,_,us,⟨v,r,e,h,l⟩,k=>by subst e;exact ⟨v,r++us,rfl,h,RepL.app l k⟩
theorem RepL.snoc {xs:List PV}{vs:List V}{x:PV}{v:V}(h:RepL K F m xs vs) (k:Rep K F m x v):RepL K F m (xs++[x]) (vs++[v]):=h.app ⟨v,[],rfl,k,rfl⟩
theorem RepL.drop:∀ {xs:List PV}{vs:List V}(n:Nat),RepL K F m xs vs->RepL K F m (xs.drop n) (vs.drop n)
 | _,_,0,h=>by simpa using h
 | [],_,n+1,h=>by rw [show _=[] from h];rfl
 | x::xs,_,n+1,⟨v,r,e,h,l⟩=>by subst e;simpa using RepL.drop n l
theorem RepL.take:∀ {xs:List PV}{vs:List V}(n:Nat),RepL K F m xs vs->RepL K F m (xs.take n) (vs.take n)
 | _,_,0,h=>by simp;rfl
 | [],_,n+1,h=>by rw [show _=[] from h];rfl
 | x::xs,_,n+1,⟨v,r,e,h,l⟩=>by subst e;exact ⟨v,r.take n,rfl,h,RepL.take n l⟩
theorem RepL.set:∀ {xs:List PV}{vs:List V}{x:PV}{v:V}(i:Nat),RepL K F m xs vs->Rep K F m x v->RepL K F m (xs.set i x) (vs.set i v)
 | [],_,_,_,_,h,_=>by rw [show _=[] from h];rfl
 | y::xs,_,x,v,0,⟨w,r,e,h,l⟩,k=>by subst e;exact ⟨v,r,rfl,k,l⟩
 | y::xs,_,x,v,i+1,⟨w,r,e,h,l⟩,k=>by subst e;exact ⟨w,r.set i v,rfl,h,RepL.set i l k⟩
theorem RepL.of_ints:∀ (ns:List Int),RepL K F m (ns.map PV.int) (ns.map V.int)
 | []=>rfl
 | n::ns=>⟨_,_,rfl,rfl,RepL.of_ints ns⟩
end
noncomputable def NdAt (K:Ck) (F H:Hp) (m:List Addr):Nd->Addr->Prop
 | .dead,a=>∃ o,H a=some o
 | .lst xs,a=>F a=none/\∃ vs,H a=some (.lst vs)/\RepL K F m xs vs
 | .dct ks xs,a=>F a=none/\∃ vs,H a=some (.dK (ks.zip vs))/\vs.length=ks.length/\RepL K F m xs vs
 | .fz ks xs,a=>F a=none/\∃ o vs,H a=some (.frz o (.dK (ks.zip vs)))/\vs.length=ks.length/\RepL K F m xs vs
 | .ins k ns xs,a=>F a=none/\∃ dx vs,H a=some (.ins (K.A k) dx (ns.zip vs))/\vs.length=ns.length/\RepL K F m xs vs
structure Wd where
 F:Hp
 H:Hp
 m:List Addr
 h:AH
structure WOk (K:Ck) (W:Wd):Prop where
 le:Same W.F W.H
 len:W.m.length=W.h.length
 nd:W.m.Nodup
 at_:∀ (n:Nat) (d:Nd) (a:Addr),W.h[n]?=some d->W.m[n]?=some a->NdAt K W.F W.H W.m d a
structure Le (K:Ck) (W W':Wd):Prop where
 ok:WOk K W'
 fs:Same W.F W'.F
 pre:W.m <+: W'.m
 keep:∀ b o,W.H b=some o->b∉W.m->W'.H b=some o
 new:∀ b o,W.H b=some o->b∉W.m->W.F b=none->W'.F b=none
 mn:∀ b∈W'.m,b∉W.m->W.H b=none
 fz:∀ (n:Nat) (ks:List Key) (xs:List PV),W.h[n]?=some (.fz ks xs)->W'.h[n]?=some (.fz ks xs)/\∀ a,W.m[n]?=some a->W'.H a=W.H a
theorem Le.refl {K:Ck}{W:Wd}(h:WOk K W):Le K W W:=⟨h,Same.refl _,prefix_refl _,fun _ _ e _=>e,fun _ _ _ _ e=>e,fun _ h h'=>absurd h h',fun _ _ _ e=>⟨e,fun _ _=>rfl⟩⟩
theorem Le.trans {K:Ck}{W W1 W2:Wd}(a:Le K W W1) (b:Le K W1 W2):Le K W W2 where
 ok:=b.ok
 fs:=a.fs.trans b.fs
 pre:=a.pre.trans b.pre
 keep:=fun c o e n=>b.keep c o (a.keep c o e n) fun z=>by rw [a.mn c z n] at e;cases e
 new:=fun c o e n f=>b.new c o (a.keep c o e n) (fun z=>by rw [a.mn c z n] at e;cases e) (a.new c o e n f)
 mn:=fun c z n=>by
  by_cases hc:c∈W1.m
  .exact a.mn c hc n
  .have:=b.mn c z hc
   cases e:W.H c with
   | none=>rfl
   | some o=>rw [a.keep c o e n] at this;cases this
 fz:=fun n ks xs e=>by
  obtain ⟨e1,q1⟩:=a.fz n ks xs e
  obtain ⟨e2,q2⟩:=b.fz n ks xs e1
  exact ⟨e2,fun c em=>(q2 c (ydT a.pre em)).trans (q1 c em)⟩
abbrev ycm (K:Ck) (W:Wd) (x:PV) (v:V):Prop:=Rep K W.F W.m x v
abbrev ycj (K:Ck) (W:Wd) (x:List PV) (v:List V):Prop:=RepL K W.F W.m x v
theorem Le.rep {K:Ck}{W W':Wd}(l:Le K W W') {x:PV}{v:V}(h:ycm K W x v):ycm K W' x v:=Rep.mono l.fs l.pre x v h
theorem Le.repL {K:Ck}{W W':Wd}(l:Le K W W') {x:List PV}{v:List V}(h:ycj K W x v):ycj K W' x v:=RepL.mono l.fs l.pre x v h
theorem NdAt.mono {K:Ck}{F F' H H':Hp}{m m':List Addr}(s:Same F F') (p:m <+: m') {d:Nd}{a:Addr}(hH:∀ o,H a=some o->H' a=some o) (hF:F a=none->F' a=none) (h:NdAt K F H m d a):NdAt K F' H' m' d a:=by
 cases d with
 | dead=>obtain ⟨o,e⟩:=h;exact ⟨o,hH _ e⟩
 | lst xs=>obtain ⟨f,vs,e,r⟩:=h;exact ⟨hF f,vs,hH _ e,RepL.mono s p _ _ r⟩
 | dct ks xs=>obtain ⟨f,vs,e,l,r⟩:=h;exact ⟨hF f,vs,hH _ e,l,RepL.mono s p _ _ r⟩
 | fz ks xs=>obtain ⟨f,o,vs,e,l,r⟩:=h;exact ⟨hF f,o,vs,hH _ e,l,RepL.mono s p _ _ r⟩
 | ins C ns xs=>obtain ⟨f,dx,vs,e,l,r⟩:=h;exact ⟨hF f,dx,vs,hH _ e,l,RepL.mono s p _ _ r⟩
theorem NdAt.some {K:Ck}{F H:Hp}{m:List Addr}{d:Nd}{a:Addr}(h:NdAt K F H m d a):∃ o,H a=some o:=by
 cases d with
 | dead=>exact h
 | lst xs=>obtain ⟨f,vs,e,r⟩:=h;exact ⟨_,e⟩
 | dct ks xs=>obtain ⟨f,vs,e,r⟩:=h;exact ⟨_,e⟩
 | fz ks xs=>obtain ⟨f,o,vs,e,r⟩:=h;exact ⟨_,e⟩
 | ins C ns xs=>obtain ⟨f,dx,vs,e,r⟩:=h;exact ⟨_,e⟩
structure Good (K:Ck) (W0 W:Wd) (ρ:PSt) (σ:St):Prop where
 le:Le K W0 W
 len:σ.length=ρ.length
 val:∀ (i:Nat) (x:PV),ρ[i]?=some (.val x)->∃ v,σ[i]?=some (some v)/\ycm K W x v
 own:∀ (i:Nat) (d:Nd),ρ[i]?=some (.own d)->∃ p,σ[i]?=some (some (.ref p))/\p∉W.m/\W0.H p=none/\d≠.dead/\NdAt K W.F W.H W.m d p
 ne:∀ (i j:Nat) (d d':Nd),i≠j->ρ[i]?=some (.own d)->ρ[j]?=some (.own d')->σ[i]?≠σ[j]?
theorem Good.ok {K:Ck}{W0 W:Wd}{ρ:PSt}{σ:St}(g:Good K W0 W ρ σ):WOk K W:=g.le.ok
theorem Good.step {K:Ck}{W0 W W':Wd}{ρ:PSt}{σ:St}(g:Good K W0 W ρ σ) (l:Le K W W'):Good K W0 W' ρ σ where
 le:=g.le.trans l
 len:=g.len
 val:=fun i x e=>let ⟨v,h1,h2⟩:=g.val i x e;⟨v,h1,l.rep h2⟩
 own:=fun i d e=>by
  obtain ⟨p,h1,h2,h3,h4,h5⟩:=g.own i d e
  obtain ⟨o,ho⟩:=h5.some
  have n':p∉W'.m:=fun z=>by rw [l.mn p z h2] at ho;cases ho
  refine ⟨p,h1,n',h3,h4,h5.mono l.fs l.pre (fun o e=>l.keep p o e h2) fun f=>l.new p o ho h2 f⟩
 ne:=g.ne
theorem WOk.some {K:Ck}{W:Wd}(w:WOk K W) {a:Addr}(h:a∈W.m):∃ o,W.H a=some o:=by
 obtain ⟨n,hn,e⟩:=getElem_of_mem h
 have hl:n<W.h.length:=by rw [<- w.len];exact hn
 exact (w.at_ n W.h[n] a (List.getElem?_eq_getElem hl) (by rw [List.getElem?_eq_getElem hn,e])).some
theorem Le.fresh {K:Ck}{W W':Wd}(l:Le K W W') {p:Addr}(h:W'.H p=none):W.H p=none:=by
 cases e:W.H p with
 | none=>rfl
 | some o =>
  by_cases hm:p∈W.m
  .obtain ⟨o,q⟩:=l.ok.some (l.pre.subset hm)
   rw [h] at q;cases q
  .rw [l.keep p o e hm] at h;cases h
theorem WOk.out {K:Ck}{W:Wd}(w:WOk K W) {p:Addr}(h:W.H p=none):p∉W.m:=fun z=>by
 obtain ⟨o,q⟩:=w.some z
 rw [h] at q;cases q
theorem WOk.ff {K:Ck}{W:Wd}(w:WOk K W) {p:Addr}(h:W.H p=none):W.F p=none:=Same.free w.le h
structure Lf (K:Ck) (W W':Wd):Prop where
 fs:Same W.F W'.F
 pre:W.m <+: W'.m
 fz:∀ (n:Nat) (ks:List Key) (xs:List PV),W.h[n]?=some (.fz ks xs)->W'.h[n]?=some (.fz ks xs)/\∀ a,W.m[n]?=some a->W'.H a=W.H a
theorem Le.lf {K:Ck}{W W':Wd}(l:Le K W W'):Lf K W W':=⟨l.fs,l.pre,l.fz⟩
theorem Lf.refl {K:Ck}{W:Wd}:Lf K W W:=⟨Same.refl _,prefix_refl _,fun _ _ _ e=>⟨e,fun _ _=>rfl⟩⟩
theorem Lf.trans {K:Ck}{W W1 W2:Wd}(a:Lf K W W1) (b:Lf K W1 W2):Lf K W W2:=⟨a.fs.trans b.fs,a.pre.trans b.pre,fun n ks xs e=>by
  obtain ⟨e1,q1⟩:=a.fz n ks xs e
  obtain ⟨e2,q2⟩:=b.fz n ks xs e1
  exact ⟨e2,fun c em=>(q2 c (ydT a.pre em)).trans (q1 c em)⟩⟩
theorem Lf.rep {K:Ck}{W W':Wd}(l:Lf K W W') {x:PV}{v:V}(h:ycm K W x v):ycm K W' x v:=Rep.mono l.fs l.pre x v h
noncomputable def yby (K:Ck) (t:TE) (e:XE):Prop:=∀ (W0 W:Wd) (ρ:PSt) (σ:St) (Q:VK) (x:PV) (h':AH),Good K W0 W ρ σ->e ρ W.h=some (x,h') ->
 (∀ v W',W'.h=h'->Le K W W'->ycm K W' x v->Q v W'.H)->t σ W.H Q
noncomputable def ykR (K:Ck) (t:TT) (e:XT):Prop:=∀ (W0 W:Wd) (ρ:PSt) (σ:St) (Q:Bool->Hp->Prop) (x:Bool) (h':AH),Good K W0 W ρ σ->e ρ W.h=some (x,h') ->
 (∀ W',W'.h=h'->Le K W W'->Q x W'.H)->t σ W.H Q
noncomputable def ykS (K:Ck) (t:TA) (e:XA):Prop:=∀ (W0 W:Wd) (ρ:PSt) (σ:St) (Q:List V->Hp->Prop) (x:List PV) (h':AH),Good K W0 W ρ σ->e ρ W.h=some (x,h') ->
 (∀ v W',W'.h=h'->Le K W W'->ycj K W' x v->Q v W'.H)->t σ W.H Q
def ykT (K:Ck) (t:TE) (e:XO):Prop:=∀ (W0 W:Wd) (ρ:PSt) (σ:St) (Q:VK) (d:Nd) (h':AH),Good K W0 W ρ σ->e ρ W.h=some (d,h') ->
 (∀ p W',W'.h=h'->Le K W W'->p∉W'.m->W.H p=none->d≠.dead->NdAt K W'.F W'.H W'.m d p->Q (.ref p) W'.H)->t σ W.H Q
noncomputable def Ends.Ok (K:Ck) (W0 W:Wd) (D:Ends) (h':AH):Out->Prop
 | .nx ρ'=>∀ W' σ',W'.h=h'->Lf K W W'->Good K W0 W' ρ' σ'->D.nx σ' W'.H
 | .bk ρ'=>∀ W' σ',W'.h=h'->Lf K W W'->Good K W0 W' ρ' σ'->D.bk σ' W'.H
 | .ct ρ'=>∀ W' σ',W'.h=h'->Lf K W W'->Good K W0 W' ρ' σ'->D.ct σ' W'.H
 | .rt x=>∀ W' v,W'.h=h'->Le K W0 W'->ycm K W' x v->D.rt v W'.H
def yeS (K:Ck) (t:TS) (s:XS):Prop:=∀ (W0 W:Wd) (ρ:PSt) (σ:St) (D:Ends) (o:Out) (h':AH),Good K W0 W ρ σ->s ρ W.h=some (o,h')->Ends.Ok K W0 W D h' o->t D σ W.H
noncomputable def ob {α β:Type}(o:Option (α×AH)) (f:α->AH->Option β):Option β:=o.bind fun q=>f q.1 q.2
theorem yg {α β:Type}{o:Option (α×AH)}{f:α->AH->Option β}{b:β}(h:ob o f=some b):∃ x h',o=some (x,h')/\f x h'=some b:=by
 obtain ⟨⟨x,h'⟩,e,k⟩:=Option.bind_eq_some_iff.mp h
 exact ⟨x,h',e,k⟩
end PX
namespace PX
open PySem L2
variable {K:Ck}
def yf (i:Nat):XE:=fun ρ h=>match ρ[i]? with|some (.val x)=>some (x,h)|_=>none
def xC (x:PV):XE:=fun _ h=>some (x,h)
abbrev P2:=PV->PV->AH->Option (PV×AH)
abbrev P2O:=PV->PV->AH->Option (Nd×AH)
def xOp (p:P2) (a b:XE):XE:=fun ρ h=>ob (a ρ h) fun x h1=>ob (b ρ h1) fun y h2=>p x y h2
def ytV (p:P2O) (a b:XE):XO:=fun ρ h=>ob (a ρ h) fun x h1=>ob (b ρ h1) fun y h2=>p x y h2
def xUn (p:PV->AH->Option (PV×AH)) (a:XE):XE:=fun ρ h=>ob (a ρ h) fun x h1=>p x h1
def oB (x:PV) (h:AH):Option (Bool×AH):=match x with|.bl b=>some (b,h)|_=>none
def yer (p p':P2) (a b c:XE):XE:=fun ρ h=>ob (a ρ h) fun x h1=>ob (b ρ h1) fun y h2=>ob (p x y h2) fun z h3=>ob (oB z h3) fun k h3=>if k=true then ob (c ρ h3) fun w h4=>p' y w h4 else some (.bl false,h3)
def ym (a:XE):XT:=fun ρ h=>ob (a ρ h) oB
def ygm (a b:XE):XE:=fun ρ h=>ob (a ρ h) fun x h1=>ob (oB x h1) fun k h1=>if k=true then b ρ h1 else some (.bl false,h1)
def ylx (a:XE):XE:=fun ρ h=>ob (a ρ h) fun x h1=>ob (oB x h1) fun k h1=>some (.bl (!k),h1)
def ynz (a b:XT):XT:=fun ρ h=>ob (a ρ h) fun k h1=>if k=true then b ρ h1 else some (false,h1)
def xOr (a b:XT):XT:=fun ρ h=>ob (a ρ h) fun k h1=>if k=true then some (true,h1) else b ρ h1
def yhF (a:XT):XT:=fun ρ h=>ob (a ρ h) fun k h1=>some (!k,h1)
def xIf (c:XT) (a b:XE):XE:=fun ρ h=>ob (c ρ h) fun k h1=>if k=true then a ρ h1 else b ρ h1
def yi:XA:=fun _ h=>some ([],h)
def yb (a:XE) (r:XA):XA:=fun ρ h=>ob (a ρ h) fun x h1=>ob (r ρ h1) fun xs h2=>some (x::xs,h2)
def yfr (a:XA):XE:=fun ρ h=>ob (a ρ h) fun xs h1=>if xs.length<=1000 then some (.tup xs,h1) else none
def yfs (a:XA):XO:=fun ρ h=>ob (a ρ h) fun xs h1=>if xs.length<=1000 then some (.lst xs,h1) else none
def xFz (e:XO):XE:=fun ρ h=>ob (e ρ h) fun d h1=>match d with|.lst xs=>some (.lst xs,h1)|.ins k ns xs=>some (.ins k ns xs,h1)|_=>none
def ygK (e:XO):XE:=fun ρ h=>ob (e ρ h) fun d h1=>some (.loc h1.length,h1++[d])
def yba (f:Fn) (a:XA):XE:=fun ρ h=>ob (a ρ h) f
def xCB (p:List PV->AH->Option (PV×AH)) (a:XA):XE:=fun ρ h=>ob (a ρ h) p
def yjY (p:List PV->AH->Option (Nd×AH)) (a:XA):XO:=fun ρ h=>ob (a ρ h) p
abbrev PM:=PV->List PV->AH->Option (PV×AH)
def xBM (c:PV->AH->Bool) (p:PM) (o:XE) (a:XA):XE:=fun ρ h=>ob (o ρ h) fun x h1=>if c x h1=true then ob (a ρ h1) fun xs h2=>p x xs h2 else none
def yrO (e:XE):PSt->AH->Option (Option Int×AH):=fun ρ h=>ob (e ρ h) fun x h1=>match x with|.int i=>some (some i,h1)|_=>none
def yiC:PSt->AH->Option (Option Int×AH):=fun _ h=>some (none,h)
def yBi (p:PV->Option Int->Option Int->AH->Option (Nd×AH)) (e:XE) (lo hi:PSt->AH->Option (Option Int×AH)):XO:=fun ρ h=>ob (e ρ h) fun x h1=>ob (lo ρ h1) fun l h2=>ob (hi ρ h2) fun u h3=>p x l u h3
noncomputable def ybR (K:Ck) (r:R2) (p:P2):Prop:=∀ (W:Wd) (x y:PV) (v u:V) (Q:VK) (z:PV) (h':AH),WOk K W->ycm K W x v->ycm K W y u->p x y W.h=some (z,h')->(∀ w W',W'.h=h'->Le K W W'->ycm K W' z w->Q w W'.H)->r v u W.H Q
def ynA (K:Ck) (W:Wd) (d:Nd) (h':AH) (Q:VK):Prop:=∀ p W',W'.h=h'->Le K W W'->p∉W'.m->W.H p=none->d≠.dead->NdAt K W'.F W'.H W'.m d p->Q (.ref p) W'.H
def yjZ (K:Ck) (r:R2) (p:P2O):Prop:=∀ (W:Wd) (x y:PV) (v u:V) (Q:VK) (d:Nd) (h':AH),WOk K W->ycm K W x v->ycm K W y u->p x y W.h=some (d,h')->ynA K W d h' Q->r v u W.H Q
noncomputable def yvt (K:Ck) (r:V->Hp->VK->Prop) (p:PV->AH->Option (PV×AH)):Prop:=∀ (W:Wd) (x:PV) (v:V) (Q:VK) (z:PV) (h':AH),WOk K W->ycm K W x v->p x W.h=some (z,h')->(∀ w W',W'.h=h'->Le K W W'->ycm K W' z w->Q w W'.H)->r v W.H Q
noncomputable def yfR (K:Ck) (r:List V->Hp->VK->Prop) (p:List PV->AH->Option (PV×AH)):Prop:=∀ (W:Wd) (xs:List PV) (vs:List V) (Q:VK) (z:PV) (h':AH),WOk K W->ycj K W xs vs->p xs W.h=some (z,h')->(∀ w W',W'.h=h'->Le K W W'->ycm K W' z w->Q w W'.H)->r vs W.H Q
def yph (K:Ck) (r:List V->Hp->VK->Prop) (p:List PV->AH->Option (Nd×AH)):Prop:=∀ (W:Wd) (xs:List PV) (vs:List V) (Q:VK) (d:Nd) (h':AH),WOk K W->ycj K W xs vs->p xs W.h=some (d,h')->ynA K W d h' Q->r vs W.H Q
def ypi (K:Ck) (T:String) (c:PV->AH->Bool) (r:V->List V->Hp->VK->Prop) (p:PM):Prop :=
 (∀ (W:Wd) (x:PV) (v:V),WOk K W->ycm K W x v->c x W.h=true->tyV K.K T v W.H) /\
 ∀ (W:Wd) (x:PV) (v:V) (xs:List PV) (vs:List V) (Q:VK) (z:PV) (h':AH),WOk K W->ycm K W x v->ycj K W xs vs->p x xs W.h=some (z,h')->(∀ w W',W'.h=h'->Le K W W'->ycm K W' z w->Q w W'.H)->r v vs W.H Q
theorem yvu (i:Nat):yby K (yol i) (yf i):=by
 intro W0 W ρ σ Q x h' g e q
 unfold yf at e
 split at e
 .rename_i y hy
  cases e
  obtain ⟨v,h1,h2⟩:=g.val i _ hy
  exact ⟨v,h1,q v W rfl (.refl g.ok) h2⟩
 .cases e
theorem ynB {v:V}{x:PV}(h:∀ W:Wd,ycm K W x v):yby K (tC v) (xC x):=by
 intro W0 W ρ σ Q y h' g e q
 cases e
 exact q v W rfl (.refl g.ok) (h W)
theorem ypj {i:Int}:yby K (tC (.int i)) (xC (.int i)):=ynB fun _=>rfl
theorem ypk {i:Str}:yby K (tC (.str i)) (xC (.str i)):=ynB fun _=>rfl
theorem yyy {i:Bool}:yby K (tC (.bl i)) (xC (.bl i)):=ynB fun _=>rfl
theorem yvv:yby K (tC .non) (xC .non):=ynB fun _=>rfl
theorem yyz {n:String}:yby K (tC (.ty n)) (xC (.ty n)):=ynB fun _=>rfl
theorem yvw {k:Nat}:yby K (tC (.ref (K.A k))) (xC (.cls k)):=ynB fun _=>rfl
section
variable {ta tb tc:TE}{ea eb ec:XE}{t:TA}{e:XA}
theorem ymw {r:R2}{p:P2}(o:ybR K r p) (a:yby K ta ea) (b:yby K tb eb):yby K (tOp r ta tb) (xOp p ea eb):=by
 intro W0 W ρ σ Q z h' g e q
 obtain ⟨x,h1,e1,f1⟩:=yg e
 obtain ⟨y,h2,e2,f2⟩:=yg f1
 refine a W0 W ρ σ _ x h1 g e1 fun v W1 w1 l1 r1=>?_
 subst w1
 refine b W0 W1 ρ σ _ y h2 (g.step l1) e2 fun u W2 w2 l2 r2=>?_
 subst w2
 exact o W2 x y v u Q z h' l2.ok (l2.rep r1) r2 f2 fun w W3 w3 l3 r3=>q w W3 w3 (l1.trans (l2.trans l3)) r3
theorem yfS {W W1:Wd}{d:Nd}{h':AH}{Q:VK}(l:Le K W W1) (q:ynA K W d h' Q):ynA K W1 d h' Q:=fun p W' e l' n f=>q p W' e (l.trans l') n (l.fresh f)
theorem yvx {r:R2}{p:P2O}(o:yjZ K r p) (a:yby K ta ea) (b:yby K tb eb):ykT K (tOp r ta tb) (ytV p ea eb):=by
 intro W0 W ρ σ Q z h' g e q
 obtain ⟨x,h1,e1,f1⟩:=yg e
 obtain ⟨y,h2,e2,f2⟩:=yg f1
 refine a W0 W ρ σ _ x h1 g e1 fun v W1 w1 l1 r1=>?_
 subst w1
 refine b W0 W1 ρ σ _ y h2 (g.step l1) e2 fun u W2 w2 l2 r2=>?_
 subst w2
 exact o W2 x y v u Q z h' l2.ok (l2.rep r1) r2 f2 (yfS (l1.trans l2) q)
theorem yyA {r} {p} (o:yvt K r p) (a:yby K ta ea):yby K (tUn r ta) (xUn p ea):=by
 intro W0 W ρ σ Q z h' g e q
 obtain ⟨x,h1,e1,f1⟩:=yg e
 refine a W0 W ρ σ _ x h1 g e1 fun v W1 w1 l1 r1=>?_
 subst w1
 exact o W1 x v Q z h' l1.ok r1 f1 fun w W3 w3 l3 r3=>q w W3 w3 (l1.trans l3) r3
theorem yiD {x:PV}{h:AH}{k:Bool}{h':AH}(e:oB x h=some (k,h')):x=.bl k/\h'=h:=by
 unfold oB at e
 split at e
 .cases e;exact ⟨rfl,rfl⟩
 .cases e
theorem yka {r r':R2}{p p':P2}(o:ybR K r p) (o':ybR K r' p') (a:yby K ta ea) (b:yby K tb eb) (c:yby K tc ec):yby K (yoL r r' ta tb tc) (yer p p' ea eb ec):=by
 intro W0 W ρ σ Q z h' g e q
 obtain ⟨x,h1,e1,f1⟩:=yg e
 obtain ⟨y,h2,e2,f2⟩:=yg f1
 obtain ⟨z',h3,e3,f3⟩:=yg f2
 obtain ⟨k,h3',e3',f4⟩:=yg f3
 obtain ⟨rfl,rfl⟩:=yiD e3'
 refine a W0 W ρ σ _ x h1 g e1 fun v W1 w1 l1 r1=>?_
 subst w1
 refine b W0 W1 ρ σ _ y h2 (g.step l1) e2 fun u W2 w2 l2 r2=>?_
 subst w2
 refine o W2 x y v u _ _ _ l2.ok (l2.rep r1) r2 e3 fun w W3 w3 l3 r3=>⟨k,r3,?_⟩
 subst w3
 have l:=l1.trans (l2.trans l3)
 cases k with
 | false =>
  rw [if_neg (by decide)] at f4 ⊢
  cases f4
  exact q _ W3 rfl l rfl
 | true =>
  rw [if_pos rfl] at f4 ⊢
  obtain ⟨w',h4,e4,f5⟩:=yg f4
  refine c W0 W3 ρ σ _ w' h4 (g.step l) e4 fun u' W4 w4 l4 r4=>?_
  subst w4
  exact o' W4 y w' u u' Q z h' l4.ok ((l3.trans l4).rep r2) r4 f5 fun w W5 w5 l5 r5=>q w W5 w5 (l.trans (l4.trans l5)) r5
theorem ygB (a:yby K ta ea):ykR K (yva ta) (ym ea):=by
 intro W0 W ρ σ Q k h' g e q
 obtain ⟨x,h1,e1,f1⟩:=yg e
 obtain ⟨rfl,rfl⟩:=yiD f1
 exact a W0 W ρ σ _ _ _ g e1 fun v W1 w1 l1 r1=>⟨k,r1,q W1 w1 l1⟩
theorem yyB (a:yby K ta ea):ykR K (tB ta) (ym ea):=ygB a
theorem yrP (a:yby K ta ea) (b:yby K tb eb):yby K (yxU ta tb) (ygm ea eb):=by
 intro W0 W ρ σ Q z h' g e q
 obtain ⟨x,h1,e1,f1⟩:=yg e
 obtain ⟨k,h1',e1',f2⟩:=yg f1
 obtain ⟨rfl,rfl⟩:=yiD e1'
 refine a W0 W ρ σ _ _ _ g e1 fun v W1 w1 l1 r1=>⟨k,r1,?_⟩
 subst w1
 cases k with
 | false =>
  rw [if_neg (by decide)] at f2 ⊢
  cases f2
  exact q _ W1 rfl l1 rfl
 | true =>
  rw [if_pos rfl] at f2 ⊢
  exact b W0 W1 ρ σ _ z h' (g.step l1) f2 fun v W2 w2 l2 r2=>q v W2 w2 (l1.trans l2) r2
theorem yrQ (a:yby K ta ea):yby K (yxV ta) (ylx ea):=by
 intro W0 W ρ σ Q z h' g e q
 obtain ⟨x,h1,e1,f1⟩:=yg e
 obtain ⟨k,h1',e1',f2⟩:=yg f1
 obtain ⟨rfl,rfl⟩:=yiD e1'
 cases f2
 exact a W0 W ρ σ _ _ _ g e1 fun v W1 w1 l1 r1=>⟨k,r1,q _ W1 w1 l1 rfl⟩
section
variable {tA tB':TT}{eA eB:XT}
theorem yvy (a:ykR K tA eA) (b:ykR K tB' eB):ykR K (yDG tA tB') (ynz eA eB):=by
 intro W0 W ρ σ Q z h' g e q
 obtain ⟨k,h1,e1,f1⟩:=yg e
 refine a W0 W ρ σ _ _ _ g e1 fun W1 w1 l1=>?_
 subst w1
 cases k with
 | false =>
  rw [if_neg (by decide)] at f1 ⊢
  cases f1
  exact q W1 rfl l1
 | true =>
  rw [if_pos rfl] at f1 ⊢
  exact b W0 W1 ρ σ _ z h' (g.step l1) f1 fun W2 w2 l2=>q W2 w2 (l1.trans l2)
theorem yyC (a:ykR K tA eA) (b:ykR K tB' eB):ykR K (tOr tA tB') (xOr eA eB):=by
 intro W0 W ρ σ Q z h' g e q
 obtain ⟨k,h1,e1,f1⟩:=yg e
 refine a W0 W ρ σ _ _ _ g e1 fun W1 w1 l1=>?_
 subst w1
 cases k with
 | true =>
  rw [if_pos rfl] at f1 ⊢
  cases f1
  exact q W1 rfl l1
 | false =>
  rw [if_neg (by decide)] at f1 ⊢
  exact b W0 W1 ρ σ _ z h' (g.step l1) f1 fun W2 w2 l2=>q W2 w2 (l1.trans l2)
theorem yvz (a:ykR K tA eA):ykR K (yBy tA) (yhF eA):=by
 intro W0 W ρ σ Q z h' g e q
 obtain ⟨k,h1,e1,f1⟩:=yg e
 cases f1
 exact a W0 W ρ σ _ _ _ g e1 fun W1 w1 l1=>q W1 w1 l1
theorem yyD (c:ykR K tA eA) (a:yby K ta ea) (b:yby K tb eb):yby K (tIf tA ta tb) (xIf eA ea eb):=by
 intro W0 W ρ σ Q z h' g e q
 obtain ⟨k,h1,e1,f1⟩:=yg e
 refine c W0 W ρ σ _ _ _ g e1 fun W1 w1 l1=>?_
 subst w1
 cases k with
 | true =>
  rw [if_pos rfl] at f1 ⊢
  exact a W0 W1 ρ σ _ z h' (g.step l1) f1 fun v W2 w2 l2 r2=>q v W2 w2 (l1.trans l2) r2
 | false =>
  rw [if_neg (by decide)] at f1 ⊢
  exact b W0 W1 ρ σ _ z h' (g.step l1) f1 fun v W2 w2 l2 r2=>q v W2 w2 (l1.trans l2) r2
end
theorem yly:ykS K ytQ yi:=by
 intro W0 W ρ σ Q z h' g e q
 cases e
 exact q [] W rfl (.refl g.ok) rfl
theorem yrR (a:yby K ta ea) (r:ykS K t e):ykS K (ylb ta t) (yb ea e):=by
 intro W0 W ρ σ Q z h' g e q
 obtain ⟨x,h1,e1,f1⟩:=yg e
 obtain ⟨xs,h2,e2,f2⟩:=yg f1
 cases f2
 refine a W0 W ρ σ _ x h1 g e1 fun v W1 w1 l1 r1=>?_
 subst w1
 exact r W0 W1 ρ σ _ xs _ (g.step l1) e2 fun vs W2 w2 l2 r2=>q (v::vs) W2 w2 (l1.trans l2) ⟨v,vs,rfl,l2.rep r1,r2⟩
def ytW (W:Wd) (p:Addr) (o:HO):Wd:=⟨upd W.F p o,upd W.H p o,W.m,W.h⟩
theorem ylz {W:Wd}{p:Addr}{o:HO}(w:WOk K W) (h:W.H p=none):Le K W (ytW W p o):=by
 have hm:=w.out h
 have hf:=w.ff h
 have sF:Same W.F (upd W.F p o):=ydr hf o
 refine ⟨⟨?_,w.len,w.nd,fun n d a e1 e2=>?_⟩,sF,prefix_refl _,fun b u e _=>ydr h o b u e,fun b u e _ f=>?_,fun b z n=>absurd z n,fun n ks xs e1=>⟨e1,fun a e2=>yu fun z=>hm (z ▸ mem_of_getElem? e2)⟩⟩
 .intro b u e
  show upd W.H p o b=some u
  by_cases hb:b=p
  .subst hb;rw [show (ytW W b o).F b=upd W.F b o b from rfl,yr] at e;rw [yr];exact e
  .rw [show (ytW W p o).F b=upd W.F p o b from rfl,yu hb] at e;rw [yu hb];exact w.le _ _ e
 .have ha:a≠p:=fun z=>hm (z ▸ mem_of_getElem? e2)
  exact (w.at_ n d a e1 e2).mono sF (prefix_refl _) (fun u e=>by rw [show (ytW W p o).H a=upd W.H p o a from rfl,yu ha];exact e) fun f=>(yu ha).trans f
 .have:b≠p:=ybb e h
  rw [show (ytW W p o).F b=upd W.F p o b from rfl,yu this];exact f
def yfo (W:Wd) (p:Addr) (o:HO):Wd:=⟨W.F,upd W.H p o,W.m,W.h⟩
theorem ycc {W:Wd}{p:Addr}{o:HO}(w:WOk K W) (h:W.H p=none):Le K W (yfo W p o):=by
 have hm:=w.out h
 refine ⟨⟨?_,w.len,w.nd,fun n d a e1 e2=>?_⟩,Same.refl _,prefix_refl _,fun b u e _=>ydr h o b u e,fun b u e _ f=>f,fun b z n=>absurd z n,fun n ks xs e1=>⟨e1,fun a e2=>yu fun z=>hm (z ▸ mem_of_getElem? e2)⟩⟩
 .exact fun b u e=>ydr h o b u (w.le _ _ e)
 .exact (w.at_ n d a e1 e2).mono (Same.refl _) (prefix_refl _) (fun u e=>ydr h o _ _ e) id
theorem small {n:Nat}(h:n<=1000):n<=sizeLine:=le_of_lt (yjE h)
theorem yvA (a:ykS K t e):yby K (yDO t) (yfr e):=by
 intro W0 W ρ σ Q z h' g e q
 obtain ⟨xs,h1,e1,f1⟩:=yg e
 split at f1
 .rename_i hl
  cases f1
  refine a W0 W ρ σ _ xs _ g e1 fun vs W1 w1 l1 r1=>⟨small (by rw [r1.len];exact hl),fun p hp=>?_⟩
  have l2:=ylz (o:=.tup vs) l1.ok hp
  exact q (.ref p) (ytW W1 p (.tup vs)) w1 (l1.trans l2) ⟨p,vs,rfl,.inl yr,l2.repL r1⟩
 .cases f1
theorem yvB (a:ykS K t e):ykT K (yDP t) (yfs e):=by
 intro W0 W ρ σ Q z h' g e q
 obtain ⟨xs,h1,e1,f1⟩:=yg e
 split at f1
 .rename_i hl
  cases f1
  refine a W0 W ρ σ _ xs _ g e1 fun vs W1 w1 l1 r1=>⟨small (by rw [r1.len];exact hl),fun p hp=>?_⟩
  have l2:=ycc (o:=.lst vs) l1.ok hp
  exact q p (yfo W1 p (.lst vs)) w1 (l1.trans l2) (l1.ok.out hp) (l1.fresh hp) (fun z=>by cases z) ⟨l1.ok.ff hp,vs,yr,r1⟩
 .cases f1
def yrS (W:Wd) (p:Addr) (o:HO):Wd:=⟨upd W.F p o,W.H,W.m,W.h⟩
theorem ypl {W:Wd}{p:Addr}{o:HO}(w:WOk K W) (h:W.H p=some o) (hm:p∉W.m) (hf:W.F p=none):WOk K (yrS W p o)/\Same W.F (upd W.F p o):=by
 have sF:Same W.F (upd W.F p o):=ydr hf o
 refine ⟨⟨?_,w.len,w.nd,fun n d a e1 e2=>?_⟩,sF⟩
 .intro b u e
  by_cases hb:b=p
  .subst hb;rw [show (yrS W b o).F b=upd W.F b o b from rfl,yr] at e;cases e;exact h
  .rw [show (yrS W p o).F b=upd W.F p o b from rfl,yu hb] at e;exact w.le _ _ e
 .have ha:a≠p:=fun z=>hm (z ▸ mem_of_getElem? e2)
  exact (w.at_ n d a e1 e2).mono sF (prefix_refl _) (fun u e=>e) fun f=>(yu ha).trans f
theorem ylA {W W1:Wd}{p:Addr}{o:HO}(l:Le K W W1) (h:W1.H p=some o) (hm:p∉W1.m) (hf:W1.F p=none) (hn:W.H p=none):Le K W (yrS W1 p o):=by
 obtain ⟨k,sF⟩:=ypl l.ok h hm hf
 refine ⟨k,l.fs.trans sF,l.pre,l.keep,fun b u e n f=>?_,l.mn,l.fz⟩
 have:b≠p:=ybb e hn
 rw [show (yrS W1 p o).F b=upd W1.F p o b from rfl,yu this];exact l.new b u e n f
theorem ytX {o:XO}(a:ykT K ta o):yby K ta (xFz o):=by
 intro W0 W ρ σ Q z h' g e q
 obtain ⟨d,h1,e1,f1⟩:=yg e
 refine a W0 W ρ σ _ d h1 g e1 fun p W1 w1 l1 hm hn hd at_=>?_
 split at f1
 .rename_i xs
  cases f1
  obtain ⟨hf,vs,hp,r⟩:=at_
  have l2:=ylA l1 hp hm hf hn
  exact q (.ref p) (yrS W1 p (.lst vs)) w1 l2 ⟨p,vs,rfl,yr,RepL.mono (ydr hf _) (prefix_refl _) _ _ r⟩
 .rename_i k ns xs
  cases f1
  obtain ⟨hf,dx,vs,hp,hl,r⟩:=at_
  have l2:=ylA l1 hp hm hf hn
  exact q (.ref p) (yrS W1 p _) w1 l2 ⟨p,dx,vs,rfl,yr,hl,RepL.mono (ydr hf _) (prefix_refl _) _ _ r⟩
 .cases f1
theorem ypm {o:XO}(a:ykT K ta o):yby K ta (ygK o):=by
 intro W0 W ρ σ Q z h' g e q
 obtain ⟨d,h1,e1,f1⟩:=yg e
 cases f1
 refine a W0 W ρ σ _ d h1 g e1 fun p W1 w1 l1 hm hn hd at_=>?_
 subst w1
 have pre:W1.m <+: W1.m++[p]:=List.prefix_append _ _
 refine q (.ref p) ⟨W1.F,W1.H,W1.m++[p],W1.h++[d]⟩ rfl ⟨⟨l1.ok.le,?_,?_,fun n d' a e1 e2=>?_⟩,l1.fs,l1.pre.trans pre,l1.keep,l1.new,fun b z n=>?_,fun n ks xs e1=>⟨by
  have:=(l1.fz n ks xs e1).1
  show (W1.h++[d])[n]?=_
  rw [getElem?_append_left (List.getElem?_eq_some_iff.mp this).1];exact this,(l1.fz n ks xs e1).2⟩⟩ ⟨p,rfl,?_⟩
 .show (W1.m++[p]).length=(W1.h++[d]).length
  rw [length_append,length_append,l1.ok.len];rfl
 .show (W1.m++[p]).Nodup
  rw [List.nodup_append]
  refine ⟨l1.ok.nd,by simp,?_⟩
  intro a ha b hb
  simp at hb
  subst hb
  exact fun z=>hm (z ▸ ha)
 .have e1:(W1.h++[d])[n]?=some d':=e1
  have e2:(W1.m++[p])[n]?=some a:=e2
  by_cases hlt:n<W1.h.length
  .rw [getElem?_append_left hlt] at e1
   rw [getElem?_append_left (by rw [l1.ok.len];exact hlt)] at e2
   exact (l1.ok.at_ n d' a e1 e2).mono (Same.refl _) pre (fun _ f1=>f1) id
  .rw [getElem?_append_right (by omega)] at e1
   rw [getElem?_append_right (by rw [l1.ok.len];omega)] at e2
   rw [l1.ok.len] at e2
   cases hk:n-W1.h.length with
   | zero =>
    rw [hk] at e1 e2
    simp at e1 e2
    subst e1 e2
    exact at_.mono (Same.refl _) pre (fun _ f1=>f1) id
   | succ k=>rw [hk] at e1;simp at e1
 .have z:b∈W1.m++[p]:=z
  rcases List.mem_append.mp z with z|z
  .exact l1.mn b z n
  .simp at z;subst z;exact hn
 .show (W1.m++[p])[W1.h.length]?=some p
  rw [<- l1.ok.len];simp
noncomputable def spE (K:Ck) (n:Nat) (f:Fn):Sp:=fun vs H Q _=>∃ (W:Wd) (xs:List PV) (x:PV) (h':AH),W.H=H/\WOk K W/\ycj K W xs vs/\xs.length=n/\f xs W.h=some (x,h')/\∀ v W',W'.h=h'->Le K W W'->ycm K W' x v->Q v W'.H
theorem yrT {n:Nat}{f:Fn}{ex:XK}(a:ykS K t e) (hn:∀ ρ h xs h',e ρ h=some (xs,h')->xs.length=n):yby K (yrB (spE K n f) [] ex t) (yba f e):=by
 intro W0 W ρ σ Q z h' g e' q
 obtain ⟨xs,h1,e1,e2⟩:=yg e'
 refine a W0 W ρ σ _ xs h1 g e1 fun vs W1 w1 l1 r1=>?_
 subst w1
 rw [append_nil]
 exact ⟨W1,xs,z,h',rfl,l1.ok,r1,hn _ _ _ _ e1,e2,fun v W2 w2 l2 r2=>q v W2 w2 (l1.trans l2) r2⟩
theorem ylB:∀ ρ h xs h',yi ρ h=some (xs,h')->xs.length=0:=fun ρ h xs h' e=>by cases e;rfl
theorem yrU {n:Nat}(l:∀ ρ h xs h',e ρ h=some (xs,h')->xs.length=n):∀ ρ h xs h',yb ea e ρ h=some (xs,h')->xs.length=n+1:=fun ρ h xs h' q=>by
 obtain ⟨x,h1,e1,q⟩:=yg q
 obtain ⟨ys,h2,e2,q⟩:=yg q
 cases q
 rw [length_cons,l _ _ _ _ e2]
theorem ytY {r} {p} (o:yfR K r p) (a:ykS K t e):yby K (tCB r t) (xCB p e):=by
 intro W0 W ρ σ Q z h' g e' q
 obtain ⟨xs,h1,e1,e2⟩:=yg e'
 refine a W0 W ρ σ _ xs h1 g e1 fun vs W1 w1 l1 r1=>?_
 subst w1
 exact o W1 xs vs Q z h' l1.ok r1 e2 fun v W2 w2 l2 r2=>q v W2 w2 (l1.trans l2) r2
theorem yvC {r} {p} (o:yph K r p) (a:ykS K t e):ykT K (tCB r t) (yjY p e):=by
 intro W0 W ρ σ Q z h' g e' q
 obtain ⟨xs,h1,e1,e2⟩:=yg e'
 refine a W0 W ρ σ _ xs h1 g e1 fun vs W1 w1 l1 r1=>?_
 subst w1
 exact o W1 xs vs Q z h' l1.ok r1 e2 (yfS l1 q)
theorem yyE {T:String}{c} {r} {p} (o:ypi K T c r p) (b:yby K ta ea) (a:ykS K t e):yby K (tBM K.K T r ta t) (xBM c p ea e):=by
 intro W0 W ρ σ Q z h' g e' q
 obtain ⟨x,h1,e1,f1⟩:=yg e'
 split at f1
 .rename_i hc
  obtain ⟨xs,h2,e2,f2⟩:=yg f1
  refine b W0 W ρ σ _ x h1 g e1 fun v W1 w1 l1 r1=>⟨o.1 W1 x v l1.ok r1 (by rw [w1];exact hc),?_⟩
  subst w1
  refine a W0 W1 ρ σ _ xs h2 (g.step l1) e2 fun vs W2 w2 l2 r2=>?_
  subst w2
  exact o.2 W2 x v xs vs Q z h' l2.ok (l2.rep r1) r2 f2 fun w W3 w3 l3 r3=>q w W3 w3 (l1.trans (l2.trans l3)) r3
 .cases f1
end
noncomputable def yxt (K:Ck) (t:TO) (e:PSt->AH->Option (Option Int×AH)):Prop:=∀ (W0 W:Wd) (ρ:PSt) (σ:St) (Q:Option Int->Hp->Prop) (x:Option Int) (h':AH),Good K W0 W ρ σ->e ρ W.h=some (x,h') ->
 (∀ W',W'.h=h'->Le K W W'->Q x W'.H)->t σ W.H Q
theorem ynC:yxt K yoT yiC:=by
 intro W0 W ρ σ Q z h' g e q
 cases e
 exact q W rfl (.refl g.ok)
theorem yrV {ta:TE}{ea:XE}(a:yby K ta ea):yxt K (yyi ta) (yrO ea):=by
 intro W0 W ρ σ Q z h' g e q
 obtain ⟨x,h1,e1,f1⟩:=yg e
 split at f1
 .rename_i i
  cases f1
  exact a W0 W ρ σ _ _ _ g e1 fun v W1 w1 l1 r1=>⟨i,r1,q W1 w1 l1⟩
 .cases f1
def ypn (K:Ck) (r:V->Option Int->Option Int->Hp->VK->Prop) (p:PV->Option Int->Option Int->AH->Option (Nd×AH)):Prop:=∀ (W:Wd) (x:PV) (v:V) (lo hi:Option Int) (Q:VK) (d:Nd) (h':AH),WOk K W->ycm K W x v->p x lo hi W.h=some (d,h')->ynA K W d h' Q->r v lo hi W.H Q
theorem yvD {r} {p} {ta:TE}{ea:XE}{tl th:TO}{el eh} (o:ypn K r p) (a:yby K ta ea) (b:yxt K tl el) (c:yxt K th eh):ykT K (tSl r ta tl th) (yBi p ea el eh):=by
 intro W0 W ρ σ Q z h' g e q
 obtain ⟨x,h1,e1,f1⟩:=yg e
 obtain ⟨l,h2,e2,f2⟩:=yg f1
 obtain ⟨u,h3,e3,f3⟩:=yg f2
 refine a W0 W ρ σ _ x h1 g e1 fun v W1 w1 l1 r1=>?_
 subst w1
 refine b W0 W1 ρ σ _ l h2 (g.step l1) e2 fun W2 w2 l2=>?_
 subst w2
 refine c W0 W2 ρ σ _ u h3 (g.step (l1.trans l2)) e3 fun W3 w3 l3=>?_
 subst w3
 exact o W3 x v l u Q z h' l3.ok ((l2.trans l3).rep r1) f3 (yfS (l1.trans (l2.trans l3)) q)
end PX
namespace PX
open PySem L2
variable {K:Ck}
def yG:XS:=fun ρ h=>some (.nx ρ,h)
def yo (s u:XS):XS:=fun ρ h=>ob (s ρ h) fun o h1=>match o with|.nx ρ'=>u ρ' h1|.rt x=>some (.rt x,h1)|.bk ρ'=>some (.bk ρ',h1)|.ct ρ'=>some (.ct ρ',h1)
def ycV (e:XE):XS:=fun ρ h=>ob (e ρ h) fun _ h1=>some (.nx ρ,h1)
def yN (e:XE):XS:=fun ρ h=>ob (e ρ h) fun x h1=>some (.rt x,h1)
def ybx (c:XT) (s u:XS):XS:=fun ρ h=>ob (c ρ h) fun k h1=>if k=true then s ρ h1 else u ρ h1
abbrev XG:=PV->PSt->Option PSt
abbrev XGs:=List PV->PSt->Option PSt
def yy (i:Nat):XG:=fun x ρ=>some (ρ.set i (.val x))
def yFf (n:Nat) (g:XGs):XG:=fun x ρ=>match x with|.tup xs=>if xs.length=n then g xs ρ else none|_=>none
def yca (e:XE) (g:XG):XS:=fun ρ h=>ob (e ρ h) fun x h1=>(g x ρ).bind fun ρ'=>some (.nx ρ',h1)
def ynD (e:XO) (i:Nat):XS:=fun ρ h=>ob (e ρ h) fun d h1=>some (.nx (ρ.set i (.own d)),h1)
def yrW:PVar->PVar
 | .own (.lst xs)=>.val (.lst xs)
 | .own (.ins k ns xs)=>.val (.ins k ns xs)
 | v=>v
def ylC (i:Nat) (ρ:PSt):PSt:=ρ.modify i yrW
def yxu (i:Nat) (s:XS):XS:=fun ρ h=>s (ylC i ρ) h
def ylD (i:Nat) (e:XE):XS:=fun ρ h=>match ρ[i]? with
 | some (.own (.lst xs))=>ob (e ρ h) fun x h1=>if xs.length<100000 then some (.nx (ρ.set i (.own (.lst (xs++[x])))),h1) else none
 | _=>none
def yhB (g:XG) (s:XS):List PV->PSt->AH->Option (Out×AH)
 | [],ρ,h=>some (.nx ρ,h)
 | x::xs,ρ,h=>(g x ρ).bind fun ρ1=>ob (s ρ1 h) fun o h1=>match o with|.nx ρ'=>yhB g s xs ρ' h1|.ct ρ'=>yhB g s xs ρ' h1|.bk ρ'=>some (.nx ρ',h1)|.rt y=>some (.rt y,h1)
def ynE (it:XA) (g:XG) (s:XS):XS:=fun ρ h=>ob (it ρ h) fun xs h1=>yhB g s xs ρ h1
def whl (c:XT) (s:XS):Nat->PSt->AH->Option (Out×AH)
 | 0,_,_=>none
 | n+1,ρ,h=>ob (c ρ h) fun k h1=>if k=true then ob (s ρ h1) fun o h2=>(match o with|.nx ρ'=>whl c s n ρ' h2|.ct ρ'=>whl c s n ρ' h2|.bk ρ'=>some (.nx ρ',h2)|.rt y=>some (.rt y,h2)) else some (.nx ρ,h1)
def yhW (fuel:Nat) (c:XT) (s:XS):XS:=fun ρ h=>whl c s fuel ρ h
def ybw (N:Nat) (s:XS):Fn:=fun xs h=>ob (s (xs.map .val++replicate (N-xs.length) .no) h) fun o h1=>match o with|.rt x=>some (x,h1)|.nx _=>some (.non,h1)|_=>none
def ypo (ρ:PSt) (i:Nat):PVar:=match ρ[i]? with|some (.val y)=>.val y|_=>.no
def yeE (ix:List Nat) (ρ:PSt) (x:PV):PSt:=.val x::ix.map (ypo ρ)
def ygn (e:XE) (inn:PV->PSt):List PV->AH->Option (List PV×AH)
 | [],h=>some ([],h)
 | x::xs,h=>ob (e (inn x) h) fun y h1=>ob (ygn e inn xs h1) fun ys h2=>some (y::ys,h2)
def yel (it:XA) (ix:List Nat) (e:XE):XO:=fun ρ h=>ob (it ρ h) fun xs h1=>if xs.length<=100000 then ob (ygn e (yeE ix ρ) xs h1) fun ys h2=>some (.lst ys,h2) else none
theorem Ends.Ok.from_ {W0 W W1:Wd}{D:Ends}{h':AH}{o:Out}(l:Lf K W W1) (k:Ends.Ok K W0 W D h' o):Ends.Ok K W0 W1 D h' o:=by
 cases o with
 | nx ρ=>exact fun W' σ' e l' g=>k W' σ' e (l.trans l') g
 | bk ρ=>exact fun W' σ' e l' g=>k W' σ' e (l.trans l') g
 | ct ρ=>exact fun W' σ' e l' g=>k W' σ' e (l.trans l') g
 | rt x=>exact k
section
variable {ta tb:TE}{ea eb:XE}{t u:TS}{s s':XS}{tA:TT}{eA:XT}
theorem yrX:yeS K yxZ yG:=by
 intro W0 W ρ σ D o h' g e q
 cases e
 exact q W σ rfl .refl g
theorem yvE (a:yeS K t s) (b:yeS K u s'):yeS K (yBA t u) (yo s s'):=by
 intro W0 W ρ σ D o h' g e q
 obtain ⟨o1,h1,e1,f1⟩:=yg e
 refine a W0 W ρ σ _ o1 h1 g e1 ?_
 cases o1 with
 | nx ρ'=>exact fun W' σ' w l g'=>b W0 W' ρ' σ' D o h' g' (by rw [w];exact f1) (q.from_ l)
 | rt x=>cases f1;exact q
 | bk ρ'=>cases f1;exact q
 | ct ρ'=>cases f1;exact q
theorem yrY (a:yby K ta ea):yeS K (yov ta) (ycV ea):=by
 intro W0 W ρ σ D o h' g e q
 obtain ⟨x,h1,e1,f1⟩:=yg e
 cases f1
 exact a W0 W ρ σ _ x _ g e1 fun v W1 w1 l1 r1=>q W1 σ w1 l1.lf (g.step l1)
theorem yvF (a:yby K ta ea):yeS K (yDH ta) (yN ea):=by
 intro W0 W ρ σ D o h' g e q
 obtain ⟨x,h1,e1,f1⟩:=yg e
 cases f1
 exact a W0 W ρ σ _ x _ g e1 fun v W1 w1 l1 r1=>q W1 v w1 (g.le.trans l1) r1
theorem yvG (c:ykR K tA eA) (a:yeS K t s) (b:yeS K u s'):yeS K (yDI tA t u) (ybx eA s s'):=by
 intro W0 W ρ σ D o h' g e q
 obtain ⟨k,h1,e1,f1⟩:=yg e
 refine c W0 W ρ σ _ k h1 g e1 fun W1 w1 l1=>?_
 subst w1
 cases k with
 | true =>
  rw [if_pos rfl] at f1 ⊢
  exact a W0 W1 ρ σ D o h' (g.step l1) f1 (q.from_ l1.lf)
 | false =>
  rw [if_neg (by decide)] at f1 ⊢
  exact b W0 W1 ρ σ D o h' (g.step l1) f1 (q.from_ l1.lf)
theorem Good.set {W0 W:Wd}{ρ:PSt}{σ:St}(g:Good K W0 W ρ σ) (i:Nat) {x:PV}{v:V}(r:ycm K W x v):Good K W0 W (ρ.set i (.val x)) (σ.set i (some v)) where
 le:=g.le
 len:=by simp [g.len]
 val:=fun j y e=>by
  by_cases hj:i=j
  .subst hj
   by_cases hl:i<ρ.length
   .rw [getElem?_set_self hl] at e
    cases e
    exact ⟨v,getElem?_set_self (by rw [g.len];exact hl),r⟩
   .rw [getElem?_eq_none (by simp;omega)] at e;cases e
  .rw [getElem?_set_ne hj] at e
   obtain ⟨w,h1,h2⟩:=g.val j y e
   exact ⟨w,by rw [getElem?_set_ne hj];exact h1,h2⟩
 own:=fun j d e=>by
  by_cases hj:i=j
  .subst hj
   by_cases hl:i<ρ.length
   .rw [getElem?_set_self hl] at e;cases e
   .rw [getElem?_eq_none (by simp;omega)] at e;cases e
  .rw [getElem?_set_ne hj] at e
   obtain ⟨p,h1,h2⟩:=g.own j d e
   exact ⟨p,by rw [getElem?_set_ne hj];exact h1,h2⟩
 ne:=fun j k d d' hjk e1 e2=>by
  have f:∀ {j:Nat}{d:Nd},(ρ.set i (.val x))[j]?=some (.own d)->i≠j/\ρ[j]?=some (.own d):=fun {j d} e=>by
   by_cases hj:i=j
   .subst hj
    by_cases hl:i<ρ.length
    .rw [getElem?_set_self hl] at e;cases e
    .rw [getElem?_eq_none (by simp;omega)] at e;cases e
   .rw [getElem?_set_ne hj] at e;exact ⟨hj,e⟩
  obtain ⟨a1,a2⟩:=f e1
  obtain ⟨b1,b2⟩:=f e2
  rw [getElem?_set_ne a1,getElem?_set_ne b1]
  exact g.ne j k d d' hjk a2 b2
theorem Good.setO {W0 W:Wd}{ρ:PSt}{σ:St}(g:Good K W0 W ρ σ) (i:Nat) {d:Nd}{p:Addr}(hm:p∉W.m) (h0:W0.H p=none) (hd:d≠.dead) (at_:NdAt K W.F W.H W.m d p)
  (ne:∀ j d',i≠j->ρ[j]?=some (.own d')->σ[j]?≠some (some (.ref p))):Good K W0 W (ρ.set i (.own d)) (σ.set i (some (.ref p))) where
 le:=g.le
 len:=by simp [g.len]
 val:=fun j y e=>by
  by_cases hj:i=j
  .subst hj
   by_cases hl:i<ρ.length
   .rw [getElem?_set_self hl] at e;cases e
   .rw [getElem?_eq_none (by simp;omega)] at e;cases e
  .rw [getElem?_set_ne hj] at e
   obtain ⟨w,h1,h2⟩:=g.val j y e
   exact ⟨w,by rw [getElem?_set_ne hj];exact h1,h2⟩
 own:=fun j d' e=>by
  by_cases hj:i=j
  .subst hj
   by_cases hl:i<ρ.length
   .rw [getElem?_set_self hl] at e
    cases e
    exact ⟨p,getElem?_set_self (by rw [g.len];exact hl),hm,h0,hd,at_⟩
   .rw [getElem?_eq_none (by simp;omega)] at e;cases e
  .rw [getElem?_set_ne hj] at e
   obtain ⟨p,h1,h2⟩:=g.own j d' e
   exact ⟨p,by rw [getElem?_set_ne hj];exact h1,h2⟩
 ne:=fun j k d1 d2 hjk e1 e2=>by
  have self:∀ {j:Nat}{d':Nd},i=j->(ρ.set i (.own d))[j]?=some (.own d')->(σ.set i (some (.ref p)))[j]?=some (some (.ref p)):=fun {j d'} hj e=>by
   subst hj
   by_cases hl:i<ρ.length
   .exact getElem?_set_self (by rw [g.len];exact hl)
   .rw [getElem?_eq_none (by simp;omega)] at e;cases e
  by_cases hj:i=j
  .have hk:i≠k:=fun z=>hjk (hj.symm.trans z)
   rw [self hj e1,getElem?_set_ne hk]
   rw [getElem?_set_ne hk] at e2
   exact (ne k d2 hk e2).symm
  .rw [getElem?_set_ne hj]
   rw [getElem?_set_ne hj] at e1
   by_cases hk:i=k
   .rw [self hk e2]
    exact ne j d1 hj e1
   .rw [getElem?_set_ne hk] at e2 ⊢
    exact g.ne j k d1 d2 hjk e1 e2
noncomputable def ytZ (K:Ck) (g:TG) (y:XG):Prop:=∀ (W0 W:Wd) (ρ ρ':PSt) (σ:St) (x:PV) (v:V) (Q:St->Hp->Prop),Good K W0 W ρ σ->ycm K W x v->y x ρ=some ρ'->(∀ σ',Good K W0 W ρ' σ'->Q σ' W.H)->g v σ W.H Q
theorem yft (i:Nat):ytZ K (ynm i) (yy i):=by
 intro W0 W ρ ρ' σ x v Q g r e q
 cases e
 exact q _ (g.set i r)
theorem ylE {g:TG}{y:XG}(a:yby K ta ea) (b:ytZ K g y):yeS K (ytJ ta g) (yca ea y):=by
 intro W0 W ρ σ D o h' gd e q
 obtain ⟨x,h1,e1,f1⟩:=yg e
 obtain ⟨ρ',e2,f2⟩:=Option.bind_eq_some_iff.mp f1
 cases f2
 exact a W0 W ρ σ _ x _ gd e1 fun v W1 w1 l1 r1=>b W0 W1 ρ ρ' σ x v _ (gd.step l1) r1 e2 fun σ' g'=>q W1 σ' w1 l1.lf g'
theorem yrZ {o:XO}(i:Nat) (a:ykT K ta o):yeS K (ytJ ta (ynm i)) (ynD o i):=by
 intro W0 W ρ σ D o h' gd e q
 obtain ⟨d,h1,e1,f1⟩:=yg e
 cases f1
 refine a W0 W ρ σ _ d _ gd e1 fun p W1 w1 l1 hm hn hd at_=>q W1 _ w1 l1.lf ((gd.step l1).setO i hm (gd.le.fresh hn) hd at_ fun j d' hj e hs=>?_)
 obtain ⟨p',h1,h2,_,_,h5⟩:=gd.own j d' e
 rw [h1] at hs
 cases hs
 obtain ⟨o,ho⟩:=h5.some
 rw [hn] at ho;cases ho
theorem Good.frz {W0 W:Wd}{ρ:PSt}{σ:St}(g:Good K W0 W ρ σ) (i:Nat):∃ W',W'.h=W.h/\W'.H=W.H/\Lf K W W'/\Good K W0 W' (ylC i ρ) σ:=by
 unfold ylC
 cases e:ρ[i]? with
 | none=>exact ⟨W,rfl,rfl,.refl,by rw [List.modify_eq_self (by simpa using e)];exact g⟩
 | some v =>
  have hl:i<ρ.length:=(List.getElem?_eq_some_iff.mp e).1
  have em:ρ.modify i yrW=ρ.set i (yrW v):=by
   apply List.ext_getElem?
   intro j
   rw [List.getElem?_modify,List.getElem?_set]
   by_cases hj:i=j
   .subst hj
    obtain ⟨_,ev⟩:=List.getElem?_eq_some_iff.mp e
    simp [hl,ev]
   .simp [hj]
  have same:yrW v=v->∃ W',W'.h=W.h/\W'.H=W.H/\Lf K W W'/\Good K W0 W' (ρ.modify i yrW) σ:=fun z=>⟨W,rfl,rfl,.refl,by
   rw [em,z]
   have:ρ.set i v=ρ:=by
    apply List.ext_getElem?
    intro j
    by_cases hj:i=j
    .subst hj;rw [getElem?_set_self hl,e]
    .rw [getElem?_set_ne hj]
   rw [this];exact g⟩
  have go:∀ (d:Nd) (x:PV) (p:Addr) (o:HO),v=.own d->yrW v=.val x->σ[i]?=some (some (.ref p))->p∉W.m->W0.H p=none->W.H p=some o->W.F p=none->(∀ (F':Hp),Same W.F F'->F' p=some o->Rep K F' W.m x (.ref p)) ->
    ∃ W',W'.h=W.h/\W'.H=W.H/\Lf K W W'/\Good K W0 W' (ρ.modify i yrW) σ:=fun d x p o hv hx hs hm h0 hp hf hr=>by
   obtain ⟨k,sF⟩:=ypl (K:=K) g.ok hp hm hf
   have lf:Lf K W (yrS W p o):=⟨sF,prefix_refl _,fun _ _ _ e=>⟨e,fun _ _=>rfl⟩⟩
   refine ⟨yrS W p o,rfl,rfl,lf,⟨ylA g.le hp hm hf h0,by rw [List.length_modify];exact g.len,fun j y e'=>?_,fun j d' e'=>?_,fun j1 j2 d1 d2 hj e1 e2=>?_⟩⟩
   .rw [em,hx] at e'
    by_cases hj:i=j
    .subst hj
     rw [getElem?_set_self hl] at e'
     cases e'
     exact ⟨_,hs,hr _ sF yr⟩
    .rw [getElem?_set_ne hj] at e'
     obtain ⟨w,a1,a2⟩:=g.val j y e'
     exact ⟨w,a1,lf.rep a2⟩
   .rw [em,hx] at e'
    by_cases hj:i=j
    .subst hj
     rw [getElem?_set_self hl] at e'
     cases e'
    .rw [getElem?_set_ne hj] at e'
     obtain ⟨q,a1,a2,a3,a4,a5⟩:=g.own j d' e'
     have hq:q≠p:=fun z=>g.ne j i d' d (fun z=>hj z.symm) e' (hv ▸ e) (by rw [a1,hs,z])
     exact ⟨q,a1,a2,a3,a4,a5.mono sF (prefix_refl _) (fun _ e=>e) fun f=>(yu hq).trans f⟩
   .rw [em,hx] at e1 e2
    have f:∀ {j:Nat}{d:Nd},(ρ.set i (.val x))[j]?=some (.own d)->ρ[j]?=some (.own d):=fun {j d} e=>by
     by_cases hj:i=j
     .subst hj;rw [getElem?_set_self hl] at e;cases e
     .rw [getElem?_set_ne hj] at e;exact e
    exact g.ne j1 j2 d1 d2 hj (f e1) (f e2)
  cases v with
  | no=>exact same rfl
  | val x=>exact same rfl
  | own d =>
   obtain ⟨p,a1,a2,a3,a4,a5⟩:=g.own i d e
   cases d with
   | lst xs =>
    obtain ⟨hf,vs,hp,r⟩:=a5
    exact go _ (.lst xs) p _ rfl rfl a1 a2 a3 hp hf fun F' s hF=>⟨p,vs,rfl,hF,RepL.mono s (prefix_refl _) _ _ r⟩
   | dct ks xs=>exact same rfl
   | fz ks xs=>exact same rfl
   | ins k ns xs =>
    obtain ⟨hf,dx,vs,hp,hl,r⟩:=a5
    exact go _ (.ins k ns xs) p _ rfl rfl a1 a2 a3 hp hf fun F' s hF=>⟨p,dx,vs,rfl,hF,hl,RepL.mono s (prefix_refl _) _ _ r⟩
   | dead=>exact same rfl
theorem yvH (i:Nat) (a:yeS K t s):yeS K t (yxu i s):=by
 intro W0 W ρ σ D o h' g e q
 obtain ⟨W',e1,e2,l,g'⟩:=g.frz i
 rw [<- e2]
 exact a W0 W' _ σ D o h' g' (by rw [e1];exact e) (q.from_ l)
end
end PX
namespace PX
open PySem L2
variable {K:Ck}
section
variable {ta tb:TE}{ea eb:XE}{t u:TS}{s s':XS}{tA:TT}{eA:XT}
def ypp (W:Wd) (p:Addr) (o:HO):Wd:=⟨W.F,upd W.H p o,W.m,W.h⟩
theorem yvI {W:Wd}{p:Addr}{o:HO}(w:WOk K W) (hm:p∉W.m) (hf:W.F p=none):WOk K (ypp W p o):=by
 refine ⟨fun b u e=>?_,w.len,w.nd,fun n d a e1 e2=>?_⟩
 .have:b≠p:=ybb e hf
  exact (yu this).trans (w.le _ _ e)
 .have ha:a≠p:=fun z=>hm (z ▸ mem_of_getElem? e2)
  exact (w.at_ n d a e1 e2).mono (Same.refl _) (prefix_refl _) (fun u e=>(yu ha).trans e) id
theorem ygL {W W1:Wd}{p:Addr}{o:HO}(l:Le K W W1) (hm:p∉W1.m) (hf:W1.F p=none) (hn:W.H p=none):Le K W (ypp W1 p o) :=
 ⟨yvI l.ok hm hf,l.fs,l.pre,fun b u e n=>(yu (ybb e hn)).trans (l.keep b u e n),l.new,l.mn,fun n ks xs e1=>⟨(l.fz n ks xs e1).1,fun a e2=>(yu (fun (z:a=p)=>hm (z ▸ mem_of_getElem? (ydT l.pre e2)))).trans ((l.fz n ks xs e1).2 a e2)⟩⟩
theorem ypq {W W1:Wd}{p:Addr}{o:HO}(l:Le K W W1) (hm:p∉W1.m):Lf K W (ypp W1 p o) :=
 ⟨l.fs,l.pre,fun n ks xs e1=>⟨(l.fz n ks xs e1).1,fun a e2=>(yu (fun (z:a=p)=>hm (z ▸ mem_of_getElem? (ydT l.pre e2)))).trans ((l.fz n ks xs e1).2 a e2)⟩⟩
theorem Good.mut {W0 W:Wd}{ρ:PSt}{σ:St}(g:Good K W0 W ρ σ) {i:Nat}{d d':Nd}{p:Addr}{o:HO}(e:ρ[i]?=some (.own d)) (hs:σ[i]?=some (some (.ref p))) (hm:p∉W.m) (h0:W0.H p=none) (hf:W.F p=none) (hd:d'≠.dead)
  (at_:NdAt K W.F (upd W.H p o) W.m d' p):Good K W0 (ypp W p o) (ρ.set i (.own d')) σ:=by
 have hl:i<ρ.length:=(List.getElem?_eq_some_iff.mp e).1
 refine ⟨ygL g.le hm hf h0,by rw [length_set];exact g.len,fun j y e'=>?_,fun j d1 e'=>?_,fun j1 j2 d1 d2 hj e1 e2=>?_⟩
 .by_cases hj:i=j
  .subst hj;rw [getElem?_set_self hl] at e';cases e'
  .rw [getElem?_set_ne hj] at e';exact g.val j y e'
 .by_cases hj:i=j
  .subst hj;rw [getElem?_set_self hl] at e';cases e';exact ⟨p,hs,hm,h0,hd,at_⟩
  .rw [getElem?_set_ne hj] at e'
   obtain ⟨q,a1,a2,a3,a4,a5⟩:=g.own j d1 e'
   have hq:q≠p:=fun z=>g.ne j i d1 d (fun z=>hj z.symm) e' e (by rw [a1,hs,z])
   exact ⟨q,a1,a2,a3,a4,a5.mono (Same.refl _) (prefix_refl _) (fun u e=>(yu hq).trans e) id⟩
 .have f:∀ {j:Nat}{d1:Nd},(ρ.set i (.own d'))[j]?=some (.own d1)->∃ d2,ρ[j]?=some (.own d2):=fun {j d1} e'=>by
   by_cases hj:i=j
   .subst hj;exact ⟨d,e⟩
   .rw [getElem?_set_ne hj] at e';exact ⟨_,e'⟩
  obtain ⟨_,f1⟩:=f e1
  obtain ⟨_,f2⟩:=f e2
  exact g.ne j1 j2 _ _ hj f1 f2
theorem big {n:Nat}(h:n<100000):n<sizeLine:=lt_of_lt_of_le h (by decide)
theorem yua {n:Nat}(h:n<=100000):n<=sizeLine:=Nat.le_trans h (by decide)
theorem ysa (i:Nat) (a:yby K ta ea):yeS K (yov (tBM K.K "list" ylg (yol i) (ylb ta ytQ))) (ylD i ea):=by
 intro W0 W ρ σ D o h' g e q
 unfold ylD at e
 split at e
 .rename_i xs0 hx
  obtain ⟨x,h1,e1,f1⟩:=yg e
  split at f1
  .rename_i hlen
   cases f1
   obtain ⟨p,a1,a2,a3,a4,hf,vs,hp,r⟩:=g.own i _ hx
   refine ⟨.ref p,a1,.inl ⟨rfl,_,SqL.of hp⟩,?_⟩
   refine a W0 W ρ σ _ x _ g e1 fun v W1 w1 l1 r1=>⟨p,vs,v,rfl,rfl,l1.keep _ _ hp a2,by rw [r.len];exact big hlen,?_⟩
   have g1:=g.step l1
   obtain ⟨p',b1,b2,b3,b4,b5,vs',b6,b7⟩:=g1.own i _ hx
   rw [a1] at b1
   cases b1
   rw [l1.keep _ _ hp a2] at b6
   cases b6
   exact q (ypp W1 p (.lst (vs++[v]))) σ w1 (ypq l1 b2) (g1.mut hx a1 b2 b3 b5 (fun z=>by cases z) ⟨b5,_,yr,b7.snoc r1⟩)
  .cases f1
 .cases e
structure yCb (K:Ck) (W:Wd) (J:It) (xs:List PV):Prop where
 go:∀ (i:Nat) (W':Wd),Lf K W W'->WOk K W'->i<xs.length->J.go i W'.H
 yld:∀ (i:Nat) (W':Wd) (v:V) (H2:Hp),Lf K W W'->WOk K W'->i<xs.length->J.yld i W'.H v H2->H2=W'.H/\∃ x,xs[i]?=some x/\ycm K W' x v
 stop:∀ (W':Wd),Lf K W W'->WOk K W'->J.stop xs.length W'.H
noncomputable def yvJ (K:Ck) (wi:TI) (e:XA):Prop:=∀ (W0 W:Wd) (ρ:PSt) (σ:St) (R:It->Hp->Prop) (xs:List PV) (h':AH),Good K W0 W ρ σ->e ρ W.h=some (xs,h')->(∀ J W',W'.h=h'->Le K W W'->yCb K W' J xs->R J W'.H)->wi σ W.H R
def xIL (e:XE):XA:=fun ρ h=>ob (e ρ h) fun x h1=>match x with|.lst xs=>some (xs,h1)|.scr ns=>some (ns.map .int,h1)|_=>none
def sgn (c:Nat):PV:=.str ⟨#[c]⟩
def xIS (e:XE):XA:=fun ρ h=>ob (e ρ h) fun x h1=>match x with|.str z=>if z.length<=100000 then some (z.cps.toList.map sgn,h1) else none|_=>none
def yhG (lo:Int) (n:Nat):List PV:=(List.range n).map fun (k:Nat)=>.int (lo+(k:Int))
def ynF (a:XA):XA:=fun ρ h=>ob (a ρ h) fun xs h1=>match xs with|[.int j]=>if -1000000000<=j/\j<=1000000000 then some (yhG 0 j.toNat,h1) else none|_=>none
theorem yeY {W:Wd}(w:WOk K W) {a:Addr}{vs:List V}(h:SqL K.K W.F a vs):SqL K.K W.H a vs:=Same.seq w.le h
theorem ydk {W:Wd}(w:WOk K W) {a:Addr}{vs:List V}(h:TpAt K.K W.F a vs):SqT K.K W.H a vs:=h.elim (fun h=>SqT.of (w.le _ _ h)) .inr
theorem ypr (a:yby K ta ea):yvJ K (yrv K.K ta) (xIL ea):=by
 intro W0 W ρ σ R xs h' g e q
 obtain ⟨x,h1,e1,f1⟩:=yg e
 refine a W0 W ρ σ _ x h1 g e1 fun v W1 w1 l1 r1=>?_
 have key:∀ (a:Addr) (vs:List V),v=.ref a->SqL K.K W1.F a vs->RepL K W1.F W1.m xs vs->h1=h'->∃ a,v=.ref a/\(∃ xs,SqL K.K W1.H a xs)/\R (Itl K.K a) W1.H:=fun a vs ev hs rs eh=>by
  subst eh
  refine ⟨a,ev,⟨vs,yeY l1.ok hs⟩,q _ W1 w1 l1 ⟨fun i W' l w hi=>?_,fun i W' v' H2 l w hi hy=>?_,fun W' l w=>?_⟩⟩
  .obtain ⟨v',h1,_⟩:=rs.get (List.getElem?_eq_getElem hi)
   exact ⟨vs,v',yeY w (Same.seq l.fs hs),h1⟩
  .obtain ⟨h1,h2⟩:=hy
   have:=h2 vs (yeY w (Same.seq l.fs hs))
   obtain ⟨x,h3,h4⟩:=rs.get' this
   exact ⟨h1,x,h3,l.rep h4⟩
  .exact ⟨vs,yeY w (Same.seq l.fs hs),by rw [rs.len];exact Nat.le_refl _⟩
 split at f1
 .cases f1
  obtain ⟨a,vs,ev,hs,rs⟩:=r1
  exact key a vs ev (SqL.of hs) rs rfl
 .rename_i ns
  cases f1
  obtain ⟨a,ev,hs⟩:=r1
  exact key a _ ev hs (RepL.of_ints ns) rfl
 .cases f1
theorem ysb (a:yby K ta ea):yvJ K (yEa ta) (xIS ea):=by
 intro W0 W ρ σ R xs h' g e q
 obtain ⟨x,h1,e1,f1⟩:=yg e
 refine a W0 W ρ σ _ x h1 g e1 fun v W1 w1 l1 r1=>?_
 split at f1
 .rename_i z
  split at f1
  .rename_i hz
   cases f1
   have hl:z.length=z.cps.toList.length:=by simp [Str.length]
   refine ⟨z,r1,yua hz,q _ W1 w1 l1 ⟨fun i W' l w hi=>?_,fun i W' v' H2 l w hi hy=>?_,fun W' l w=>?_⟩⟩
   .show i<z.length
    rw [hl];simpa using hi
   .obtain ⟨h1,c,h2,h3⟩:=hy
    exact ⟨h1,sgn c,by rw [getElem?_map,h2];rfl,h3⟩
   .show _=z.length
    rw [hl];simp
  .cases f1
 .cases f1
theorem yyF (W:Wd) (lo:Int) (n:Nat):yCb K W (Itr lo n) (yhG lo n):=by
 refine ⟨fun i W' l w hi=>?_,fun i W' v' H2 l w hi hy=>?_,fun W' l w=>?_⟩
 .show i<n
  simpa [yhG] using hi
 .obtain ⟨h1,h2⟩:=hy
  have hi:i<n:=by simpa [yhG] using hi
  exact ⟨h1,.int (lo+(i:Int)),by simp [yhG,hi],h2⟩
 .show n<=_
  simp [yhG]
theorem yps {t:TA}{e:XA}(a:ykS K t e):yvJ K (yyd t) (ynF e):=by
 intro W0 W ρ σ R xs h' g e q
 obtain ⟨ys,h1,e1,f1⟩:=yg e
 split at f1
 .rename_i j
  split at f1
  .rename_i hj
   cases f1
   refine a W0 W ρ σ _ _ _ g e1 fun vs W1 w1 l1 r1=>?_
   obtain ⟨v,r,rfl,rv,rr⟩:=r1
   obtain rfl:r=[]:=rr
   exact ⟨j,by rw [show v=.int j from rv],by omega,by omega,q _ W1 w1 l1 (yyF W1 0 _)⟩
  .cases f1
 .cases f1
theorem yvK {wi:TI}{it:XA}{g:TG}{y:XG}(a:yvJ K wi it) (b:ytZ K g y) (c:yeS K t s):yeS K (yBh wi g t) (ynE it y s):=by
 intro W0 W ρ σ D o h' gd e q
 obtain ⟨xs,h1,e1,f1⟩:=yg e
 refine a W0 W ρ σ _ xs h1 gd e1 fun J W1 w1 l1 J1=>?_
 subst w1
 have q1:=q.from_ l1.lf
 refine ⟨fun i m σ H=>m=xs.length-i/\i<=xs.length/\∃ W' ρ',W'.H=H/\Lf K W1 W'/\Good K W0 W' ρ' σ/\yhB y s (xs.drop i) ρ' W'.h=some (o,h'),⟨_,rfl,zero_le _,W1,ρ,rfl,.refl,gd.step l1,by simpa using f1⟩,?_⟩
 rintro i m σ _ ⟨rfl,hi,W',ρ',rfl,l,g',f⟩
 by_cases hlt:i<xs.length
 .rw [List.drop_eq_getElem_cons hlt] at f
  obtain ⟨ρ1,k1,f⟩:=Option.bind_eq_some_iff.mp f
  obtain ⟨o1,h2,k2,f3⟩:=yg f
  refine .inr ⟨J1.go i W' l g'.ok hlt,fun σ2 H2=>i+1<=xs.length/\∃ W2 ρ2,W2.H=H2/\Lf K W1 W2/\Good K W0 W2 ρ2 σ2/\yhB y s (xs.drop (i+1)) ρ2 W2.h=some (o,h'),fun σ2 H2 ⟨n1,n2⟩=>⟨xs.length-(i+1),by omega,rfl,n1,n2⟩,fun v H2 hy=>?_⟩
  obtain ⟨rfl,x,hx,rx⟩:=J1.yld i W' v H2 l g'.ok hlt hy
  rw [List.getElem?_eq_getElem hlt] at hx
  cases hx
  refine b W0 W' ρ' ρ1 σ _ v _ g' rx k1 fun σ2 g2=>?_
  refine c W0 W' ρ1 σ2 _ o1 h2 g2 k2 ?_
  cases o1 with
  | nx ρ2=>exact fun W2 σ3 w2 l2 g3=>⟨hlt,W2,ρ2,rfl,l.trans l2,g3,by rw [w2];exact f3⟩
  | ct ρ2=>exact fun W2 σ3 w2 l2 g3=>⟨hlt,W2,ρ2,rfl,l.trans l2,g3,by rw [w2];exact f3⟩
  | bk ρ2=>cases f3;exact fun W2 σ3 w2 l2 g3=>q1 W2 σ3 w2 (l.trans l2) g3
  | rt x=>cases f3;exact q1
 .have ei:i=xs.length:=by omega
  subst ei
  refine .inl ⟨J1.stop W' l g'.ok,?_⟩
  rw [List.drop_length] at f
  cases f
  exact q1 W' σ rfl l g'
theorem ypt (n:Nat) (c:ykR K tA eA) (a:yeS K t s):yeS K (ytK tA t) (yhW n eA s):=by
 intro W0 W ρ σ D o h' gd e q
 refine ⟨fun m σ H=>∃ W' ρ',W'.H=H/\Lf K W W'/\Good K W0 W' ρ' σ/\whl eA s m ρ' W'.h=some (o,h'),⟨n,W,ρ,rfl,.refl,gd,e⟩,?_⟩
 rintro m σ _ ⟨W',ρ',rfl,l,g',f⟩
 cases m with
 | zero=>cases f
 | succ m =>
  obtain ⟨k,h1,e1,f1⟩:=yg f
  refine c W0 W' ρ' σ _ k h1 g' e1 fun W1 w1 l1=>?_
  subst w1
  cases k with
  | false =>
   rw [if_neg (by decide)] at f1 ⊢
   cases f1
   exact q W1 σ rfl (l.trans l1.lf) (g'.step l1)
  | true =>
   rw [if_pos rfl] at f1 ⊢
   obtain ⟨o1,h2,k2,f3⟩:=yg f1
   refine ⟨fun σ2 H2=>∃ W2 ρ2,W2.H=H2/\Lf K W W2/\Good K W0 W2 ρ2 σ2/\whl eA s m ρ2 W2.h=some (o,h'),fun σ2 H2 z=>⟨m,Nat.lt_succ_self _,z⟩,?_⟩
   refine a W0 W1 ρ' σ _ o1 h2 (g'.step l1) k2 ?_
   have l':=l.trans l1.lf
   cases o1 with
   | nx ρ2=>exact fun W2 σ3 w2 l2 g3=>⟨W2,ρ2,rfl,l'.trans l2,g3,by rw [w2];exact f3⟩
   | ct ρ2=>exact fun W2 σ3 w2 l2 g3=>⟨W2,ρ2,rfl,l'.trans l2,g3,by rw [w2];exact f3⟩
   | bk ρ2=>cases f3;exact fun W2 σ3 w2 l2 g3=>q W2 σ3 w2 (l'.trans l2) g3
   | rt x=>cases f3;exact q
theorem ylF {e:XE}{inn:PV->PSt}:∀ {xs:List PV}{h:AH}{ys:List PV}{h':AH},ygn e inn xs h=some (ys,h')->ys.length=xs.length
 | [],_,_,_,e=>by cases e;rfl
 | x::xs,_,_,_,e=>by
  obtain ⟨y,h1,e1,f1⟩:=yg e
  obtain ⟨ys,h2,e2,f2⟩:=yg f1
  cases f2
  rw [length_cons,length_cons,ylF e2]
theorem yiE {W0 W W':Wd}{ρ:PSt}{σ:St}(g:Good K W0 W ρ σ) (l:Le K W W') (ix:List Nat) {x:PV}{v:V}(r:ycm K W' x v):Good K W' W' (yeE ix ρ x) (inner ix σ v) where
 le:=.refl l.ok
 len:=by simp [yeE,inner]
 val:=fun j y e=>by
  cases j with
  | zero=>simp [yeE] at e;subst e;exact ⟨v,rfl,r⟩
  | succ j =>
   have e:(ix.map (ypo ρ))[j]?=some (.val y):=e
   rw [getElem?_map] at e
   cases ei:ix[j]? with
   | none=>rw [ei] at e;cases e
   | some i =>
    rw [ei] at e
    have e:ypo ρ i=.val y:=Option.some.inj e
    unfold ypo at e
    split at e
    .rename_i z hz
     cases e
     obtain ⟨w,h1,h2⟩:=g.val i _ hz
     exact ⟨w,by show (ix.map fun i=>(σ[i]?).getD none)[j]?=_;rw [getElem?_map,ei];simp [h1],l.rep h2⟩
    .cases e
 own:=fun j d e=>by
  cases j with
  | zero=>simp [yeE] at e
  | succ j =>
   have e:(ix.map (ypo ρ))[j]?=some (.own d):=e
   rw [getElem?_map] at e
   cases ei:ix[j]? with
   | none=>rw [ei] at e;cases e
   | some i =>
    rw [ei] at e
    have e:ypo ρ i=.own d:=Option.some.inj e
    unfold ypo at e
    split at e<;>cases e
 ne:=fun j k d d' _ e _=>by
  cases j with
  | zero=>simp [yeE] at e
  | succ j =>
   have e:(ix.map (ypo ρ))[j]?=some (.own d):=e
   rw [getElem?_map] at e
   cases ei:ix[j]? with
   | none=>rw [ei] at e;cases e
   | some i =>
    rw [ei] at e
    have e:ypo ρ i=.own d:=Option.some.inj e
    unfold ypo at e
    split at e<;>cases e
theorem yiF {wi:TI}{it:XA}(ix:List Nat) (a:yvJ K wi it) (b:yby K ta ea):ykT K (ynu wi ix ta) (yel it ix ea):=by
 intro W0 W ρ σ Q d h' gd e q
 obtain ⟨xs,h1,e1,f1⟩:=yg e
 split at f1
 .rename_i hlen
  obtain ⟨zs,h2,e2,f2⟩:=yg f1
  cases f2
  have hz:=ylF e2
  refine a W0 W ρ σ _ xs h1 gd e1 fun J W1 w1 l1 J1=>?_
  subst w1
  intro D hD
  have nm:=l1.ok.out hD
  have nf:=l1.ok.ff hD
  refine ⟨fun i m H=>m=xs.length-i/\i<=xs.length/\∃ W' acc done rest,W'.H=H/\Le K W1 W'/\D∉W'.m/\W'.F D=none/\H D=some (.lst acc)/\ycj K W' done acc/\done.length=i/\zs=done++rest/\ygn ea (yeE ix ρ) (xs.drop i) W'.h=some (rest,h'),⟨_,rfl,zero_le _,yfo W1 D (.lst []),[],[],zs,rfl,ycc l1.ok hD,nm,nf,yr,rfl,rfl,rfl,by rw [List.drop_zero];exact e2⟩,?_⟩
  rintro i m _ ⟨rfl,hi,W',acc,done,rest,rfl,l,n1,n2,hd,rd,ld,ez,f⟩
  by_cases hlt:i<xs.length
  .rw [List.drop_eq_getElem_cons hlt] at f
   obtain ⟨y,h3,k1,f3⟩:=yg f
   obtain ⟨ys,h4,k2,f4⟩:=yg f3
   cases f4
   refine .inr ⟨J1.go i W' l.lf l.ok hlt,fun v H2 hy=>?_⟩
   obtain ⟨rfl,x,hx,rx⟩:=J1.yld i W' v H2 l.lf l.ok hlt hy
   rw [List.getElem?_eq_getElem hlt] at hx
   cases hx
   refine b W' W' _ _ _ y h3 (yiE gd (l1.trans l) ix rx) k1 fun w W2 w2 l2 r2=>?_
   obtain ⟨o2,n2'⟩:∃ o,W'.H D=some o:=⟨_,hd⟩
   have nm2:D∉W2.m:=fun z=>by rw [l2.mn D z n1] at hd;cases hd
   have nf2:W2.F D=none:=l2.new D _ hd n1 n2
   refine ⟨acc,l2.keep _ _ hd n1,?_,xs.length-(i+1),by omega,rfl,hlt,ypp W2 D (.lst (acc++[w])),acc++[w],done++[y],ys,rfl,ygL (l.trans l2) nm2 nf2 hD,nm2,nf2,yr,(l2.repL rd).snoc r2,by simp [ld],by simp [ez],?_⟩
   .rw [rd.len,ld];exact big (by omega)
   .show ygn ea (yeE ix ρ) (xs.drop (i+1)) W2.h=some (ys,h')
    rw [w2];exact k2
  .have ei:i=xs.length:=by omega
   subst ei
   rw [List.drop_length] at f
   cases f
   refine .inl ⟨J1.stop W' l.lf l.ok,?_⟩
   rw [append_nil] at ez
   subst ez
   exact q D W' rfl (l1.trans l) n1 (l1.fresh hD) (fun z=>by cases z) ⟨n2,acc,hd,rd⟩
 .cases f1
theorem yeF {W:Wd}(w:WOk K W) {N:List Str}{xs:List PV}{vs:List V}(r:ycj K W xs vs):Good K W W (xs.map .val++replicate (N.length-xs.length) .no) (L2.start N vs) where
 le:=.refl w
 len:=by simp [L2.start,r.len]
 val:=fun j y e=>by
  by_cases hj:j<xs.length
  .rw [getElem?_append_left (by simpa using hj),getElem?_map,List.getElem?_eq_getElem hj] at e
   cases e
   obtain ⟨v,h1,h2⟩:=r.get (List.getElem?_eq_getElem hj)
   refine ⟨v,?_,h2⟩
   unfold L2.start
   rw [getElem?_append_left (by simp [r.len,hj]),getElem?_map,h1];rfl
  .rw [getElem?_append_right (by simp;omega),getElem?_replicate] at e
   split at e<;>cases e
 own:=fun j d e=>by
  by_cases hj:j<xs.length
  .rw [getElem?_append_left (by simpa using hj),getElem?_map,List.getElem?_eq_getElem hj] at e
   cases e
  .rw [getElem?_append_right (by simp;omega),getElem?_replicate] at e
   split at e<;>cases e
 ne:=fun j k d d' _ e _=>by
  by_cases hj:j<xs.length
  .rw [getElem?_append_left (by simpa using hj),getElem?_map,List.getElem?_eq_getElem hj] at e
   cases e
  .rw [getElem?_append_right (by simp;omega),getElem?_replicate] at e
   split at e<;>cases e
theorem ysc {N:List Str}{n:Nat}{vs:List V}{H:Hp}{Q:VK}{E:XK}{bk ct:St->Hp->Prop}(a:yeS K t s) (h:spE K n (ybw N.length s) vs H Q E):t ⟨fun _ H'=>Q .non H',Q,bk,ct⟩ (L2.start N vs) H:=by
 obtain ⟨W,xs,x,h',rfl,w,r,_,e,q⟩:=h
 obtain ⟨o,h1,e1,f1⟩:=yg e
 refine a W W _ _ _ o h1 (yeF w r) e1 ?_
 cases o with
 | rt y=>cases f1;exact fun W' v ew l rv=>q v W' ew l rv
 | nx ρ=>cases f1;exact fun W' σ' ew _ g=>q .non W' ew g.le rfl
 | bk ρ=>cases f1
 | ct ρ=>cases f1
theorem yvL {n:Nat}{f:Fn}{vs:List V}{H:Hp}{Q:VK}{E:XK}(h:spE K n f vs H Q E):vs.length=n:=by
 obtain ⟨W,xs,x,h',rfl,w,r,hn,_⟩:=h
 rw [r.len,hn]
end
end PX
namespace PX
open PySem L2
variable {K:Ck}
def oI (g:Int->Int->PV):P2:=fun x y h=>match x,y with|.int i,.int j=>some (g i j,h)|_,_=>none
noncomputable def oIc (C:Int->Int->Prop) [∀ i j,Decidable (C i j)] (g:Int->Int->PV):P2:=fun x y h=>match x,y with|.int i,.int j=>if C i j then some (g i j,h) else none|_,_=>none
abbrev yjr:P2:=oI fun i j=>.int (i+j)
abbrev yvM:P2:=oI fun i j=>.int (i-j)
noncomputable def MulOk (i j:Int):Prop:=(-18446744073709551616<i/\i<18446744073709551616)\/(-18446744073709551616<j/\j<18446744073709551616)
instance (i j:Int):Decidable (MulOk i j):=by unfold MulOk;infer_instance
def ypu (i j:Int):Prop:=(0<=i/\i<18446744073709551616)/\0<=j/\j<=1000000
instance (i j:Int):Decidable (ypu i j):=by unfold ypu;infer_instance
abbrev yyG:P2:=oIc MulOk fun i j=>.int (i*j)
abbrev oDiv:P2:=oIc (fun _ j=>0<j/\j<1073741824) fun i j=>.int (i/j)
abbrev oMod:P2:=oIc (fun _ j=>0<j) fun i j=>.int (i%j)
abbrev yBj:P2:=oIc ypu fun i j=>.int (i ^ j.toNat)
abbrev oLt:P2:=oI fun i j=>.bl (decide (i<j))
abbrev oLe:P2:=oI fun i j=>.bl (decide (i<=j))
abbrev oGt:P2:=oI fun i j=>.bl (decide (j<i))
abbrev yBk:PV->AH->Option (PV×AH):=fun x h=>match x with|.int i=>some (.int (-i),h)|_=>none
theorem yyH {g:Int->Int->PV}{gV:Int->Int->V}(h:∀ (W:Wd) i j,ycm K W (g i j) (gV i j)):ybR K (rI0 gV) (oI g):=by
 intro W x y v u Q z h' w rx ry e q
 unfold oI at e
 split at e
 .rename_i i j
  cases e
  exact ⟨i,j,rx,ry,q _ W rfl (.refl w) (h W i j)⟩
 .cases e
theorem ysd {C:Int->Int->Prop} [∀ i j,Decidable (C i j)] {C':Int->Int->Prop}{g:Int->Int->PV}{gV:Int->Int->V}(hc:∀ i j,C i j->C' i j) (h:∀ (W:Wd) i j,ycm K W (g i j) (gV i j)):ybR K (rI C' gV) (oIc C g):=by
 intro W x y v u Q z h' w rx ry e q
 unfold oIc at e
 split at e
 .rename_i i j
  split at e
  .rename_i c
   cases e
   exact ⟨i,j,rx,ry,hc i j c,q _ W rfl (.refl w) (h W i j)⟩
  .cases e
 .cases e
theorem yeZ:ybR K yBJ yjr:=yyH fun _ _ _=>rfl
theorem ynG:ybR K yBK yvM:=yyH fun _ _ _=>rfl
theorem yse:ybR K yBL yyG:=ysd (fun i j h=>by unfold CMul;rw [show (2:Int) ^ 64=18446744073709551616 by decide];exact h) fun _ _ _=>rfl
theorem ynH:ybR K yBM oDiv:=ysd (fun i j h=>h) fun _ _ _=>rfl
theorem ydU:ybR K yBN oMod:=ysd (fun i j h=>h) fun _ _ _=>rfl
theorem yvN:ybR K yBO yBj:=ysd (fun i j h=>by unfold yBF;rw [show 2 ^ 64=18446744073709551616 by decide];unfold ypu at h;omega) fun _ _ _=>rfl
theorem yub:ybR K yEv oLt:=yyH fun _ _ _=>rfl
theorem yrk:ybR K yEw oLe:=yyH fun _ _ _=>rfl
theorem yyI:ybR K yEx oGt:=yyH fun _ _ _=>rfl
theorem yyJ:yvt K yBP yBk:=by
 intro W x v Q z h' w rx e q
 unfold yBk at e
 split at e
 .rename_i i
  cases e
  exact ⟨i,rx,q _ W rfl (.refl w) rfl⟩
 .cases e
def sv:PV->Option V
 | .non=>some .non
 | .bl b=>some (.bl b)
 | .int i=>some (.int i)
 | .str s=>some (.str s)
 | _=>none
theorem yfu {W:Wd}{x:PV}{v u:V}(e:sv x=some u) (r:ycm K W x v):v=u:=by
 cases x<;>cases e<;>exact r
def oEq:P2:=fun x y h=>match sv x,sv y with|some v,some u=>if ytM v u=true then some (.bl (decide (v=u)),h) else none|_,_=>none
def oNe:P2:=fun x y h=>match sv x,sv y with|some v,some u=>if ytM v u=true then some (.bl (!decide (v=u)),h) else none|_,_=>none
theorem ycd:ybR K rEq oEq:=by
 intro W x y v u Q z h' w rx ry e q
 unfold oEq at e
 split at e
 .rename_i v' u' e1 e2
  obtain rfl:=yfu e1 rx
  obtain rfl:=yfu e2 ry
  split at e
  .rename_i c
   cases e
   exact ⟨c,q _ W rfl (.refl w) rfl⟩
  .cases e
 .cases e
theorem yuc:ybR K rNe oNe:=by
 intro W x y v u Q z h' w rx ry e q
 unfold oNe at e
 split at e
 .rename_i v' u' e1 e2
  obtain rfl:=yfu e1 rx
  obtain rfl:=yfu e2 ry
  split at e
  .rename_i c
   cases e
   exact ⟨c,q _ W rfl (.refl w) rfl⟩
  .cases e
 .cases e
def isN:PV->Bool
 | .non=>true
 | _=>false
def yvO:P2:=fun x y h=>match y with|.non=>some (.bl (isN x),h)|_=>none
def ysf:P2:=fun x y h=>match y with|.non=>some (.bl (!isN x),h)|_=>none
theorem ypv {W:Wd}{x:PV}{v:V}(r:ycm K W x v):decide (v=.non)=isN x:=by
 cases x with
 | non=>rw [show v=.non from r];rfl
 | bl b=>rw [show v=.bl b from r];rfl
 | int b=>rw [show v=.int b from r];rfl
 | str b=>rw [show v=.str b from r];rfl
 | ty b=>rw [show v=.ty b from r];rfl
 | cls b=>rw [show v=.ref _ from r];rfl
 | scr b=>obtain ⟨a,e,_⟩:=r;rw [e];rfl
 | lst b=>obtain ⟨a,_,e,_⟩:=r;rw [e];rfl
 | tup b=>obtain ⟨a,_,e,_⟩:=r;rw [e];rfl
 | ins k n b=>obtain ⟨a,_,_,e,_⟩:=r;rw [e];rfl
 | loc n=>obtain ⟨a,e,_⟩:=r;rw [e];rfl
 | exc n=>obtain ⟨a,e,_⟩:=r;rw [e];rfl
 | xcl n=>rw [show v=.ref _ from r];rfl
theorem ysg:ybR K yEy yvO:=by
 intro W x y v u Q z h' w rx ry e q
 unfold yvO at e
 split at e
 .cases e
  exact ⟨ry,by rw [ypv rx];exact q _ W rfl (.refl w) rfl⟩
 .cases e
theorem yyK:ybR K yBR ysf:=by
 intro W x y v u Q z h' w rx ry e q
 unfold ysf at e
 split at e
 .cases e
  exact ⟨ry,by rw [ypv rx];exact q _ W rfl (.refl w) rfl⟩
 .cases e
noncomputable def yiG:P2:=fun x y h=>match x,y with|.str i,.str j=>if i.length+j.length<=100000 then some (.str (i++j),h) else none|_,_=>none
theorem yhX:ybR K yBQ yiG:=by
 intro W x y v u Q z h' w rx ry e q
 unfold yiG at e
 split at e
 .rename_i i j
  split at e
  .rename_i c
   cases e
   exact ⟨i,j,rx,ry,yua c,q _ W rfl (.refl w) rfl⟩
  .cases e
 .cases e
noncomputable def yyL:P2:=fun x y h=>match x,y with|.str s,.str j=>(match s.cps.toList with|[c]=>some (.bl (decide (c∈j.cps.toList)),h)|_=>none)|_,_=>none
theorem one_sign {s:Str}{c:Nat}(h:s.cps.toList=[c]):s=⟨#[c]⟩:=by
 obtain ⟨⟨l⟩⟩:=s
 have:l=[c]:=h
 rw [this]
theorem yyM:ybR K yDX yyL:=by
 intro W x y v u Q z h' w rx ry e q
 unfold yyL at e
 split at e
 .rename_i s j
  split at e
  .rename_i c hc
   cases e
   exact ⟨c,j,by rw [<- one_sign hc];exact rx,ry,q _ W rfl (.refl w) rfl⟩
  .cases e
 .cases e
def ycC:P2:=fun x y h=>match y with
 | .int i=>(match x with
  | .lst xs=>(match atI xs i with|some v=>some (v,h)|none=>none)
  | .scr ns=>(match atI ns i with|some v=>some (.int v,h)|none=>none)
  | .loc n=>(match h[n]? with|some (.lst xs)=>(match atI xs i with|some v=>some (v,h)|none=>none)|_=>none)
  | _=>none)
 | _=>none
def yck:P2:=fun x y h=>match x,y with|.tup xs,.int i=>(match atI xs i with|some v=>some (v,h)|none=>none)|_,_=>none
def yyN:P2:=fun x y h=>match x,y with|.str s,.int i=>(match atI s.cps.toList i with|some c=>if s.length<=100000 then some (sgn c,h) else none|none=>none)|_,_=>none
theorem RepL.at {F:Hp}{m:List Addr}{xs:List PV}{vs:List V}(r:RepL K F m xs vs) {i:Int}{x:PV}(e:atI xs i=some x):∃ v,atI vs i=some v/\Rep K F m x v:=by
 unfold atI at e ⊢
 rw [r.len]
 obtain ⟨j,e1,e2⟩:=Option.bind_eq_some_iff.mp e
 rw [e1]
 exact r.get e2
theorem WOk.loc {W:Wd}(w:WOk K W) {n:Nat}{d:Nd}{v:V}(e:W.h[n]?=Option.some d) (r:ycm K W (.loc n) v):∃ a,v=.ref a/\W.m[n]?=Option.some a/\NdAt K W.F W.H W.m d a:=by
 obtain ⟨a,ea,h⟩:=r
 exact ⟨a,ea,h,w.at_ n d a e h⟩
theorem ybV:ybR K (yDQ K.K) ycC:=by
 intro W x y v u Q z h' w rx ry e q
 unfold ycC at e
 split at e
 .rename_i i
  split at e
  .rename_i xs
   split at e
   .rename_i y hy
    cases e
    obtain ⟨a,vs,ev,hs,rs⟩:=rx
    obtain ⟨v',h1,h2⟩:=rs.at hy
    exact ⟨a,vs,i,v',ev,ry,SqL.of (w.le _ _ hs),h1,q _ W rfl (.refl w) h2⟩
   .cases e
  .rename_i ns
   split at e
   .rename_i y hy
    cases e
    obtain ⟨a,ev,hs⟩:=rx
    refine ⟨a,_,i,.int y,ev,ry,yeY w hs,?_,q _ W rfl (.refl w) rfl⟩
    unfold atI at hy ⊢
    rw [length_map]
    obtain ⟨j,e1,e2⟩:=Option.bind_eq_some_iff.mp hy
    rw [e1]
    show (ns.map V.int)[j]?=_
    rw [getElem?_map,e2];rfl
   .cases e
  .rename_i n
   split at e
   .rename_i xs hn
    split at e
    .rename_i y hy
     cases e
     obtain ⟨a,ev,hm,hf,vs,hp,rs⟩:=w.loc hn rx
     obtain ⟨v',h1,h2⟩:=rs.at hy
     exact ⟨a,vs,i,v',ev,ry,SqL.of hp,h1,q _ W rfl (.refl w) h2⟩
    .cases e
   .cases e
  .cases e
 .cases e
theorem ybj:ybR K (yDR K.K) yck:=by
 intro W x y v u Q z h' w rx ry e q
 unfold yck at e
 split at e
 .rename_i xs i
  split at e
  .rename_i y hy
   cases e
   obtain ⟨a,vs,ev,hs,rs⟩:=rx
   obtain ⟨v',h1,h2⟩:=rs.at hy
   exact ⟨a,vs,i,v',ev,ry,ydk w hs,h1,q _ W rfl (.refl w) h2⟩
  .cases e
 .cases e
theorem yCc:ybR K yDS yyN:=by
 intro W x y v u Q z h' w rx ry e q
 unfold yyN at e
 split at e
 .rename_i s i
  split at e
  .rename_i c hc
   split at e
   .rename_i hl
    cases e
    exact ⟨s,i,c,rx,ry,yua hl,hc,q _ W rfl (.refl w) rfl⟩
   .cases e
  .cases e
 .cases e
noncomputable def ysh {α:Type}(xs:List α) (lo hi:Option Int):List α:=(xs.drop (HT.sIx xs.length 0 lo)).take (HT.sIx xs.length xs.length hi-HT.sIx xs.length 0 lo)
noncomputable def listOf (x:PV) (h:AH):Option (List PV):=match x with|.lst xs=>some xs|.scr ns=>some (ns.map .int)|.loc n=>(match h[n]? with|some (.lst xs)=>some xs|_=>none)|_=>none
theorem yeG {W:Wd}(w:WOk K W) {x:PV}{v:V}{xs:List PV}(e:listOf x W.h=some xs) (r:ycm K W x v):∃ a vs,v=.ref a/\SqL K.K W.H a vs/\ycj K W xs vs:=by
 unfold listOf at e
 split at e
 .cases e
  obtain ⟨a,vs,ev,hs,rs⟩:=r
  exact ⟨a,vs,ev,SqL.of (w.le _ _ hs),rs⟩
 .rename_i ns
  cases e
  obtain ⟨a,ev,hs⟩:=r
  exact ⟨a,_,ev,yeY w hs,RepL.of_ints ns⟩
 .rename_i n
  split at e
  .rename_i ys hn
   cases e
   obtain ⟨a,ev,hm,hf,vs,hp,rs⟩:=w.loc hn r
   exact ⟨a,vs,ev,SqL.of hp,rs⟩
  .cases e
 .cases e
noncomputable def ybs (x:PV) (h:AH):Option (List PV):=match x with|.lst xs=>some xs|.loc n=>(match h[n]? with|some (.lst xs)=>some xs|_=>none)|_=>none
theorem yQ {W:Wd}(w:WOk K W) {x:PV}{v:V}{xs:List PV}(e:ybs x W.h=some xs) (r:ycm K W x v):∃ a vs,v=.ref a/\W.H a=some (.lst vs)/\ycj K W xs vs:=by
 unfold ybs at e
 split at e
 .cases e
  obtain ⟨a,vs,ev,hs,rs⟩:=r
  exact ⟨a,vs,ev,w.le _ _ hs,rs⟩
 .rename_i n
  split at e
  .rename_i ys hn
   cases e
   obtain ⟨a,ev,hm,hf,vs,hp,rs⟩:=w.loc hn r
   exact ⟨a,vs,ev,hp,rs⟩
  .cases e
 .cases e
theorem yxv {W:Wd}(w:WOk K W) {p:Addr}(hp:W.H p=none) {xs:List PV}{vs:List V}(r:ycj K W xs vs) {Q:VK}(q:ynA K W (.lst xs) W.h Q):Q (.ref p) (upd W.H p (.lst vs)) :=
 q p (yfo W p (.lst vs)) rfl (ycc w hp) (w.out hp) hp (fun z=>by cases z) ⟨w.ff hp,vs,yr,r⟩
def yBl:PV->Option Int->Option Int->AH->Option (Nd×AH):=fun x lo hi h=>match listOf x h with|some xs=>some (.lst (ysh xs lo hi),h)|none=>none
theorem yCd:ypn K (yDT K.K) yBl:=by
 intro W x v lo hi Q d h' w rx e q
 unfold yBl at e
 split at e
 .rename_i xs hx
  cases e
  obtain ⟨a,vs,ev,hs,rs⟩:=yeG w hx rx
  refine ⟨a,vs,ev,hs,fun p hp=>yxv w hp ?_ q⟩
  have:=(rs.drop (HT.sIx xs.length 0 lo)).take (HT.sIx xs.length xs.length hi-HT.sIx xs.length 0 lo)
  unfold ysh yyj
  rw [rs.len]
  exact this
 .cases e
def yBm:P2O:=fun x y h=>match ybs x h,ybs y h with|some xs,some ys=>if xs.length+ys.length<=100000 then some (.lst (xs++ys),h) else none|_,_=>none
theorem yCe:yjZ K yDV yBm:=by
 intro W x y v u Q d h' w rx ry e q
 unfold yBm at e
 split at e
 .rename_i xs ys hx hy
  split at e
  .rename_i hl
   cases e
   obtain ⟨a,vs,ev,hs,rs⟩:=yQ w hx rx
   obtain ⟨b,us,eu,ht,ru⟩:=yQ w hy ry
   refine ⟨a,b,vs,us,ev,eu,hs,ht,by rw [rs.len,ru.len];exact yua hl,fun p hp=>yxv w hp (rs.app ru) q⟩
  .cases e
 .cases e
def repL {α:Type}(k:Nat) (xs:List α):List α:=(replicate k xs).flatten
theorem RepL.rep {F:Hp}{m:List Addr}{xs:List PV}{vs:List V}(r:RepL K F m xs vs):∀ k:Nat,RepL K F m (repL k xs) (repL k vs)
 | 0=>rfl
 | k+1=>by
  show RepL K F m ((replicate (k+1) xs).flatten) ((replicate (k+1) vs).flatten)
  rw [List.replicate_succ,List.replicate_succ,List.flatten_cons,List.flatten_cons]
  exact r.app (RepL.rep r k)
def yxw:P2O:=fun x y h=>match ybs x h,y with|some xs,.int k=>if -1000000<=k/\k<=100000/\xs.length*k.toNat<=100000 then some (.lst (repL k.toNat xs),h) else none|_,_=>none
theorem yvP:yjZ K yDW yxw:=by
 intro W x y v u Q d h' w rx ry e q
 unfold yxw at e
 split at e
 .rename_i xs k hx
  split at e
  .rename_i hl
   cases e
   obtain ⟨a,vs,ev,hs,rs⟩:=yQ w hx rx
   refine ⟨a,k,vs,ev,ry,hs,by omega,by omega,by rw [rs.len];exact yua hl.2.2,fun p hp=>yxv w hp (rs.rep _) q⟩
  .cases e
 .cases e
noncomputable def ypw (x:PV) (h:AH):Option Nat:=match x with|.tup xs=>some xs.length|.lst xs=>some xs.length|.scr ns=>some ns.length|.loc n=>(match h[n]? with|some (.lst xs)=>some xs.length|_=>none)|_=>none
def ycD:List PV->AH->Option (PV×AH):=fun xs h=>match xs with|[x]=>(match ypw x h with|some n=>some (.int n,h)|none=>none)|_=>none
noncomputable def ynI:List PV->AH->Option (PV×AH):=fun xs h=>match xs with|[.str z]=>if z.length<=100000 then some (.int z.length,h) else none|_=>none
theorem ylG {W:Wd}{x:PV}{vs:List V}(r:ycj K W [x] vs):∃ v,vs=[v]/\ycm K W x v:=by
 obtain ⟨v,r',e,h,l⟩:=r
 exact ⟨v,by rw [e,show r'=[] from l],h⟩
theorem yEb {W:Wd}{x y:PV}{vs:List V}(r:ycj K W [x,y] vs):∃ v u,vs=[v,u]/\ycm K W x v/\ycm K W y u:=by
 obtain ⟨v,r',e,h,l⟩:=r
 obtain ⟨u,e2,h2⟩:=ylG l
 exact ⟨v,u,by rw [e,e2],h,h2⟩
theorem ycZ:yfR K (yyo K.K) ycD:=by
 intro W xs vs Q z h' w r e q
 unfold ycD at e
 split at e
 .rename_i x
  split at e
  .rename_i n hn
   cases e
   obtain ⟨v,rfl,rx⟩:=ylG r
   have fin:∀ (ys:List V),ys.length=n->Q (.int ys.length) W.H:=fun ys hl=>by rw [hl];exact q _ W rfl (.refl w) rfl
   unfold ypw at hn
   split at hn
   .cases hn
    obtain ⟨a,us,rfl,hs,rs⟩:=rx
    exact ⟨a,us,rfl,.inr (ydk w hs),fin _ rs.len⟩
   .rename_i ys
    cases hn
    obtain ⟨a,us,rfl,hs,rs⟩:=rx
    exact ⟨a,us,rfl,.inl (SqL.of (w.le _ _ hs)),fin _ rs.len⟩
   .rename_i ns
    cases hn
    obtain ⟨a,rfl,hs⟩:=rx
    exact ⟨a,_,rfl,.inl (yeY w hs),fin _ (by simp)⟩
   .split at hn
    .rename_i ys hy
     cases hn
     obtain ⟨a,rfl,hm,hf,us,hp,rs⟩:=w.loc hy rx
     exact ⟨a,us,rfl,.inl (SqL.of hp),fin _ rs.len⟩
    .cases hn
   .cases hn
  .cases e
 .cases e
theorem ypx:yfR K yBT ynI:=by
 intro W xs vs Q z h' w r e q
 unfold ynI at e
 split at e
 .rename_i s
  split at e
  .rename_i hl
   cases e
   obtain ⟨v,rfl,rx⟩:=ylG r
   exact ⟨s,by rw [show v=_ from rx],yua hl,q _ W rfl (.refl w) rfl⟩
  .cases e
 .cases e
noncomputable def ysi:List PV->AH->Option (PV×AH):=fun xs h=>match xs with|[.int i]=>some (.int i,h)|[.bl k]=>some (.int (if k then 1 else 0),h)|_=>none
theorem yyO:yfR K yBS ysi:=by
 intro W xs vs Q z h' w r e q
 unfold ysi at e
 split at e
 .rename_i i
  cases e
  obtain ⟨v,rfl,rx⟩:=ylG r
  exact .inl ⟨i,by rw [show v=_ from rx],q _ W rfl (.refl w) rfl⟩
 .rename_i k
  cases e
  obtain ⟨v,rfl,rx⟩:=ylG r
  exact .inr ⟨k,by rw [show v=_ from rx],q _ W rfl (.refl w) rfl⟩
 .cases e
noncomputable def ynJ:List PV->AH->Option (PV×AH):=fun xs h=>match xs with|[.int i]=>if i.natAbs.log2<1920 then some (.str (toString i:String),h) else none|_=>none
theorem yud:yfR K yBU ynJ:=by
 intro W xs vs Q z h' w r e q
 unfold ynJ at e
 split at e
 .rename_i i
  split at e
  .rename_i hl
   cases e
   obtain ⟨v,rfl,rx⟩:=ylG r
   exact ⟨i,by rw [show v=_ from rx],hl,q _ W rfl (.refl w) rfl⟩
  .cases e
 .cases e
noncomputable def ypy:List PV->AH->Option (PV×AH):=fun xs h=>match xs with|[.str z]=>if z.cps.toList≠[]/\(∀ c∈z.cps.toList,48<=c/\c<=57)/\z.length<=640 then some (.int (yvm z.cps.toList),h) else none|_=>none
theorem yyP:yfR K yyp ypy:=by
 intro W xs vs Q z h' w r e q
 unfold ypy at e
 split at e
 .rename_i i
  split at e
  .rename_i hl
   cases e
   obtain ⟨v,rfl,rx⟩:=ylG r
   exact ⟨i,by rw [show v=_ from rx],hl.1,hl.2.1,hl.2.2,q _ W rfl (.refl w) rfl⟩
  .cases e
 .cases e
def ybd:List PV->AH->Option (Nd×AH):=fun xs h=>match xs with|[.tup ys]=>some (.lst ys,h)|[x]=>(match listOf x h with|some ys=>some (.lst ys,h)|none=>none)|_=>none
theorem ybH:yph K (yvn K.K) ybd:=by
 intro W xs vs Q d h' w r e q
 unfold ybd at e
 split at e
 .rename_i ys
  cases e
  obtain ⟨v,rfl,a,us,rfl,hs,rs⟩:=ylG r
  exact ⟨a,us,rfl,.inr (ydk w hs),fun p hp=>yxv w hp rs q⟩
 .rename_i x _
  split at e
  .rename_i ys hy
   cases e
   obtain ⟨v,rfl,rx⟩:=ylG r
   obtain ⟨a,us,rfl,hs,rs⟩:=yeG w hy rx
   exact ⟨a,us,rfl,.inl hs,fun p hp=>yxv w hp rs q⟩
  .cases e
 .cases e
def intsOf:List PV->Option (List Int)
 | []=>some []
 | .int s::r=>(intsOf r).map (s::·)
 | _=>none
def ygM:List PV->Option (List Bool)
 | []=>some []
 | .bl s::r=>(ygM r).map (s::·)
 | _=>none
theorem yhY:∀ ss:List Int,intsOf (ss.map .int)=some ss
 | []=>rfl
 | s::ss=>by show (intsOf (ss.map .int)).map _=_;rw [yhY ss];rfl
theorem ykb:∀ ss:List Bool,ygM (ss.map .bl)=some ss
 | []=>rfl
 | s::ss=>by show (ygM (ss.map .bl)).map _=_;rw [ykb ss];rfl
theorem yhZ {F:Hp}{m:List Addr}:∀ {xs:List PV}{ss:List Int}{vs:List V},intsOf xs=some ss->RepL K F m xs vs->vs=ss.map V.int
 | [],_,_,e,r=>by cases e;exact r
 | x::xs,ss,_,e,⟨v,r',ev,h,l⟩=>by
  cases x<;>try cases e
  rename_i s
  obtain ⟨ts,e1,e2⟩:=Option.map_eq_some_iff.mp e
  subst e2
  rw [ev,show v=_ from h,yhZ e1 l];rfl
theorem ygN {F:Hp}{m:List Addr}:∀ {xs:List PV}{ss:List Bool}{vs:List V},ygM xs=some ss->RepL K F m xs vs->vs=ss.map V.bl
 | [],_,_,e,r=>by cases e;exact r
 | x::xs,ss,_,e,⟨v,r',ev,h,l⟩=>by
  cases x<;>try cases e
  rename_i s
  obtain ⟨ts,e1,e2⟩:=Option.map_eq_some_iff.mp e
  subst e2
  rw [ev,show v=_ from h,ygN e1 l];rfl
def yyQ:List PV->AH->Option (PV×AH):=fun xs h=>match xs with|[x]=>(match ybs x h with|some ys=>(match intsOf ys with|some ns=>some (.int ns.sum,h)|none=>none)|none=>none)|_=>none
theorem yCf:yfR K yDZ yyQ:=by
 intro W xs vs Q z h' w r e q
 unfold yyQ at e
 split at e
 .split at e
  .rename_i ys hy
   split at e
   .rename_i ns hn
    cases e
    obtain ⟨v,rfl,rx⟩:=ylG r
    obtain ⟨a,us,rfl,hs,rs⟩:=yQ w hy rx
    have:=yhZ hn rs
    subst this
    exact ⟨a,ns,rfl,hs,q _ W rfl (.refl w) rfl⟩
   .cases e
  .cases e
 .cases e
def yue:List PV->AH->Option (PV×AH):=fun xs h=>match xs with|[x]=>(match ybs x h with|some ys=>(match ygM ys with|some ns=>some (.bl (ns.all id),h)|none=>none)|none=>none)|_=>none
theorem yyR:yfR K yDY yue:=by
 intro W xs vs Q z h' w r e q
 unfold yue at e
 split at e
 .split at e
  .rename_i ys hy
   split at e
   .rename_i ns hn
    cases e
    obtain ⟨v,rfl,rx⟩:=ylG r
    obtain ⟨a,us,rfl,hs,rs⟩:=yQ w hy rx
    have:=ygN hn rs
    subst this
    exact ⟨a,ns,rfl,hs,q _ W rfl (.refl w) rfl⟩
   .cases e
  .cases e
 .cases e
def isStr:PV->AH->Bool:=fun x _=>match x with|.str _=>true|_=>false
noncomputable def ylH:PM:=fun x xs h=>match x,xs with|.str z,[.str s]=>(match s.cps.toList with|[c]=>if z.length<=1000/\c∈z.cps.toList then some (.int (z.cps.toList.idxOf c),h) else none|_=>none)|_,_=>none
theorem ysj:ypi K "str" isStr ypb ylH:=by
 refine ⟨fun W x v w r c=>?_,fun W x v xs vs Q z h' w rx r e q=>?_⟩
 .unfold isStr at c
  split at c
  .rw [show v=_ from r];rfl
  .cases c
 .unfold ylH at e
  split at e
  .rename_i z s
   split at e
   .rename_i c hc
    split at e
    .rename_i hl
     cases e
     obtain ⟨u,rfl,ru⟩:=ylG r
     exact ⟨z,c,rx,by rw [show u=_ from ru,one_sign hc],hl.1,hl.2,q _ W rfl (.refl w) rfl⟩
    .cases e
   .cases e
  .cases e
end PX
namespace PX
open PySem L2
variable {K:Ck}
noncomputable def putN (f:Str) (x:PV) (ns:List Str) (xs:List PV):List Str×List PV:=if f∈ns then (ns,xs.set (ns.idxOf f) x) else (ns++[f],xs++[x])
theorem ymx (f:Str) (y:V):∀ (ns:List Str) (vs:List V),vs.length=ns.length->yhU f y (ns.zip vs)=if f∈ns then ns.zip (vs.set (ns.idxOf f) y) else (ns++[f]).zip (vs++[y])
 | [],[],_=>by simp [yhU]
 | n::ns,v::vs,hl=>by
  have ih:=ymx f y ns vs (by simpa using hl)
  show (if n=f then (n,y)::ns.zip vs else (n,v)::yhU f y (ns.zip vs))=_
  by_cases h:n=f
  .subst h
   simp [List.idxOf_cons_self]
  .have h':¬ f=n:=fun z=>h z.symm
   have hb:(n == f)=false:=by simpa using h
   rw [if_neg h,ih]
   by_cases hm:f∈ns
   .simp [hm,h',List.idxOf_cons,hb]
   .simp [hm,h']
theorem yia {f:Str}:∀ {ns:List Str}{vs:List V},vs.length=ns.length->f∈ns->(ns.zip vs).lookup f=vs[ns.idxOf f]?
 | [],_,_,h=>by simp at h
 | n::ns,v::vs,hl,h=>by
  show List.lookup f ((n,v)::ns.zip vs)=_
  by_cases hn:f=n
  .subst hn
   rw [yBX,List.idxOf_cons_self];rfl
  .rw [yyq hn,yia (by simpa using hl) (by simpa [hn] using h)]
   have hb:(n == f)=false:=by simpa using fun z:n=f=>hn z.symm
   simp [List.idxOf_cons,hb]
theorem ycn {f:Str}:∀ {ns:List Str}{vs:List V},f∉ns->(ns.zip vs).lookup f=none
 | [],_,_=>by simp
 | n::ns,[],_=>by simp
 | n::ns,v::vs,h=>by
  show List.lookup f ((n,v)::ns.zip vs)=_
  rw [yyq (fun z:f=n=>h (by rw [z];exact mem_cons_self)),ycn fun z=>h (mem_cons_of_mem _ z)]
noncomputable def ydL (x:PV) (h:AH):Option (Nat×List Str×List PV):=match x with|.ins k ns xs=>some (k,ns,xs)|.loc n=>(match h[n]? with|some (.ins k ns xs)=>some (k,ns,xs)|_=>none)|_=>none
theorem yes {W:Wd}(w:WOk K W) {x:PV}{v:V}{k:Nat}{ns:List Str}{xs:List PV}(e:ydL x W.h=some (k,ns,xs)) (r:ycm K W x v):∃ a dx vs,v=.ref a/\W.H a=some (.ins (K.A k) dx (ns.zip vs))/\vs.length=ns.length/\ycj K W xs vs:=by
 unfold ydL at e
 split at e
 .cases e
  obtain ⟨a,dx,vs,ev,hs,hl,rs⟩:=r
  exact ⟨a,dx,vs,ev,w.le _ _ hs,hl,rs⟩
 .rename_i n
  split at e
  .rename_i hn
   cases e
   obtain ⟨a,ev,hm,hf,dx,vs,hp,hl,rs⟩:=w.loc hn r
   exact ⟨a,dx,vs,ev,hp,hl,rs⟩
  .cases e
 .cases e
def ybi (cs:List Nat) (f:Str) (e:XE):XE:=fun ρ h=>ob (e ρ h) fun x h1=>match ydL x h1 with|some (k,ns,xs)=>if k∈cs/\f∈ns then (match xs[ns.idxOf f]? with|some y=>some (y,h1)|none=>none) else none|none=>none
theorem yvQ {cs:List Nat}{f:Str}{ta:TE}{ea:XE}(hc:∀ k∈cs,Cls K.K (K.A k)/\NoAttr K.K (K.A k) f) (a:yby K ta ea):yby K (yDN K.K ta f) (ybi cs f ea):=by
 intro W0 W ρ σ Q z h' g e q
 obtain ⟨x,h1,e1,f1⟩:=yg e
 refine a W0 W ρ σ _ x h1 g e1 fun v W1 w1 l1 r1=>?_
 subst w1
 split at f1
 .rename_i k ns xs hi
  split at f1
  .rename_i c
   split at f1
   .rename_i y hy
    cases f1
    obtain ⟨a,dx,vs,ev,hp,hl,rs⟩:=yes l1.ok hi r1
    obtain ⟨u,h2,h3⟩:=rs.get hy
    exact ⟨a,_,dx,_,u,ev,hp,(hc k c.1).1,(hc k c.1).2,by rw [yia hl c.2];exact h2,q _ W1 rfl l1 h3⟩
   .cases f1
  .cases f1
 .cases f1
def ydV (cs:List Nat) (i:Nat) (f:Str) (e:XE):XS:=fun ρ h=>ob (e ρ h) fun x h1=>match ρ[i]? with
 | some (.own (.ins k ns xs))=>if k∈cs/\ns.length<1000 then some (.nx (ρ.set i (.own (.ins k (putN f x ns xs).1 (putN f x ns xs).2))),h1) else none
 | _=>none
theorem RepL.putN {F:Hp}{m:List Addr}{f:Str}{x:PV}{v:V}{ns:List Str}{xs:List PV}{vs:List V}(r:RepL K F m xs vs) (hl:vs.length=ns.length) (rx:Rep K F m x v) :
  ∃ us,yhU f v (ns.zip vs)=(PX.putN f x ns xs).1.zip us/\us.length=(PX.putN f x ns xs).1.length/\RepL K F m (PX.putN f x ns xs).2 us:=by
 rw [ymx f v ns vs hl]
 unfold PX.putN
 by_cases h:f∈ns
 .rw [if_pos h,if_pos h]
  exact ⟨_,rfl,by rw [length_set];exact hl,r.set _ rx⟩
 .rw [if_neg h,if_neg h]
  exact ⟨_,rfl,by rw [length_append,length_append,hl];rfl,r.snoc rx⟩
noncomputable def yrl (K:Ck) (t:TS) (s:XS):Prop:=∀ (W0 W:Wd) (ρ ρ':PSt) (σ:St) (D:Ends) (h':AH),Good K W0 W ρ σ->s ρ W.h=some (.nx ρ',h')->(∀ W',W'.h=h'->Lf K W W'->Good K W0 W' ρ' σ->D.nx σ W'.H)->t D σ W.H
theorem ysk {cs:List Nat}{i:Nat}{f:Str}{ta:TE}{ea:XE}(hc:∀ k∈cs,Cls K.K (K.A k)/\NoAttr K.K (K.A k) f) (a:yby K ta ea):yrl K (yBG K.K (yol i) ta f) (ydV cs i f ea):=by
 intro W0 W ρ ρ' σ D h' g e q
 obtain ⟨x,h1,e1,f1⟩:=yg e
 split at f1
 .rename_i k ns xs hi
  split at f1
  .rename_i c
   cases f1
   refine a W0 W ρ σ _ x _ g e1 fun v W1 w1 l1 r1=>?_
   have g1:=g.step l1
   obtain ⟨p,b1,b2,b3,b4,b5,dx,vs,b6,b7,b8⟩:=g1.own i _ hi
   obtain ⟨us,p1,p2,p3⟩:=b8.putN (f:=f) b7 r1
   refine ⟨_,b1,p,_,dx,_,rfl,b6,(hc k c.1).1,(hc k c.1).2,by rw [length_zip,b7];simpa using c.2,?_⟩
   rw [p1]
   exact q (ypp W1 p _) w1 (ypq l1 b2) (g1.mut hi b1 b2 b3 b5 (fun z=>by cases z) ⟨b5,dx,us,yr,p2,p3⟩)
  .cases f1
 .cases f1
theorem ysl {t u:TS}{s s':XS}(a:yrl K t s) (b:yrl K u s'):yrl K (yBA t u) (yo s s'):=by
 intro W0 W ρ ρ' σ D h' g e q
 obtain ⟨o1,h1,e1,f1⟩:=yg e
 cases o1 with
 | nx ρ1=>exact a W0 W ρ ρ1 σ _ h1 g e1 fun W1 w1 l1 g1=>b W0 W1 ρ1 ρ' σ D h' g1 (by rw [w1];exact f1) fun W2 w2 l2 g2=>q W2 w2 (l1.trans l2) g2
 | rt y=>cases f1
 | bk y=>cases f1
 | ct y=>cases f1
def ypz (N:Nat) (k:Nat) (s:XS):List PV->AH->Option (Nd×AH):=fun xs h=>ob (s (.own (.ins k [] [])::(xs.map .val++replicate (N-(xs.length+1)) .no)) h) fun o h1=>match o with|.nx ρ=>(match ρ[0]? with|some (PVar.own d)=>some (d,h1)|_=>none)|_=>none
def spI (K:Ck) (n k:Nat) (f:List PV->AH->Option (Nd×AH)):Sp:=fun vs H Q _=>∃ (W:Wd) (x dx:Addr) (args:List V) (xs:List PV) (d:Nd) (h':AH),vs=.ref x::args/\W.H x=none/\W.H dx=none/\dx≠x/\H=upd (upd W.H dx (.own x)) x (.ins (K.A k) dx []) /\
 WOk K W/\ycj K W xs args/\xs.length=n/\f xs W.h=some (d,h')/\∀ W',W'.h=h'->Le K W W'->x∉W'.m->d≠.dead->NdAt K W'.F W'.H W'.m d x->Q .non W'.H
theorem yvR {n k:Nat}{f} {vs:List V}{H:Hp}{Q:VK}{E:XK}(h:spI K n k f vs H Q E):vs.length=n+1:=by
 obtain ⟨W,x,dx,args,xs,d,h',rfl,_,_,_,_,w,r,hn,_⟩:=h
 rw [length_cons,r.len,hn]
theorem ysm {N:List Str}{n k:Nat}{t:TS}{s:XS}{vs:List V}{H:Hp}{Q:VK}{E:XK}{bk ct:St->Hp->Prop}(hN:n+1<=N.length) (a:yrl K t s) (h:spI K n k (ypz N.length k s) vs H Q E):t ⟨fun _ H'=>Q .non H',Q,bk,ct⟩ (L2.start N vs) H:=by
 obtain ⟨W,x,dx,args,xs,d,h',rfl,hx,hd,hne,rfl,w,r,hn,e,q⟩:=h
 obtain ⟨o,h1,e1,f1⟩:=yg e
 have l1:Le K W (yfo W dx (.own x)):=ycc w hd
 have hx1:(yfo W dx (.own x)).H x=none:=(yu hne.symm).trans hx
 have l2:Le K (yfo W dx (.own x)) (yfo (yfo W dx (.own x)) x (.ins (K.A k) dx [])):=ycc l1.ok hx1
 have l:=l1.trans l2
 have gs:=yeF (K:=K) (N:=N.drop 1) w r
 have g:Good K W (yfo (yfo W dx (.own x)) x (.ins (K.A k) dx [])) (.own (.ins k [] [])::(xs.map .val++replicate (N.length-(xs.length+1)) .no)) (L2.start N (.ref x::args)):=by
  have es:L2.start N (.ref x::args)=some (.ref x)::L2.start (N.drop 1) args:=by
   have e3:N.length-(args.length+1)=(N.drop 1).length-args.length:=by rw [length_drop];omega
   unfold L2.start
   rw [map_cons,List.cons_append,length_cons,e3]
  have eN:N.length-(xs.length+1)=(N.drop 1).length-xs.length:=by rw [length_drop];omega
  rw [es,eN]
  have gs':=gs.step l
  have noown:∀ (j:Nat) (d:Nd),(xs.map PVar.val++replicate ((N.drop 1).length-xs.length) .no)[j]?≠some (.own d):=fun j d z=>by
   by_cases hj:j<xs.length
   .rw [getElem?_append_left (by simpa using hj),getElem?_map,List.getElem?_eq_getElem hj] at z
    cases z
   .rw [getElem?_append_right (by simp;omega),getElem?_replicate] at z
    split at z<;>cases z
  refine ⟨l,by rw [length_cons,length_cons,gs.len],fun j y z=>?_,fun j d z=>?_,fun i j d d' hij z z'=>?_⟩
  .cases j with
   | zero=>cases z
   | succ j=>exact gs'.val j y z
  .cases j with
   | zero=>cases z;exact ⟨x,rfl,w.out hx,hx,(fun z=>by cases z),w.ff hx,dx,[],yr,rfl,rfl⟩
   | succ j=>exact absurd z (noown j d)
  .cases i with
   | zero =>
    cases j with
    | zero=>exact absurd rfl hij
    | succ j=>exact absurd z' (noown j d')
   | succ i=>exact absurd z (noown i d)
 cases o with
 | rt y=>cases f1
 | bk ρ=>cases f1
 | ct ρ=>cases f1
 | nx ρ =>
  refine a W _ _ ρ _ _ h1 g e1 fun W' ew lf g'=>?_
  dsimp only at f1
  split at f1
  .rename_i d' hd'
   cases f1
   obtain ⟨p,b1,b2,b3,b4,b5⟩:=g'.own 0 _ hd'
   have b1:some (some (V.ref x))=some (some (V.ref p)):=b1
   cases b1
   exact q W' ew g'.le b2 b4 b5
  .cases f1
def yhH (f:List PV->AH->Option (Nd×AH)) (a:XA):XO:=fun ρ h=>ob (a ρ h) f
theorem ymy {n k:Nat}{f} {ex:XK}{t:TA}{e:XA}(a:ykS K t e) (hn:∀ ρ h xs h',e ρ h=some (xs,h')->xs.length=n):ykT K (yrC (K.A k) (spI K n k f) [] ex t) (yhH f e):=by
 intro W0 W ρ σ Q d h' g e' q
 obtain ⟨xs,h1,e1,e2⟩:=yg e'
 refine a W0 W ρ σ _ xs h1 g e1 fun vs W1 w1 l1 r1=>?_
 subst w1
 intro x dx hx hd hne
 rw [append_nil]
 exact ⟨W1,x,dx,vs,xs,d,h',rfl,hx,hd,hne,rfl,l1.ok,r1,hn _ _ _ _ e1,e2,fun W2 w2 l2 hm hdd at_=>⟨rfl,q x W2 w2 (l1.trans l2) hm (l1.fresh hx) hdd at_⟩⟩
def ymz (k:Nat):XO:=fun _ h=>some (.ins k [] [],h)
theorem ypA {k:Nat}:ykT K (ytS (K.A k)) (ymz k):=by
 intro W0 W ρ σ Q d h' g e q
 cases e
 intro x dx hx hd hne
 have w:=g.ok
 have l1:Le K W (yfo W dx (.own x)):=ycc w hd
 have hx1:(yfo W dx (.own x)).H x=none:=(yu hne.symm).trans hx
 have l2:Le K (yfo W dx (.own x)) (yfo (yfo W dx (.own x)) x (.ins (K.A k) dx [])):=ycc l1.ok hx1
 exact q x (yfo (yfo W dx (.own x)) x (.ins (K.A k) dx [])) rfl (l1.trans l2) (w.out hx) hx (fun z=>by cases z) ⟨w.ff hx,dx,[],yr,rfl,rfl⟩
def ypB (m:Str) (f:Nat->Fn) (e:XE):XE:=fun ρ h=>ob (e ρ h) fun x h1=>match ydL x h1 with|some (k,ns,_)=>if m∈ns then none else f k [x] h1|none=>none
theorem ysn {m:Str}{f:Nat->Fn}{ta:TE}{ea:XE}(a:yby K ta ea):yby K (ytT K.A m (fun k=>spE K 1 (f k)) ta) (ypB m f ea):=by
 intro W0 W ρ σ Q z h' g e q
 obtain ⟨x,h1,e1,f1⟩:=yg e
 refine a W0 W ρ σ _ x h1 g e1 fun v W1 w1 l1 r1=>?_
 subst w1
 split at f1
 .rename_i k ns xs hi
  split at f1
  .cases f1
  .rename_i hm
   obtain ⟨b,dx,vs,ev,hp,hl,rs⟩:=yes l1.ok hi r1
   exact ⟨b,k,dx,_,ev,hp,ycn hm,W1,[x],z,h',rfl,l1.ok,⟨v,[],rfl,r1,rfl⟩,rfl,f1,fun u W2 w2 l2 r2=>q u W2 w2 (l1.trans l2) r2⟩
 .cases f1
def yyS (tb:List (Nat×Nat×Bool)) (x c:PV) (h:AH):Option Bool:=match c with
 | .ty n=>(match x with
  | .int _=>if n = "int" then some true else if n = "bool"\/n = "str"\/n = "list"\/n = "tuple"\/n = "dict" then some false else none
  | .bl _=>if n = "int"\/n = "bool" then some true else if n = "str"\/n = "list"\/n = "tuple"\/n = "dict" then some false else none
  | .str _=>if n = "str" then some true else if n = "int"\/n = "bool"\/n = "list"\/n = "tuple"\/n = "dict" then some false else none
  | .non=>if n = "int"\/n = "bool"\/n = "str"\/n = "list"\/n = "tuple"\/n = "dict" then some false else none
  | .tup _=>if n = "tuple" then some true else if n = "int"\/n = "bool"\/n = "str"\/n = "list"\/n = "dict" then some false else none
  | _=>(match ybs x h with|some _=>if n = "list" then some true else if n = "int"\/n = "bool"\/n = "str"\/n = "tuple"\/n = "dict" then some false else none|none=>none))
 | .cls c'=>(match ydL x h with|some (k,_)=>(tb.find? fun r=>r.1 == k && r.2.1 == c').map (·.2.2)|none=>none)
 | _=>none
def yfT (tb:List (Nat×Nat×Bool)):List PV->AH->Option (PV×AH):=fun xs h=>match xs with|[x,c]=>(match yyS tb x c h with|some b=>some (.bl b,h)|none=>none)|_=>none
theorem yfa {tb:List (Nat×Nat×Bool)}(ht:∀ r∈tb,∀ (H:Hp) (a dx:Addr) (fs:List (Str×V)),H a=some (.ins (K.A r.1) dx fs)->IsI K.K H (.ref a) (.ref (K.A r.2.1)) r.2.2):yfR K (yBV K.K) (yfT tb):=by
 intro W xs vs Q z h' w r e q
 unfold yfT at e
 split at e
 .rename_i x c
  split at e
  .rename_i b hb
   cases e
   obtain ⟨v,u,rfl,rx,ru⟩:=yEb r
   refine ⟨v,u,b,rfl,?_,q _ W rfl (.refl w) rfl⟩
   unfold yyS at hb
   split at hb
   .rename_i n
    obtain rfl:u=.ty n:=ru
    split at hb
    .rw [show v=_ from rx]
     repeat' split at hb
     all_goals cases hb
     .rename_i hn;subst hn;exact yli
     .rename_i hn;rcases hn with rfl|rfl|rfl|rfl|rfl
      .exact yjF
      .exact yln
      .exact yjJ
      .exact yix
      .exact yjK
    .rw [show v=_ from rx]
     repeat' split at hb
     all_goals cases hb
     .rename_i hn;rcases hn with rfl|rfl
      .exact ynv
      .exact ylk
     .rename_i hn;rcases hn with rfl|rfl|rfl|rfl
      .exact ynw
      .exact ylo
      .exact yjL
      .exact ylp
    .rw [show v=_ from rx]
     repeat' split at hb
     all_goals cases hb
     .rename_i hn;subst hn;exact yll
     .rename_i hn;rcases hn with rfl|rfl|rfl|rfl|rfl
      .exact ylq
      .exact yjM
      .exact yjN
      .exact yiy
      .exact yjO
    .rw [show v=_ from rx]
     repeat' split at hb
     all_goals cases hb
     .rename_i hn;rcases hn with rfl|rfl|rfl|rfl|rfl|rfl
      .exact ylj
      .exact yjP
      .exact ylr
      .exact yjQ
      .exact yiz
      .exact yjR
    .obtain ⟨a,us,rfl,hs,_⟩:=rx
     have hp:(∃ xs,W.H a=some (.tup xs))\/∃ o,K.K.lookup a=some o/\o.cls=.type "tuple":=hs.elim (fun h=>.inl ⟨_,w.le _ _ h⟩) fun ⟨o,its,n,e1,e2,_⟩=>.inr ⟨o,e1,e2⟩
     repeat' split at hb
     all_goals cases hb
     .rename_i hn;subst hn;exact yiB hp
     .rename_i hn;rcases hn with rfl|rfl|rfl|rfl|rfl
      .exact ylu hp
      .exact yjU hp
      .exact ylv hp
      .exact yjV hp
      .exact yjW hp
    .split at hb
     .rename_i ys hy
      obtain ⟨a,us,rfl,hp,_⟩:=yQ w hy rx
      repeat' split at hb
      all_goals cases hb
      .rename_i hn;subst hn;exact yjG hp
      .rename_i hn;rcases hn with rfl|rfl|rfl|rfl|rfl
       .exact yls hp
       .exact yjS hp
       .exact ylt hp
       .exact yiA hp
       .exact yjT hp
     .cases hb
   .rename_i c'
    obtain rfl:u=.ref (K.A c'):=ru
    split at hb
    .rename_i k p hi
     obtain ⟨r',h1,h2⟩:=Option.map_eq_some_iff.mp hb
     have hm:=List.mem_of_find?_eq_some h1
     have hp:=List.find?_some h1
     simp only [and_eq_true,beq_iff_eq] at hp
     obtain ⟨a,dx,us,rfl,hs,_⟩:=yes w hi rx
     obtain ⟨p1,p2⟩:=hp
     have:=ht r' hm W.H a dx (p.1.zip us) (by rw [p1];exact hs)
     rw [p2,h2] at this
     exact this
    .cases hb
   .cases hb
  .cases e
 .cases e
end PX
namespace PX
open PySem L2
section
variable {ρ:PSt}{h h1:AH}{x y z:PV}{a b c:XE}{ca cb:XT}{aa:XA}{eo:XO}{s u:XS}{i:Nat}{p:P2}
theorem yce {α β:Type}{x:α}{h:AH}{f:α->AH->Option β}:ob (some (x,h)) f=f x h:=id rfl
theorem yCg {α β:Type}{f:α->AH->Option β}:ob (none:Option (α×AH)) f=none:=id rfl
theorem yyT {α β γ:Type}{o:Option (α×AH)}{f:α->AH->Option (β×AH)}{g:β->AH->Option γ}:ob (ob o f) g=ob o fun x h=>ob (f x h) g:=by cases o<;>rfl
theorem yCh {α β:Type}{q:Prop} [Decidable q] {o o':Option (α×AH)}{f:α->AH->Option β}:ob (if q then o else o') f=if q then ob o f else ob o' f:=by split<;>rfl
theorem yuf:yf 0 (.val x::ρ) h=some (x,h):=id rfl
theorem yyU {v:PVar}{n:Nat}:yf (n+1) (v::ρ) h=yf n ρ h:=by simp [yf]
theorem x_c:xC x ρ h=some (x,h):=id rfl
theorem yEc:xOp p a b ρ h=ob (a ρ h) fun x h1=>ob (b ρ h1) fun y h2=>p x y h2:=id rfl
theorem yCi {p:P2O}:ytV p a b ρ h=ob (a ρ h) fun x h1=>ob (b ρ h1) fun y h2=>p x y h2:=id rfl
theorem yEA {p}:xUn p a ρ h=ob (a ρ h) fun x h1=>p x h1:=id rfl
theorem yEd {k:Bool}:oB (.bl k) h=some (k,h):=id rfl
theorem yvS {p p':P2}:yer p p' a b c ρ h=ob (a ρ h) fun x h1=>ob (b ρ h1) fun y h2=>ob (p x y h2) fun z h3=>ob (oB z h3) fun k h3=>if k=true then ob (c ρ h3) fun w h4=>p' y w h4 else some (.bl false,h3):=id rfl
theorem yug:ym a ρ h=ob (a ρ h) oB:=id rfl
theorem yyV:ygm a b ρ h=ob (a ρ h) fun x h1=>ob (oB x h1) fun k h1=>if k=true then b ρ h1 else some (.bl false,h1):=id rfl
theorem yyW:ylx a ρ h=ob (a ρ h) fun x h1=>ob (oB x h1) fun k h1=>some (.bl (!k),h1):=id rfl
theorem yCj:ynz ca cb ρ h=ob (ca ρ h) fun k h1=>if k=true then cb ρ h1 else some (false,h1):=id rfl
theorem yEB:xOr ca cb ρ h=ob (ca ρ h) fun k h1=>if k=true then some (true,h1) else cb ρ h1:=id rfl
theorem yCk:yhF ca ρ h=ob (ca ρ h) fun k h1=>some (!k,h1):=id rfl
theorem yEC:xIf ca a b ρ h=ob (ca ρ h) fun k h1=>if k=true then a ρ h1 else b ρ h1:=id rfl
theorem yCl:yi ρ h=some ([],h):=id rfl
theorem yyX:yb a aa ρ h=ob (a ρ h) fun x h1=>ob (aa ρ h1) fun xs h2=>some (x::xs,h2):=id rfl
theorem yCm:yfr aa ρ h=ob (aa ρ h) fun xs h1=>if xs.length<=1000 then some (.tup xs,h1) else none:=id rfl
theorem yCn:yfs aa ρ h=ob (aa ρ h) fun xs h1=>if xs.length<=1000 then some (.lst xs,h1) else none:=id rfl
def fzN:Nd->AH->Option (PV×AH)
 | .lst xs,h=>some (.lst xs,h)
 | .ins k ns xs,h=>some (.ins k ns xs,h)
 | _,_=>none
theorem yBn:xFz eo ρ h=ob (eo ρ h) fzN:=by
 unfold xFz;congr;funext d h1;cases d<;>rfl
theorem yCo {xs:List PV}:fzN (.lst xs) h=some (.lst xs,h):=id rfl
theorem yCp {k:Nat}{ns:List Str}{xs:List PV}:fzN (.ins k ns xs) h=some (.ins k ns xs,h):=id rfl
theorem yCq:ygK eo ρ h=ob (eo ρ h) fun d h1=>some (.loc h1.length,h1++[d]):=id rfl
theorem x_call {f:Fn}:yba f aa ρ h=ob (aa ρ h) f:=id rfl
theorem yED {f}:xCB f aa ρ h=ob (aa ρ h) f:=id rfl
theorem yCr {f}:yjY f aa ρ h=ob (aa ρ h) f:=id rfl
theorem yEE {q} {p:PM}:xBM q p a aa ρ h=ob (a ρ h) fun x h1=>if q x h1=true then ob (aa ρ h1) fun xs h2=>p x xs h2 else none:=id rfl
theorem yvT {s:Str}:isStr (.str s) h=true:=id rfl
theorem yyY {f}:yhH f aa ρ h=ob (aa ρ h) f:=id rfl
theorem yvU {k:Nat}:ymz k ρ h=some (.ins k [] [],h):=id rfl
theorem yuh:yG ρ h=some (.nx ρ,h):=id rfl
noncomputable def sqK (u:XS):Out->AH->Option (Out×AH)
 | .nx ρ,h=>u ρ h
 | .rt x,h=>some (.rt x,h)
 | .bk ρ,h=>some (.bk ρ,h)
 | .ct ρ,h=>some (.ct ρ,h)
theorem yvV:yo s u ρ h=ob (s ρ h) (sqK u):=by
 unfold yo;congr;funext o h1;cases o<;>rfl
theorem yyZ:sqK u (.nx ρ) h=u ρ h:=id rfl
theorem yCs:sqK u (.rt x) h=some (.rt x,h):=id rfl
theorem yza:ycV a ρ h=ob (a ρ h) fun _ h1=>some (.nx ρ,h1):=id rfl
theorem ypC:yN a ρ h=ob (a ρ h) fun x h1=>some (.rt x,h1):=id rfl
theorem yzb:ybx ca s u ρ h=ob (ca ρ h) fun k h1=>if k=true then s ρ h1 else u ρ h1:=id rfl
theorem yzc {g:XG}:yca a g ρ h=ob (a ρ h) fun x h1=>(g x ρ).bind fun ρ'=>some (.nx ρ',h1):=id rfl
theorem yzd:ynD eo i ρ h=ob (eo ρ h) fun d h1=>some (.nx (ρ.set i (.own d)),h1):=id rfl
theorem yze:yy i x ρ=some (ρ.set i (.val x)):=id rfl
theorem yCt:yxu i s ρ h=s (ylC i ρ) h:=id rfl
theorem yCu {v:PVar}:ylC 0 (v::ρ)=yrW v::ρ:=id rfl
theorem yCv {v:PVar}{n:Nat}:ylC (n+1) (v::ρ)=v::ylC n ρ:=id rfl
theorem yCw {xs:List PV}:yrW (.own (.lst xs))=.val (.lst xs):=id rfl
theorem yCx {it:XA}{g:XG}:ynE it g s ρ h=ob (it ρ h) fun xs h1=>yhB g s xs ρ h1:=id rfl
def frK (g:XG) (s:XS) (xs:List PV):Out->AH->Option (Out×AH)
 | .nx ρ,h=>yhB g s xs ρ h
 | .ct ρ,h=>yhB g s xs ρ h
 | .bk ρ,h=>some (.nx ρ,h)
 | .rt y,h=>some (.rt y,h)
theorem yzf {g:XG}{xs:List PV}:yhB g s (x::xs) ρ h=(g x ρ).bind fun ρ1=>ob (s ρ1 h) (frK g s xs):=by
 unfold yhB;congr;funext ρ1;congr;funext o h1;cases o<;>rfl
def fnK:Out->AH->Option (PV×AH)
 | .rt x,h=>some (x,h)
 | .nx _,h=>some (.non,h)
 | _,_=>none
theorem yp {N:Nat}{xs:List PV}:ybw N s xs h=ob (s (xs.map .val++replicate (N-xs.length) .no) h) fnK:=by
 unfold ybw;congr;funext o h1;cases o<;>rfl
theorem yCy:fnK (.rt x) h=some (x,h):=id rfl
theorem yCz:fnK (.nx ρ) h=some (.non,h):=id rfl
def yen (cs:List Nat) (f:Str) (x:PV) (h:AH):Option (PV×AH):=match ydL x h with|some (k,ns,xs)=>if k∈cs/\f∈ns then (match xs[ns.idxOf f]? with|some y=>some (y,h)|none=>none) else none|none=>none
theorem ypD {cs:List Nat}{f:Str}:ybi cs f a ρ h=ob (a ρ h) (yen cs f):=id rfl
theorem ypE {cs:List Nat}{f:Str}{k:Nat}{ns:List Str}{xs:List PV}{y:PV}(hk:k∈cs) (hf:f∈ns) (hy:xs[ns.idxOf f]?=some y):yen cs f (.ins k ns xs) h=some (y,h):=by
 unfold yen ydL
 simp [hk,hf,hy]
def ykc (m:Str) (f:Nat->Fn) (x:PV) (h:AH):Option (PV×AH):=match ydL x h with|some (k,ns,_)=>if m∈ns then none else f k [x] h|none=>none
theorem yui {m:Str}{f:Nat->Fn}:ypB m f a ρ h=ob (a ρ h) (ykc m f):=id rfl
theorem yfv {m:Str}{f:Nat->Fn}{k:Nat}{ns:List Str}{xs:List PV}(hm:m∉ns):ykc m f (.ins k ns xs) h=f k [.ins k ns xs] h:=by
 unfold ykc ydL
 simp [hm]
theorem x_i {g:Int->Int->PV}{i j:Int}:oI g (.int i) (.int j) h=some (g i j,h):=id rfl
theorem yEF {C:Int->Int->Prop} [∀ i j,Decidable (C i j)] {g:Int->Int->PV}{i j:Int}:oIc C g (.int i) (.int j) h=if C i j then some (g i j,h) else none:=id rfl
theorem ykd {i j:Int}(h1:-18446744073709551616<j) (h2:j<18446744073709551616):MulOk i j=True:=eq_true (.inr ⟨h1,h2⟩)
theorem yzg {i j:Int}(h1:-18446744073709551616<i) (h2:i<18446744073709551616):MulOk i j=True:=eq_true (.inl ⟨h1,h2⟩)
theorem yCA {i j:Int}(h1:0<=i) (h2:i<18446744073709551616) (h3:0<=j) (h4:j<=1000000):ypu i j=True:=eq_true ⟨⟨h1,h2⟩,h3,h4⟩
theorem yCB {i j:Int}:oEq (.int i) (.int j) h=some (.bl (decide (i=j)),h):=by simp [oEq,sv,ytM]
theorem yCC {i j:Str}:oEq (.str i) (.str j) h=some (.bl (decide (i=j)),h):=by simp [oEq,sv,ytM]
theorem yCD {i j:Int}:oNe (.int i) (.int j) h=some (.bl (!decide (i=j)),h):=by simp [oNe,sv,ytM]
theorem yCE {i j:Str}:oNe (.str i) (.str j) h=some (.bl (!decide (i=j)),h):=by simp [oNe,sv,ytM]
theorem yCF:yvO x .non h=some (.bl (isN x),h):=id rfl
theorem yzh:ysf x .non h=some (.bl (!isN x),h):=id rfl
theorem yzi {i j:Str}:yiG (.str i) (.str j) h=if i.length+j.length<=100000 then some (.str (i++j),h) else none:=id rfl
theorem yCG {c:Nat}{j:Str}:yyL (.str ⟨#[c]⟩) (.str j) h=some (.bl (decide (c∈j.cps.toList)),h):=id rfl
theorem yzj {xs:List PV}{i:Int}:ycC (.lst xs) (.int i) h=(atI xs i).bind fun v=>some (v,h):=by
 simp only [ycC];cases atI xs i<;>rfl
theorem yCH {xs:List Int}{i:Int}:ycC (.scr xs) (.int i) h=(atI xs i).bind fun v=>some (.int v,h):=by
 simp only [ycC];cases atI xs i<;>rfl
theorem yCI {xs:List PV}{i:Int}:yck (.tup xs) (.int i) h=(atI xs i).bind fun v=>some (v,h):=by
 simp only [yck];cases atI xs i<;>rfl
theorem yCJ {s:Str}{i:Int}:yyN (.str s) (.int i) h=(atI s.cps.toList i).bind fun c=>if s.length<=100000 then some (sgn c,h) else none:=by
 simp only [yyN];cases atI s.cps.toList i<;>rfl
theorem yCK {xs:List Int}{lo hi:Option Int}:yBl (.scr xs) lo hi h=some (.lst (ysh (xs.map .int) lo hi),h):=id rfl
theorem yCL {xs ys:List PV}:yBm (.lst xs) (.lst ys) h=if xs.length+ys.length<=100000 then some (.lst (xs++ys),h) else none:=id rfl
theorem yCM {xs:List PV}{k:Int}:yxw (.lst xs) (.int k) h=if -1000000<=k/\k<=100000/\xs.length*k.toNat<=100000 then some (.lst (repL k.toNat xs),h) else none:=id rfl
theorem yCN {p} {lo hi}:yBi p a lo hi ρ h=ob (a ρ h) fun x h1=>ob (lo ρ h1) fun l h2=>ob (hi ρ h2) fun u h3=>p x l u h3:=id rfl
theorem yzk:yrO a ρ h=ob (a ρ h) fun x h1=>match x with|.int i=>some (some i,h1)|_=>none:=id rfl
theorem yso:yiC ρ h=some (none,h):=id rfl
theorem yzl {xs:List PV}:ycD [.lst xs] h=some (.int xs.length,h):=id rfl
theorem yzm {xs:List Int}:ycD [.scr xs] h=some (.int xs.length,h):=id rfl
theorem yzn {z:Str}:ynI [.str z] h=if z.length<=100000 then some (.int z.length,h) else none:=id rfl
theorem yvW {k:Bool}:ysi [.bl k] h=some (.int (if k then 1 else 0),h):=id rfl
theorem yuj {k:Int}:ynJ [.int k] h=if k.natAbs.log2<1920 then some (.str (toString k:String),h) else none:=id rfl
theorem yEG {xs:List PV}(e:a ρ h=some (.lst xs,h1)):xIL a ρ h=some (xs,h1):=by unfold xIL;rw [e];rfl
theorem yuk {it:XA}{ix:List Nat}:yel it ix a ρ h=ob (it ρ h) fun xs h1=>if xs.length<=100000 then ob (ygn a (yeE ix ρ) xs h1) fun ys h2=>some (.lst ys,h2) else none:=id rfl
end
end PX
namespace L2
open PySem PySem.Spec PyProof.Rows
end L2
namespace L2
open PySem PySem.Spec PyProof.Rows
section
variable (P:Program) (w:World)
end
section
variable {P:Program}{w:World}{H H':Hp}{h h':Heap}{a:Addr}{o:HO}
end
section
variable {P:Program}{w:World}{H:Hp}{h h':Heap}{x e:Addr}{o':HO}
end
section
variable {fs fs' ex ex':List Addr}{H H1 H2:Hp}{h h1 h2 h':Heap}{a x e:Addr}{o:HO}
end
end L2
namespace L2
open PySem PySem.Spec PyProof.Rows
section
variable {X:Cx}{pins:List (Addr×Obj)}{σ:List (Option V)}{H H':Hp}{s:Shared}{h':Heap}
end
end L2
namespace L2
open PySem PySem.Spec PyProof.Rows
section
variable {X:Cx}
variable {a b:Expr}{ta tb:TE}{pos:Pos}
variable {tA tB':TT}{rest:List Expr}
end
end L2
namespace L2
open PySem PySem.Spec PyProof.Rows
section
variable {X:Cx}{pins:List (Addr×Obj)}{σ:St}{H:Hp}{s:Shared}{a:Addr}{xs ys:List V}
end
section
variable {X:Cx}{pins:List (Addr×Obj)}{σ:St}{H:Hp}{s:Shared}{E:Value->Shared->Prop}
end
section
variable {X:Cx}{st:Stmt}{rest:List Stmt}{t u:TS}{e:Expr}{te:TE}{pos:Pos}
end
section
variable {X:Cx}{pos:Pos}
end
section
variable {X:Cx}{pos:Pos}
end
end L2
namespace L2
open PySem PySem.Spec PyProof.Rows
section
variable {X:Cx}{tg:Expr}
end
end L2
namespace L2
open PySem PySem.Spec PyProof.Rows
section
variable {X:Cx}{a b c:Expr}{ta tb tc:TE}{pos:Pos}
end
section
variable {X:Cx}{a b c:Expr}{ta tb tc:TE}{pos:Pos}
end
end L2
namespace L2
open PySem PySem.Spec PyProof.Rows
section
variable {prog:Program}{w:World}{A:Around}{E:Value->Shared->Prop}{s:Shared}{K:PySem.W.Frag}{x dx C f:Addr}{mA:Str->Option Value}{name:Str}{v:Value}
end
section
variable {P:Program}{w:World}{H H':Hp}{h h':Heap}{a C dx:Addr}{fs fs':List (Str×V)}
end
section
variable {X:Cx}{pins:List (Addr×Obj)}{σ:St}{H:Hp}{s:Shared}{a C dx:Addr}{fs:List (Str×V)}{f:Str}{v:V}{A:Around}{E:Value->Shared->Prop}
end
section
variable {X:Cx}{o e value:Expr}{f:Str}{pos pos' tpos:Pos}{ta tv:TE}
end
section
variable {X:Cx}{pins:List (Addr×Obj)}{σ:St}{H:Hp}{s:Shared}{A:Around}{E:Value->Shared->Prop}{Q:Value->Shared->Prop}{c:Value}{b:Bool}
end
end L2
namespace L2
open PySem PySem.Spec PyProof.Rows
section
variable {X:Cx}{e:Expr}{es:List Expr}{te:TE}{t:TA}{pos:Pos}
end
section
variable {X:Cx}{pins:List (Addr×Obj)}{σ:St}{H:Hp}{s s':Shared}
end
section
variable {X:Cx}{CX:CXT}{k:Nat}{f C:Addr}{fd:FuncData}{ps:List Str}{sp:Sp}{dvs:List V}{ds:List Value}{E:XK}{x m:Str}{p pos apos:Pos}{e o:Expr}{es:List Expr}{ta:TE}{t:TA}
end
section
variable {X:Cx}{CX:CXT}{k:Nat}{f C:Addr}{fd:FuncData}{ps ks:List Str}{sp:Sp}{E:XK}{x m:Str}{p pos apos kpos:Pos}{e o:Expr}{es:List Expr}{kws:List Keyword}{te ta:TE}{t tk:TA}{nm:Option Str}
variable {g:List Value->List Value->List Value}{gV:List V->List V->List V}
end
end L2
namespace L2
open PySem PySem.Spec PyProof.Rows
section
variable {X:Cx}{x:Str}{p pos:Pos}{e:Expr}{es:List Expr}{t:TA}{id T:String}{r:List V->Hp->VK->Prop}
end
end L2
namespace L2
open PySem PySem.Spec PyProof.Rows
section
variable {κ:Type} [DecidableEq κ]
def yjs (kvs:List (κ×V)) (k:κ):Option V:=(kvs.find? fun kv=>decide (kv.1=k)).map (·.2)
noncomputable def putK (kvs:List (κ×V)) (k:κ) (v:V):List (κ×V) :=
 if (kvs.any fun kv=>decide (kv.1=k))=true then kvs.map (fun kv=>if kv.1=k then (kv.1,v) else kv) else kvs++[(k,v)]
theorem yiH {p:κ×V}{r:List (κ×V)}{k:κ}(e:p.1=k):yjs (p::r) k=some p.2:=by simp [yjs,find?_cons,e]
theorem yiI {p:κ×V}{r:List (κ×V)}{k:κ}(e:¬ p.1=k):yjs (p::r) k=yjs r k:=by simp [yjs,find?_cons,e]
theorem yiJ (k:κ):∀ kvs:List (κ×V),(kvs.any fun kv=>decide (kv.1=k))=(yjs kvs k).isSome
 | []=>rfl
 | p::r=>by
  rw [any_cons]
  by_cases e:p.1=k
  .simp only [yiH e,decide_eq_true e,Bool.true_or,Option.isSome_some]
  .rw [yiI e,decide_eq_false e,Bool.false_or];exact yiJ k r
theorem yfb (kvs:List (κ×V)) (k:κ) (v:V):(putK kvs k v).length<=kvs.length+1:=by
 unfold putK
 split
 .rw [length_map];omega
 .rw [length_append,length_cons,length_nil];omega
theorem ymA {kvs:List (κ×V)}{k:κ}(v:V) (h:yjs kvs k=none):putK kvs k v=kvs++[(k,v)]:=by
 unfold putK
 rw [yiJ,h]
 exact if_neg (by decide)
theorem RelO.isSome_eq {o:Option V}{u:Option Value}(r:RelO o u):o.isSome=u.isSome:=by
 cases o with
 | none=>cases u with
  | none=>rfl
  | some _=>exact (show False from r).elim
 | some _=>cases u with
  | none=>exact (show False from r).elim
  | some _=>rfl
theorem KV.val {kvs:List (κ×V)}{vs:List (κ×Value)}(r:KV kvs vs) (k:κ):RelO (yjs kvs k) (valueAt vs k):=by
 unfold KV at r
 induction r with
 | nil=>exact True.intro
 | @cons p q ps qs h t ih =>
  obtain ⟨h1,h2⟩:=h
  by_cases e:p.1=k
  .have e':q.1=k:=h1.symm.trans e
   have b:valueAt (q::qs) k=some q.2:=by simp [valueAt,find?_cons,e']
   rw [yiH e,b];exact h2
  .have e':¬ q.1=k:=fun z=>e (h1.trans z)
   have b:valueAt (q::qs) k=valueAt qs k:=by simp [valueAt,find?_cons,e']
   rw [yiI e,b];exact ih
theorem KV.any {kvs:List (κ×V)}{vs:List (κ×Value)}(r:KV kvs vs) (k:κ):(kvs.any fun kv=>decide (kv.1=k))=vs.any fun kv=>decide (kv.1=k):=by
 unfold KV at r
 induction r with
 | nil=>rfl
 | cons h t ih=>rw [any_cons,any_cons,ih,h.1]
theorem KV.repl {kvs:List (κ×V)}{vs:List (κ×Value)}(r:KV kvs vs) (k:κ) {y:V}{u:Value}(ry:RelV y u) :
  KV (kvs.map fun kv=>if kv.1=k then (kv.1,y) else kv) (vs.map fun kv=>if kv.1=k then (kv.1,u) else kv):=by
 unfold KV at r ⊢
 induction r with
 | nil=>exact .nil
 | @cons p q ps qs h t ih =>
  rw [map_cons,map_cons]
  refine .cons ?_ ih
  obtain ⟨h1,h2⟩:=h
  by_cases e:p.1=k
  .rw [if_pos e,if_pos (h1.symm.trans e)];exact ⟨h1,ry⟩
  .rw [if_neg e,if_neg (fun z=>e (h1.trans z))];exact ⟨h1,h2⟩
theorem KV.put {kvs:List (κ×V)}{vs:List (κ×Value)}(r:KV kvs vs) (k:κ) {y:V}{u:Value}(ry:RelV y u):KV (putK kvs k y) (stored vs k u):=by
 unfold putK stored
 rw [r.any k]
 by_cases e:(vs.any fun kv=>decide (kv.1=k))=true
 .rw [if_pos e,if_pos e];exact r.repl k ry
 .rw [if_neg e,if_neg e];exact Paired.snoc r ⟨rfl,ry⟩
theorem KV.length {kvs:List (κ×V)}{vs:List (κ×Value)}(r:KV kvs vs):kvs.length=vs.length:=Paired.length r
end
theorem ypF {P:Program}{w:World}{k:Key}{u:Value}(r:RelV (kV k) u):(ybQ P w).is k u=true:=by
 cases k with
 | inl i=>obtain ⟨t,e⟩:=(show ∃ t,u=Value.int i t from r);subst e;exact ykY P w i t
 | inr x=>obtain ⟨t,e⟩:=(show ∃ t,u=Value.str x t from r);subst e;exact ykZ P w x t
theorem yke {P:Program}{w:World}:∀ {ks:List Key}{us:List Value},Vals (ks.map kV) us->ItemsAre (ybQ P w) ks us
 | [],_,r=>by rw [map_nil] at r;cases r;exact .nil
 | k::ks,_,r=>by
  rw [map_cons] at r
  cases r with
  | cons h t=>exact .cons (ypF h) (yke t)
abbrev KT (H:Hp):List (List Key×V)->List (List Key×Addr×Value)->Prop:=Paired fun p q=>p.1=q.1/\H q.2.1=some (.tup (p.1.map kV))/\RelV p.2 q.2.2
theorem KT.val {H:Hp}{kvs:List (List Key×V)}{xs:List (List Key×Addr×Value)}(r:KT H kvs xs) (k:List Key):RelO (yjs kvs k) ((atKey xs k).map (·.2)):=by
 induction r with
 | nil=>exact True.intro
 | @cons p q ps qs h t ih =>
  obtain ⟨h1,_,h2⟩:=h
  by_cases e:p.1=k
  .have e':q.1=k:=h1.symm.trans e
   have b:atKey (q::qs) k=some q.2:=by simp [atKey,find?_cons,e']
   rw [yiH e,b];exact h2
  .have e':¬ q.1=k:=fun z=>e (h1.trans z)
   have b:atKey (q::qs) k=atKey qs k:=by simp [atKey,find?_cons,e']
   rw [yiI e,b];exact ih
theorem KT.repl {H:Hp}{kvs:List (List Key×V)}{xs:List (List Key×Addr×Value)}(r:KT H kvs xs) (k:List Key) {y:V}{u:Value}(ry:RelV y u) :
  KT H (kvs.map fun kv=>if kv.1=k then (kv.1,y) else kv) (xs.map (putAt k u)):=by
 induction r with
 | nil=>exact .nil
 | @cons p q ps qs h t ih =>
  rw [map_cons,map_cons]
  refine .cons ?_ ih
  obtain ⟨h1,h2,h3⟩:=h
  unfold putAt
  by_cases e:p.1=k
  .rw [if_pos e,if_pos (h1.symm.trans e)];exact ⟨h1,h2,ry⟩
  .rw [if_neg e,if_neg (fun z=>e (h1.trans z))];exact ⟨h1,h2,h3⟩
theorem KT.put {H:Hp}{kvs:List (List Key×V)}{xs:List (List Key×Addr×Value)}(r:KT H kvs xs) (k:List Key) {b:Addr}{y:V}{u:Value}(hb:H b=some (.tup (k.map kV))) (ry:RelV y u) :
  KT H (putK kvs k y) (storedH xs k b u):=by
 have e:(kvs.any fun kv=>decide (kv.1=k))=(atKey xs k).isSome:=by
  rw [yiJ,(r.val k).isSome_eq,isSome_map]
 unfold putK storedH
 rw [e]
 by_cases q:(atKey xs k).isSome=true
 .rw [if_pos q,if_pos q];exact r.repl k ry
 .rw [if_neg q,if_neg q];exact Paired.snoc r ⟨rfl,hb,ry⟩
theorem KT.keeps {H H':Hp}{kvs:List (List Key×V)}{xs:List (List Key×Addr×Value)}(r:KT H kvs xs) (ht:∀ b ys,H b=some (.tup ys)->H' b=some (.tup ys)):KT H' kvs xs :=
 Paired.mapP r fun _ _ z=>⟨z.1,ht _ _ z.2.1,z.2.2⟩
section
variable {P:Program}{w:World}{H:Hp}{h:Heap}{a:Addr}
theorem yzo {u:HO}(ok:HOk P w H h) (e:Rd H a u):ObjOk P w H h a u:=e.ok ok
theorem ysp {kvs:List (Key×V)}(ok:HOk P w H h) (e:Rd H a (.dK kvs)):kvs.length<=sizeLine/\(a == sysModules)=false/\∃ vs,KV kvs vs/\h.DictOf (ybQ P w) a vs :=
 show ObjOk P w H h a (.dK kvs) from yzo ok e
theorem yzp {kvs:List (Key×V)}(ok:HOk P w H h) (e:H a=some (.dK kvs)):kvs.length<=sizeLine/\(a == sysModules)=false/\∃ vs,KV kvs vs/\h.DictOf (ybQ P w) a vs:=ysp ok (.inl e)
theorem ymB {ks:List Key}(ok:HOk P w H h) (e:H a=some (.tup (ks.map kV))):(tupleKind (ybQ P w)).is h ks a:=by
 obtain ⟨_,its,r,o,h1,h2,n,h3⟩:=(show ObjOk P w H h a (.tup (ks.map kV)) from ok a _ e)
 exact ⟨o,its.toArray,n,h1,h2,h3,by simpa using yke r⟩
theorem ysq {kvs:List (List Key×V)}(ok:HOk P w H h) (e:Rd H a (.dT kvs)):kvs.length<=sizeLine/\(a == sysModules)=false /\
  ∃ xs,KT H kvs xs/\h.DictOfH (tupleKind (ybQ P w)) a xs:=by
 obtain ⟨z,y,xs,r,o,es,ep,h1,h2,h3,h4,h5⟩:=(show ObjOk P w H h a (.dT kvs) from yzo ok e)
 refine ⟨z,y,xs,r,o,es,ep,h1,h2,h3,h4,fun x hx=>?_,h5⟩
 have all:∀ {l:List (List Key×V)}{m:List (List Key×Addr×Value)},KT H l m->∀ x∈m,(tupleKind (ybQ P w)).is h x.1 x.2.1:=by
  intro l m q
  induction q with
  | nil=>intro x hx;exact nomatch hx
  | @cons p q ps qs hq t ih =>
   intro x hx
   rcases mem_cons.mp hx with e|hx
   .subst e
    exact ymB ok (by rw [<- hq.1];exact hq.2.1)
   .exact ih x hx
 exact all r x hx
theorem yCO {kvs:List (List Key×V)}(ok:HOk P w H h) (e:H a=some (.dT kvs)):kvs.length<=sizeLine/\(a == sysModules)=false /\
  ∃ xs,KT H kvs xs/\h.DictOfH (tupleKind (ybQ P w)) a xs:=ysq ok (.inl e)
end
noncomputable def DGet (H:Hp) (a:Addr) (y:V) (r:Option V):Prop :=
 (∃ kvs k,Rd H a (.dK kvs)/\y=kV k/\r=yjs kvs k)\/∃ kvs k b,Rd H a (.dT kvs)/\y=.ref b/\H b=some (.tup (k.map kV))/\r=yjs kvs k
def DPut (H:Hp) (a:Addr) (y v:V) (H':Hp):Prop :=
 (∃ kvs k,H a=some (.dK kvs)/\y=kV k/\kvs.length<sizeLine/\H'=upd H a (.dK (putK kvs k v))) \/
 ∃ kvs k b,H a=some (.dT kvs)/\y=.ref b/\H b=some (.tup (k.map kV))/\kvs.length<sizeLine/\H'=upd H a (.dT (putK kvs k v))
theorem DPut.k {H:Hp}{a:Addr}{kvs:List (Key×V)}{k:Key}{v:V}(e:H a=some (.dK kvs)) (hl:kvs.length<sizeLine):DPut H a (kV k) v (upd H a (.dK (putK kvs k v))):=.inl ⟨kvs,k,e,rfl,hl,rfl⟩
section
variable {X:Cx}{pins:List (Addr×Obj)}{σ:St}{H:Hp}{s:Shared}{a:Addr}{y v:V}{u r:Value}{o:Option V}{A:Around}{E:Value->Shared->Prop}
theorem Inv.big (I:Inv X pins σ H s):sysModules<s.heap.objs.size:=by
 have h:mainGlobals<s.heap.objs.size:=(I.mod.glob.keeps I.bk).lt
 exact Nat.lt_trans (by decide) h
theorem ypG {Q:Value->Shared->Prop}(hu:A.units+1<cLine) (I:Inv X pins σ H s) (g:DGet H a y (some v)) (ry:RelV y u) (h:∀ w' s',Inv X pins σ H s'->RelV v w'->Q w' s') :
  wpAny (model X.prog X.w) A (getItem (.ref a) u) Q E s:=by
 rcases g with ⟨kvs,k,e,ey,l⟩|⟨kvs,k,b,e,ey,eb,l⟩
 .subst ey
  obtain ⟨z,hd,vs,rel,dd⟩:=ysp I.hok e
  obtain ⟨w',hw,rw'⟩:=RelO.some_of (v:=v) (o:=valueAt vs k) (by rw [l];exact rel.val k)
  exact wpAny_getItem_of (ypF ry) dd.mapOf hw (h w' _ (I.tok _) rw')
 .subst ey
  cases (show u=Value.ref b from ry)
  obtain ⟨z,hd,xs,rel,dd⟩:=ysq I.hok e
  obtain ⟨w',hw,rw'⟩:=RelO.some_of (v:=v) (o:=(atKey xs k).map (·.2)) (by rw [l];exact rel.val k)
  obtain ⟨p,hp,hp2⟩:=Option.map_eq_some_iff.mp hw
  refine wpAny_getItem_heap (tupleKind_room_in1 hu) (ymB I.hok eb) dd hp ?_
  rw [hp2]
  exact h w' _ (I.tok _) rw'
theorem yEH {Q:Value->Shared->Prop}(hu:A.units+1<cLine) (I:Inv X pins σ H s) (g:DGet H a y o) (ry:RelV y u) (h:∀ s',Inv X pins σ H s'->Q (.bool o.isSome) s') :
  wpAny (model X.prog X.w) A (compareOp .In u (.ref a)) Q E s:=by
 rcases g with ⟨kvs,k,e,ey,l⟩|⟨kvs,k,b,e,ey,eb,l⟩
 .subst ey
  obtain ⟨z,hd,vs,rel,dd⟩:=ysp I.hok e
  refine wpAny_in_of (ypF ry) hd dd.mapOf ?_
  rw [<- (rel.val k).isSome_eq,<- l]
  exact h _ (I.tok _)
 .subst ey
  cases (show u=Value.ref b from ry)
  obtain ⟨z,hd,xs,rel,dd⟩:=ysq I.hok e
  refine wpAny_in_heap (tupleKind_room_in1 hu) (ymB I.hok eb) hd dd ?_
  have q:=(rel.val k).isSome_eq
  rw [isSome_map] at q
  rw [<- q,<- l]
  exact h _ (I.tok _)
theorem ylI {h':Heap}{t':Nat}{ob:HO}(I:Inv X pins σ H s) (mu:Mut (H a)) (hs:Heap.SameBut a s.heap h') (he:∃ q,h'.get? a=some q) (new:ObjOk X.prog X.w (upd H a ob) h' a ob) :
  Inv X pins σ (upd H a ob) { s with heap:=h',toks:=t' } :=
 I.write (x:=a) (e:=a) mu (.inl rfl) (fun b q hb z=>(hs.2 b hb).trans z) he new
theorem yul {P:Program}{w:World}{H':Hp}{h':Heap}{kvs:List (Key×V)}{vs:List (Key×Value)}(z:kvs.length<=sizeLine) (hd:(a == sysModules)=false) (rel:KV kvs vs) (dd:h'.DictOf (ybQ P w) a vs) :
  ObjOk P w H' h' a (.dK kvs):=⟨z,hd,vs,rel,dd⟩
theorem ypH {H':Hp}{Q:Unit->Shared->Prop}(hu:A.units+1<cLine) (I:Inv X pins σ H s) (g:DPut H a y v H') (ry:RelV y u) (rv:RelV v r) (h:∀ s',Inv X pins σ H' s'->Q () s') :
  wpAny (model X.prog X.w) A (setItem (.ref a) u r) Q E s:=by
 rcases g with ⟨kvs,k,e,ey,l,eH⟩|⟨kvs,k,b,e,ey,eb,l,eH⟩
 .subst ey eH
  obtain ⟨z,hd,vs,rel,dd⟩:=yzp I.hok e
  have hz:vs.length<=sizeLine:=by rw [<- rel.length];exact z
  have hl:(putK kvs k v).length<=sizeLine:=by have:=yfb kvs k v;omega
  refine wpAny_setItem_pairs (hsz:=hz) (ypF ry) dd fun h' dd' hs=>h _ ?_
  have he:∃ q,h'.get? a=some q:=let ⟨q,_,_,hq,_⟩:=dd';⟨q,hq⟩
  exact ylI I (by rw [e];exact True.intro) hs he (yul hl hd (rel.put k rv) dd')
 .subst ey eH
  cases (show u=Value.ref b from ry)
  obtain ⟨z,hd,xs,rel,dd⟩:=yCO I.hok e
  have hz:xs.length<=sizeLine:=by rw [<- Paired.length rel];exact z
  have hl:(putK kvs k v).length<=sizeLine:=by have:=yfb kvs k v;omega
  refine wpAny_setItem_heap (hsz:=hz) (tupleKind_room_in1 hu) (ymB I.hok eb) dd fun h' dd' hs=>h _ ?_
  obtain ⟨q,es,ep,hq,h2,h3,h4,_,h5⟩:=dd'
  refine ylI I (by rw [e];exact True.intro) hs ⟨q,hq⟩ ⟨hl,hd,_,(rel.put k eb rv).keeps fun c ys ec=>?_,q,es,ep,hq,h2,h3,h4,h5⟩
  rw [yu (yBw ec e (fun z=>nomatch z))]
  exact ec
end
section
variable {X:Cx}{pins:List (Addr×Obj)}{σ:St}{H:Hp}{s:Shared}{a:Addr}{kvs:List (Key×V)}{k:Key}{u:Value}{A:Around}{E:Value->Shared->Prop}
end
def yCP (i:Expr):Prop:=∀ ov iv,subscripted i false ov iv=operate [ov,iv] (getItem ov iv)
theorem yvX {prog:Program}{w:World}{A:Around}{E:Value->Shared->Prop}{s:Shared}{env:Env}{value slice:Expr}{pos:Pos}{T id:String}{Q:Value->Shared->Prop}
  (hl:typeLookup (.type T) "__getitem__" = pure (some (.builtin id))) (hs:yCP slice)
  (h:wpAny (model prog w) A (eval value env) (fun o s₁=>wpAny (model prog w) A (eval slice env) (fun i s₂=>s₂.TypeIs o T/\wpAny (model prog w) A (getItem o i) Q E s₂) E s₁) E s) :
  wpAny (model prog w) A (eval (.Subscript value slice pos) env) Q E s:=by
 refine Subscript_ (wpAny_mono h (fun o s₁ h₁=>wpAny_mono h₁ (fun i s₂ h₂=>?_) fun _ _ x=>x) fun _ _ x=>x)
 obtain ⟨hT,h₂⟩:=h₂
 unfold subscriptTail
 refine wpAny_bind ?_
 rw [getitemInPython_of_ne hT.not_modules]
 refine wpAny_bind (wpAny_specialOf hT hl ?_)
 have fin:wpAny (model prog w) A (subscripted slice false o i) (fun r s₃=>wpAny (model prog w) A (letTemporaryGo value o r >>= fun _=>pure r) Q E s₃) E s₂:=by
  rw [hs o i]
  exact wpAny_operating (wpAny_mono h₂ (fun r s₃ h₃=>wpAny_bind (wpAny_letTemporaryGo (wpAny_pure h₃))) fun _ _ x=>x)
 first
  | exact wpAny_pure (wpAny_bind fin)
  | exact wpAny_bind (wpAny_pure (wpAny_bind fin))
  | exact wpAny_bind fin
theorem ylJ {X:Cx}{pins:List (Addr×Obj)}{σ:St}{H:Hp}{s:Shared}{a:Addr}{y:V}{o:Option V}(I:Inv X pins σ H s) (g:DGet H a y o):s.TypeIs (.ref a) "dict":=by
 rcases g with ⟨kvs,k,e,_,_⟩|⟨kvs,k,b,e,_,_,_⟩
 .obtain ⟨_,_,vs,_,dd⟩:=ysp I.hok e
  exact dd.typeIs
 .obtain ⟨_,_,xs,_,dd⟩:=ysq I.hok e
  exact dd.typeIs
def yzq (td ty:TE):TE:=fun σ H Q=>td σ H fun x H1=>ty σ H1 fun y H2=>∃ a v,x=.ref a/\DGet H2 a y (some v)/\Q v H2
def yEe (ty td:TE):TE:=fun σ H Q=>ty σ H fun y H1=>td σ H1 fun x H2=>∃ a o,x=.ref a/\DGet H2 a y o/\Q (.bl o.isSome) H2
def yzr (td ty tv:TE):TS:=fun D σ H=>tv σ H fun v H1=>td σ H1 fun x H2=>ty σ H2 fun y H3=>∃ a H4,x=.ref a/\DPut H3 a y v H4/\D.nx σ H4
section
variable {X:Cx}{o i e value:Expr}{pos pos' tpos:Pos}{td ty tv:TE}
theorem yvY (hu:X.A.units+1<cLine) (ho:PE X o td) (hi:PE X i ty) (hs:yCP i):PE X (.Subscript o i pos) (yzq td ty):=by
 intro pins s σ H Q I h
 refine yvX PySem.F.slot_dict_getitem.lookup hs (thn (ho pins s σ H _ I h) fun u s1 ⟨x,H1,I1,rx,q1⟩=>thn (hi pins s1 σ H1 _ I1 q1) fun iv s2 ⟨y,H2,I2,ry,a,v,ex,g,q2⟩=>?_)
 subst ex
 obtain rfl:u=Value.ref a:=rx
 exact ⟨ylJ I2 g,ypG hu I2 g ry fun w' s3 I3 rw'=>⟨v,H2,I3,rw',q2⟩⟩
theorem yzs (hu:X.A.units+1<cLine) (hi:PE X i ty) (ho:PE X o td):PC X .In i o (yEe ty td):=by
 intro pins s σ H Q I h
 refine thn (hi pins s σ H _ I h) fun iv s1 ⟨y,H1,I1,ry,q1⟩=>thn (ho pins s1 σ H1 _ I1 q1) fun u s2 ⟨x,H2,I2,rx,a,ov,ex,g,q2⟩=>?_
 subst ex
 obtain rfl:u=Value.ref a:=rx
 exact yEH hu I2 g ry fun s3 I3=>⟨.bl ov.isSome,H2,I3,rfl,q2⟩
theorem yvZ (hu:X.A.units+1<cLine) (ho:PE X o td) (hi:PE X i ty) (hv:PE X value tv) (hs:swapsWith value (some (.Subscript o i pos')) pos.line X.env=pure false) :
  PS X (.Assign [.Subscript o i pos'] value pos) (yzr td ty tv):=by
 intro pins s σ H D I h
 refine wpAny_Assign_Subscript (thn (hv pins s σ H _ I h) fun r s1 ⟨v,H1,I1,rv,q1⟩=>thn (ho pins s1 σ H1 _ I1 q1) fun u s2 ⟨x,H2,I2,rx,q2⟩=>thn (hi pins s2 σ H2 _ I2 q2) fun iv s3 ⟨y,H3,I3,ry,a,H4,ex,g,q3⟩=>?_) hs
 subst ex
 obtain rfl:u=Value.ref a:=rx
 exact ypH hu I3 g ry rv fun s4 I4=>⟨σ,H4,I4,q3⟩
end
theorem ymC {P:Program}{w:World}{H:Hp}(h:Heap) (hb:sysModules<h.objs.size):ObjOk P w H (h.push { cls:=.type "dict",data:=.dict #[] }) h.objs.size (.dK []) :=
 ⟨zero_le _,beq_eq_false_iff_ne.mpr (Ne.symm (ne_of_lt hb)),[],.nil,Heap.DictOf.new h⟩
def yum:TE:=fun _ H Q=>∀ p,H p=none->Q (.ref p) (upd H p (.dK []))
section
variable {X:Cx}{pos:Pos}
theorem ysr:PE X (.Dict [] [] pos) yum:=fun pins s σ H Q I h =>
 wpAny_Dict_empty ⟨.ref s.heap.objs.size,_,I.laid (a:=s.heap.objs.size) (o:=.dK []) (t':=s.toks) (fun _ _ q=>Heap.get?_push_of_some _ q) (Nat.le_refl _) (ymC s.heap I.big),rfl,h _ (I.hok.fresh (Nat.le_refl _))⟩
end
noncomputable def ymD:List (TE×TE)->St->Hp->(List (V×V)->Hp->Prop)->Prop
 | [],_,H,Q=>Q [] H
 | (tk,tv)::r,σ,H,Q=>tk σ H fun x H1=>tv σ H1 fun y H2=>ymD r σ H2 fun ps H3=>Q ((x,y)::ps) H3
abbrev VV:List (V×V)->List (Value×Value)->Prop:=Paired fun p q=>RelV p.1 q.1/\RelV p.2 q.2
def PPs (X:Cx) (pos:Pos) (keys:List (Option Expr)) (values:List Expr) (trs:List (TE×TE)):Prop :=
 ∀ (pins:List (Addr×Obj)) (s:Shared) (σ:St) (H:Hp) (Q:List (V×V)->Hp->Prop),Inv X pins σ H s->ymD trs σ H Q ->
  wpAny (model X.prog X.w) X.A (evalPairs (pairTrees keys values X.env pos)) (fun vs s'=>∃ ps H',Inv X pins σ H' s'/\VV ps vs/\Q ps H') X.xe s
theorem ywa {X:Cx}{pos:Pos}:PPs X pos [] [] []:=fun pins s σ H Q I h=>pairTrees_nil_walk ⟨[],H,I,.nil,h⟩
theorem yss {X:Cx}{pos:Pos}{k v:Expr}{ks:List (Option Expr)}{vs:List Expr}{tk tv:TE}{trs:List (TE×TE)}(hk:PE X k tk) (hv:PE X v tv) (hr:PPs X pos ks vs trs) :
  PPs X pos (some k::ks) (v::vs) ((tk,tv)::trs):=fun pins s σ H Q I h =>
 pairTrees_cons_walk (thn (hk pins s σ H _ I h) fun u s1 ⟨x,H1,I1,rx,q1⟩=>thn (hv pins s1 σ H1 _ I1 q1) fun w2 s2 ⟨y,H2,I2,ry,q2⟩ =>
  thn (hr pins s2 σ H2 _ I2 q2) fun ws s3 ⟨ps,H3,I3,rel,q3⟩=>⟨(x,y)::ps,H3,I3,.cons ⟨rx,ry⟩ rel,q3⟩)
def ygO (kvs more:List (Key×V)):List (Key×V):=more.foldl (fun acc kv=>putK acc kv.1 kv.2) kvs
theorem KV.merge:∀ {more:List (Key×V)}{rs:List (Key×Value)}{kvs:List (Key×V)}{vs:List (Key×Value)},KV more rs->KV kvs vs->KV (ygO kvs more) (merged vs rs):=by
 intro more rs kvs vs r
 unfold KV at r
 induction r generalizing kvs vs with
 | nil=>intro q;exact q
 | @cons p q ps qs h t ih =>
  intro r0
  have e:KV (putK kvs p.1 p.2) (stored vs q.1 q.2):=by
   have:=r0.put p.1 h.2
   rw [<- h.1];exact this
  exact ih e
theorem yfw:∀ (more kvs:List (Key×V)),(ygO kvs more).length<=kvs.length+more.length
 | [],kvs=>by show kvs.length<=kvs.length+0;omega
 | p::r,kvs=>by
  have h1:=yfw r (putK kvs p.1 p.2)
  have h2:=yfb kvs p.1 p.2
  show (ygO (putK kvs p.1 p.2) r).length<=_
  rw [length_cons];omega
theorem yib {P:Program}{w:World}:∀ {kvs:List (Key×V)}{ws:List (Value×Value)},VV (kvs.map fun kv=>(kV kv.1,kv.2)) ws->∃ rs,Carries (ybQ P w) ws rs/\KV kvs rs
 | [],_,r=>by rw [map_nil] at r;cases r;exact ⟨[],True.intro,.nil⟩
 | p::kvs,_,r=>by
  rw [map_cons] at r
  cases r with
  | @cons a b as bs h t =>
   obtain ⟨rs,c,q⟩:=yib (P:=P) (w:=w) t
   obtain ⟨b1,b2⟩:=b
   exact ⟨(p.1,b2)::rs,⟨ypF h.1,rfl,c⟩,.cons ⟨rfl,h.2⟩ q⟩
def yCQ (trs:List (TE×TE)):TE:=fun σ H Q=>∀ p,H p=none->ymD trs σ (upd H p (.dK [])) fun ps H2=>H2 p=some (.dK [])/\∃ kvs:List (Key×V),ps=kvs.map (fun kv=>(kV kv.1,kv.2))/\kvs.length<=15/\Q (.ref p) (upd H2 p (.dK (ygO [] kvs)))
theorem ywb {X:Cx}{pos:Pos}{keys:List (Option Expr)}{values:List Expr}{trs:List (TE×TE)}(h:PPs X pos keys values trs) (hall:keys.all (·.isSome)=true) (hl:keys.length=values.length) (h0:keys≠[])
  (h15:keys.length<=15):PE X (.Dict keys values pos) (yCQ trs):=by
 intro pins s σ H Q I q
 have hn:=I.hok.fresh (Nat.le_refl s.heap.objs.size)
 have I1:=I.laid (a:=s.heap.objs.size) (o:=.dK []) (h':=s.heap.push { cls:=.type "dict",data:=.dict #[] }) (t':=s.toks) (fun _ _ q=>Heap.get?_push_of_some _ q) (Nat.le_refl _) (ymC s.heap I.big)
 refine wpAny_Dict_walk (knd:=ybQ X.prog X.w) hall hl h0 h15 (thn (h pins _ σ _ _ I1 (q _ hn)) fun ws s2 ⟨ps,H2,I2,rel,e,kvs,ep,lk,q2⟩=>?_)
 subst ep
 obtain ⟨rs,c,rk⟩:=yib (P:=X.prog) (w:=X.w) rel
 obtain ⟨z,hd,vs0,r0,dd⟩:=yzp I2.hok e
 cases r0
 refine ⟨rs,c,dd,fun h' dd' hs=>⟨.ref s.heap.objs.size,_,?_,rfl,q2⟩⟩
 have hz:(ygO [] kvs).length<=sizeLine:=by
  have h1:=yfw kvs []
  rw [length_nil] at h1
  rw [sizeLine_eq];omega
 have he:∃ q,h'.get? s.heap.objs.size=some q:=let ⟨q,_,_,hq,_⟩:=dd';⟨q,hq⟩
 exact ylI I2 (by rw [e];exact True.intro) hs he (yul hz hd (rk.merge .nil) dd')
structure M2 (X:Cx) (o:Expr) (m:Str) (apos:Pos) (e f:Expr) (cpos:Pos):Prop where
 base:attributeBase o m X.env (eval o X.env)=eval o X.env
 few:((backTo cpos (starEach [e,f] X.env)).all (fun x=>!x.1) && (backToKw cpos (keywordEach [] X.env)).all (fun x=>x.1.isSome)
  && decide (([e,f]:List Expr).length+([]:List Keyword).length+(if ([]:List Keyword).isEmpty then 0 else 1)<30))=true
 line:(apos.endLine == cpos.line)=true
 trees:backTo cpos (starEach [e,f] X.env)=[(false,eval e X.env),(false,eval f X.env)]
section
variable {X:Cx}{pins:List (Addr×Obj)}{σ:St}{H:Hp}{s:Shared}{a:Addr}{y d:V}{u r:Value}{o:Option V}{A:Around}{E:Value->Shared->Prop}
end
section
variable {X:Cx}{o e f:Expr}{apos cpos:Pos}{td ty tx:TE}
end
section
variable {X:Cx}{pins:List (Addr×Obj)}{σ:St}{H:Hp}{s:Shared}{a:Addr}{kvs:List (Key×V)}{A:Around}{E:Value->Shared->Prop}
end
section
variable {X:Cx}{pins:List (Addr×Obj)}{σ:St}{H:Hp}{s:Shared}{a:Addr}{y:V}{u:Value}{A:Around}{E:Value->Shared->Prop}
end
end L2
namespace Att
open PySem PySem.W PySem.Calls PyProof.Rows
section
variable {prog:Program}{w:World}{A:Around}{E:Value->Shared->Prop}{s:Shared}{K:Frag}
end
end Att
namespace L2
open PySem PySem.Spec PyProof.Rows
end L2
namespace L2
open PySem PySem.Spec PyProof.Rows
end L2
namespace L2
open PySem PySem.Spec PyProof.Rows
section
variable {P:Program}{w:World}{K:PySem.W.Frag}{mg:Str->Option Value}{base:Heap}
end
section
variable {X:Cx}
end
section
variable {κ:Type} [DecidableEq κ]
end
end L2
namespace PX
open PySem L2
variable {K:Ck}
theorem ykf {α:Type}{l:List α}(h:l.Nodup) {i j:Nat}(hi:i<l.length) (hj:j<l.length) (e:l[i]=l[j]):i=j:=by
 have p:=List.pairwise_iff_getElem.mp h
 rcases Nat.lt_trichotomy i j with z|z|z
 .exact absurd e (p i j hi hj z)
 .exact z
 .exact absurd e.symm (p j i hj hi z)
def ynK (W:Wd) (n:Nat) (a:Addr) (o:HO) (d:Nd):Wd:=⟨W.F,upd W.H a o,W.m,W.h.set n d⟩
theorem ygP {W:Wd}(w:WOk K W) {n:Nat}{d d':Nd}{a:Addr}{o:HO}(e:W.h[n]?=some d) (hm:W.m[n]?=some a) (hF:W.F a=none) (at':NdAt K W.F (upd W.H a o) W.m d' a) (nf:∀ ks xs,d≠.fz ks xs:=by intro _ _ z;cases z):Le K W (ynK W n a o d'):=by
 have hn:n<W.h.length:=(List.getElem?_eq_some_iff.mp e).1
 have ham:a∈W.m:=mem_of_getElem? hm
 refine ⟨⟨fun b u q=>?_,by show W.m.length=(W.h.set n d').length;rw [length_set];exact w.len,w.nd,fun j dj b e1 e2=>?_⟩,Same.refl _,prefix_refl _,fun b u q hb=>?_,fun b u _ _ f=>f,fun b z z'=>absurd z z',fun j ks xs e1=>?_⟩
 .have:b≠a:=ybb q hF
  exact (yu this).trans (w.le _ _ q)
 .have e1:(W.h.set n d')[j]?=some dj:=e1
  by_cases hj:n=j
  .subst hj
   rw [getElem?_set_self hn] at e1
   cases e1
   have e2:W.m[n]?=some b:=e2
   rw [hm] at e2
   cases e2
   exact at'
  .rw [getElem?_set_ne hj] at e1
   have e2:W.m[j]?=some b:=e2
   have hb:b≠a:=fun z=>by
    subst z
    have h1:=(List.getElem?_eq_some_iff.mp hm)
    have h2:=(List.getElem?_eq_some_iff.mp e2)
    obtain ⟨l1,q1⟩:=h1
    obtain ⟨l2,q2⟩:=h2
    exact hj (ykf w.nd l1 l2 (q1.trans q2.symm))
   exact (w.at_ j dj b e1 e2).mono (Same.refl _) (prefix_refl _) (fun u q=>(yu hb).trans q) id
 .have:b≠a:=fun z=>hb (z ▸ ham)
  exact (yu this).trans q
 .have hj:n≠j:=fun z=>by
   subst z
   rw [e] at e1
   cases e1
   exact nf _ _ rfl
  refine ⟨(getElem?_set_ne hj).trans e1,fun b e2=>yu fun z=>?_⟩
  subst z
  obtain ⟨l1,q1⟩:=List.getElem?_eq_some_iff.mp hm
  obtain ⟨l2,q2⟩:=List.getElem?_eq_some_iff.mp e2
  exact hj (ykf w.nd l1 l2 (q1.trans q2.symm))
def ynL:PV->AH->Bool:=fun x h=>match ybs x h with|some _=>true|none=>false
theorem yst {W:Wd}{x:PV}{v:V}(w:WOk K W) (r:ycm K W x v) (c:ynL x W.h=true):tyV K.K "list" v W.H:=by
 unfold ynL at c
 split at c
 .rename_i xs hx
  obtain ⟨a,vs,rfl,hs,_⟩:=yQ w hx r
  exact .inl ⟨rfl,vs,SqL.of hs⟩
 .cases c
noncomputable def ynM:PM:=fun x ys h=>match x,ys with|.loc n,[y]=>(match h[n]? with|some (.lst xs)=>if xs.length<100000 then some (.non,h.set n (.lst (xs++[y]))) else none|_=>none)|_,_=>none
theorem yzt:ypi K "list" ynL ylg ynM:=by
 refine ⟨fun W x v w r c=>yst w r c,fun W x v xs vs Q z h' w rx r e q=>?_⟩
 unfold ynM at e
 split at e
 .rename_i n y
  split at e
  .rename_i ys hn
   split at e
   .rename_i hl
    cases e
    obtain ⟨u,rfl,ru⟩:=ylG r
    obtain ⟨a,ev,hm,hf,us,hp,rs⟩:=w.loc hn rx
    refine ⟨a,us,u,ev,rfl,hp,by rw [rs.len];exact big hl,?_⟩
    exact q .non (ynK W n a (.lst (us++[u])) (.lst (ys++[y]))) rfl (ygP w hn hm hf ⟨hf,_,yr,rs.snoc ru⟩) rfl
   .cases e
  .cases e
 .cases e
def yfc (eo ei ev:XE):XS:=fun ρ h=>ob (ev ρ h) fun v h1=>ob (eo ρ h1) fun o h2=>ob (ei ρ h2) fun i h3=>match o,i with
 | .loc n,.int k=>(match h3[n]? with|some (.lst xs)=>(match ixN xs.length k with|some j=>some (.nx ρ,h3.set n (.lst (xs.set j v)))|none=>none)|_=>none)
 | _,_=>none
theorem ysu {to ti tv:TE}{eo ei ev:XE}(a:yby K to eo) (b:yby K ti ei) (c:yby K tv ev):yeS K (ytJ tv (yDK to ti yyl)) (yfc eo ei ev):=by
 intro W0 W ρ σ D o h' g e q
 obtain ⟨v,h1,e1,f1⟩:=yg e
 obtain ⟨x,h2,e2,f2⟩:=yg f1
 obtain ⟨i,h3,e3,f3⟩:=yg f2
 refine c W0 W ρ σ _ v h1 g e1 fun vv W1 w1 l1 r1=>?_
 subst w1
 refine a W0 W1 ρ σ _ x h2 (g.step l1) e2 fun vx W2 w2 l2 r2=>?_
 subst w2
 refine b W0 W2 ρ σ _ i h3 (g.step (l1.trans l2)) e3 fun vi W3 w3 l3 r3=>?_
 subst w3
 have w:=l3.ok
 split at f3
 .rename_i n k
  split at f3
  .rename_i xs hn
   split at f3
   .rename_i j hj
    cases f3
    obtain ⟨p,ep,hm,hf,us,hp,rs⟩:=w.loc hn (l3.rep r2)
    refine ⟨p,us,k,j,ep,r3,hp,by rw [rs.len];exact hj,?_⟩
    have l4:Le K W3 (ynK W3 n p (.lst (us.set j vv)) (.lst (xs.set j v))):=ygP w hn hm hf ⟨hf,_,yr,rs.set j ((l2.trans l3).rep r1)⟩
    have l:=l1.trans (l2.trans (l3.trans l4))
    exact q _ σ rfl l.lf (g.step l)
   .cases f3
  .cases f3
 .cases f3
def keyOf:PV->Option Key
 | .int i=>some (.inl i)
 | .str s=>some (.inr s)
 | _=>none
theorem ygQ {W:Wd}{x:PV}{v:V}{k:Key}(e:keyOf x=some k) (r:ycm K W x v):v=kV k:=by
 cases x<;>cases e<;>exact r
noncomputable def ynN (x:PV) (h:AH):Option (List Key×List PV):=match x with|.loc n=>(match h[n]? with|some (.dct ks xs)=>some (ks,xs)|_=>none)|_=>none
def ykg:List Key->List PV->Key->Option PV
 | k::ks,x::xs,j=>if k=j then some x else ykg ks xs j
 | _,_,_=>none
def yrm:List Key->Key->Bool
 | [],_=>false
 | k::ks,j=>if k=j then true else yrm ks j
noncomputable def setK {α:Type}:List Key->List α->Key->α->List α
 | k::ks,x::xs,j,y=>if k=j then y::setK ks xs j y else x::setK ks xs j y
 | _,xs,_,_=>xs
def ydc (ks:List Key) (xs:List PV) (k:Key) (x:PV):List Key×List PV:=if yrm ks k=true then (ks,setK ks xs k x) else (ks++[k],xs++[x])
theorem ymE {α:Type}:∀ (ks:List Key) (xs:List α) (j:Key) (y:α),(setK ks xs j y).length=xs.length
 | [],_,_,_=>by simp [setK]
 | _::_,[],_,_=>by simp [setK]
 | k::ks,x::xs,j,y=>by
  show (if k=j then y::setK ks xs j y else x::setK ks xs j y).length=_
  split<;>simp [ymE ks xs j y]
theorem RepL.setK {F:Hp}{m:List Addr}:∀ {xs:List PV}{vs:List V}(ks:List Key) (j:Key) {y:PV}{u:V},RepL K F m xs vs->Rep K F m y u->RepL K F m (PX.setK ks xs j y) (PX.setK ks vs j u)
 | [],_,ks,j,y,u,h,_=>by rw [show _=[] from h];cases ks<;>exact rfl
 | x::xs,_,[],j,y,u,h,_=>by
  obtain ⟨v,r,e,h1,l⟩:=h
  subst e
  exact ⟨v,r,rfl,h1,l⟩
 | x::xs,_,k::ks,j,y,u,⟨v,r,e,h1,l⟩,ru=>by
  subst e
  show RepL K F m (if k=j then y::PX.setK ks xs j y else x::PX.setK ks xs j y) (if k=j then u::PX.setK ks r j u else v::PX.setK ks r j u)
  have ih:=RepL.setK ks j l ru
  split
  .exact ⟨u,_,rfl,ru,ih⟩
  .exact ⟨v,_,rfl,h1,ih⟩
theorem yiK {F:Hp}{m:List Addr}:∀ {ks:List Key}{xs:List PV}{vs:List V}(j:Key),RepL K F m xs vs->vs.length=ks.length->(∀ x,ykg ks xs j=some x->∃ v,yjs (ks.zip vs) j=some v/\Rep K F m x v)/\(ykg ks xs j=none->yjs (ks.zip vs) j=none)
 | [],xs,vs,j,r,hl=>by
  refine ⟨fun x e=>?_,fun _=>rfl⟩
  cases xs<;>cases e
 | k::ks,[],vs,j,r,hl=>by rw [show vs=[] from r] at hl;cases hl
 | k::ks,x::xs,_,j,⟨v,r',e,h,l⟩,hl=>by
  subst e
  have ih:=yiK j l (by simpa using hl)
  have hz:yjs ((k::ks).zip (v::r')) j=if k=j then some v else yjs (ks.zip r') j:=by
   unfold yjs
   rw [zip_cons_cons,find?_cons]
   by_cases hk:k=j
   .simp [hk]
   .simp [hk]
  rw [hz]
  show (∀ y,(if k=j then some x else ykg ks xs j)=some y->_)/\((if k=j then some x else ykg ks xs j)=none->_)
  by_cases hk:k=j
  .rw [if_pos hk,if_pos hk]
   exact ⟨fun y e=>by cases e;exact ⟨v,rfl,h⟩,fun e=>by cases e⟩
  .rw [if_neg hk,if_neg hk]
   exact ih
theorem ypI (j:Key):∀ (ks:List Key) (vs:List V),vs.length=ks.length->((ks.zip vs).any fun kv=>decide (kv.1=j))=yrm ks j
 | [],_,_=>by simp [yrm]
 | k::ks,[],h=>by cases h
 | k::ks,v::vs,h=>by
  rw [zip_cons_cons,any_cons,ypI j ks vs (by simpa using h)]
  show (decide (k=j) || yrm ks j)=if k=j then true else yrm ks j
  by_cases hk:k=j<;>simp [hk]
theorem ypJ (j:Key) (y:V):∀ (ks:List Key) (vs:List V),vs.length=ks.length->(ks.zip vs).map (fun kv=>if kv.1=j then (kv.1,y) else kv)=ks.zip (setK ks vs j y)
 | [],_,_=>by simp
 | k::ks,[],h=>by cases h
 | k::ks,v::vs,h=>by
  rw [zip_cons_cons,map_cons,ypJ j y ks vs (by simpa using h)]
  show (if k=j then (k,y) else (k,v))::_=(k::ks).zip (if k=j then y::setK ks vs j y else v::setK ks vs j y)
  by_cases hk:k=j
  .rw [if_pos hk,if_pos hk];rfl
  .rw [if_neg hk,if_neg hk];rfl
theorem ysv (j:Key) (y:V) (ks:List Key) (vs:List V) (hl:vs.length=ks.length):putK (ks.zip vs) j y=if yrm ks j=true then ks.zip (setK ks vs j y) else (ks++[j]).zip (vs++[y]):=by
 unfold putK
 rw [ypI j ks vs hl,ypJ j y ks vs hl,List.zip_append hl.symm]
 rfl
theorem ykh {W:Wd}(w:WOk K W) {x:PV}{v:V}{ks:List Key}{xs:List PV}(e:ynN x W.h=some (ks,xs)) (r:ycm K W x v):∃ a vs,v=.ref a/\W.H a=some (.dK (ks.zip vs))/\vs.length=ks.length/\ycj K W xs vs:=by
 unfold ynN at e
 split at e
 .split at e
  .rename_i hn
   cases e
   obtain ⟨a,ev,hm,hf,vs,hp,hl,rs⟩:=w.loc hn r
   exact ⟨a,vs,ev,hp,hl,rs⟩
  .cases e
 .cases e
noncomputable def ysw (x:PV) (h:AH):Option (List Key×List PV):=match x with|.loc n=>(match h[n]? with|some (.dct ks xs)=>some (ks,xs)|some (.fz ks xs)=>some (ks,xs)|_=>none)|_=>none
theorem ymF {W:Wd}(w:WOk K W) {x:PV}{v:V}{ks:List Key}{xs:List PV}(e:ysw x W.h=some (ks,xs)) (r:ycm K W x v):∃ a vs,v=.ref a/\Rd W.H a (.dK (ks.zip vs))/\vs.length=ks.length/\ycj K W xs vs:=by
 unfold ysw at e
 split at e
 .split at e
  .rename_i hn
   cases e
   obtain ⟨a,ev,hm,hf,vs,hp,hl,rs⟩:=w.loc hn r
   exact ⟨a,vs,ev,.inl hp,hl,rs⟩
  .rename_i hn
   cases e
   obtain ⟨a,ev,hm,hf,o,vs,hp,hl,rs⟩:=w.loc hn r
   exact ⟨a,vs,ev,.inr ⟨o,hp⟩,hl,rs⟩
  .cases e
 .cases e
theorem DGet.r {H:Hp}{a:Addr}{kvs:List (Key×V)}{k:Key}(e:Rd H a (.dK kvs)):DGet H a (kV k) (yjs kvs k):=.inl ⟨kvs,k,e,rfl,rfl⟩
def ybn (ed ek:XE):XE:=fun ρ h=>ob (ed ρ h) fun d h1=>ob (ek ρ h1) fun k h2=>match ysw d h2,keyOf k with|some (ks,xs),some j=>(match ykg ks xs j with|some x=>some (x,h2)|none=>none)|_,_=>none
theorem ysx {td ty:TE}{ed ek:XE}(a:yby K td ed) (b:yby K ty ek):yby K (yzq td ty) (ybn ed ek):=by
 intro W0 W ρ σ Q z h' g e q
 obtain ⟨d,h1,e1,f1⟩:=yg e
 obtain ⟨k,h2,e2,f2⟩:=yg f1
 refine a W0 W ρ σ _ d h1 g e1 fun vd W1 w1 l1 r1=>?_
 subst w1
 refine b W0 W1 ρ σ _ k h2 (g.step l1) e2 fun vk W2 w2 l2 r2=>?_
 subst w2
 split at f2
 .rename_i ks xs j hd hk
  split at f2
  .rename_i x hx
   cases f2
   obtain ⟨p,vs,ev,hp,hl,rs⟩:=ymF l2.ok hd (l2.rep r1)
   obtain ⟨v,h3,h4⟩:=(yiK j rs hl).1 _ hx
   have:=ygQ hk r2
   subst this
   exact ⟨p,v,ev,by rw [<- h3];exact DGet.r hp,q _ W2 rfl (l1.trans l2) h4⟩
  .cases f2
 .cases f2
def yxx (neg:Bool) (ek ed:XE):XE:=fun ρ h=>ob (ek ρ h) fun k h1=>ob (ed ρ h1) fun d h2=>match ysw d h2,keyOf k with|some (ks,xs),some j=>some (.bl (if neg then !(ykg ks xs j).isSome else (ykg ks xs j).isSome),h2)|_,_=>none
theorem ynO {F:Hp}{m:List Addr}{ks:List Key}{xs:List PV}{vs:List V}(j:Key) (r:RepL K F m xs vs) (hl:vs.length=ks.length):(yjs (ks.zip vs) j).isSome=(ykg ks xs j).isSome:=by
 have h:=yiK j r hl
 cases e:ykg ks xs j with
 | none=>rw [h.2 e];rfl
 | some x=>obtain ⟨v,h1,_⟩:=h.1 x e;rw [h1];rfl
theorem ywc {td ty:TE}{ed ek:XE}(b:yby K ty ek) (a:yby K td ed):yby K (yEe ty td) (yxx false ek ed):=by
 intro W0 W ρ σ Q z h' g e q
 obtain ⟨k,h1,e1,f1⟩:=yg e
 obtain ⟨d,h2,e2,f2⟩:=yg f1
 refine b W0 W ρ σ _ k h1 g e1 fun vk W1 w1 l1 r1=>?_
 subst w1
 refine a W0 W1 ρ σ _ d h2 (g.step l1) e2 fun vd W2 w2 l2 r2=>?_
 subst w2
 split at f2
 .rename_i ks xs j hd hk
  cases f2
  obtain ⟨p,vs,ev,hp,hl,rs⟩:=ymF l2.ok hd r2
  have:=ygQ hk (l2.rep r1)
  subst this
  exact ⟨p,_,ev,DGet.r hp,q _ W2 rfl (l1.trans l2) (by rw [ynO j rs hl];rfl)⟩
 .cases f2
def yfx (ed ek ev:XE):XS:=fun ρ h=>ob (ev ρ h) fun v h1=>ob (ed ρ h1) fun d h2=>ob (ek ρ h2) fun k h3=>match d,keyOf k with
 | .loc n,some j=>(match h3[n]? with|some (.dct ks xs)=>if ks.length<1000 then some (.nx ρ,h3.set n (.dct (ydc ks xs j v).1 (ydc ks xs j v).2)) else none|_=>none)
 | _,_=>none
theorem ysy {td ty tv:TE}{ed ek ev:XE}(a:yby K td ed) (b:yby K ty ek) (c:yby K tv ev):yeS K (yzr td ty tv) (yfx ed ek ev):=by
 intro W0 W ρ σ D o h' g e q
 obtain ⟨v,h1,e1,f1⟩:=yg e
 obtain ⟨x,h2,e2,f2⟩:=yg f1
 obtain ⟨i,h3,e3,f3⟩:=yg f2
 refine c W0 W ρ σ _ v h1 g e1 fun vv W1 w1 l1 r1=>?_
 subst w1
 refine a W0 W1 ρ σ _ x h2 (g.step l1) e2 fun vx W2 w2 l2 r2=>?_
 subst w2
 refine b W0 W2 ρ σ _ i h3 (g.step (l1.trans l2)) e3 fun vi W3 w3 l3 r3=>?_
 subst w3
 have w:=l3.ok
 split at f3
 .rename_i n j hk
  split at f3
  .rename_i ks xs hn
   split at f3
   .rename_i hc
    cases f3
    obtain ⟨p,ep,hm,hf,us,hp,hl,rs⟩:=w.loc hn (l3.rep r2)
    have:=ygQ hk r3
    subst this
    have hput:=ysv j vv ks us hl
    have rv:=(l2.trans l3).rep r1
    have key:∃ us',putK (ks.zip us) j vv=(ydc ks xs j v).1.zip us'/\us'.length=(ydc ks xs j v).1.length/\ycj K W3 (ydc ks xs j v).2 us':=by
     unfold ydc
     by_cases hj:yrm ks j=true
     .rw [if_pos hj] at hput ⊢
      exact ⟨_,hput,by rw [ymE];exact hl,rs.setK ks j rv⟩
     .rw [if_neg hj] at hput ⊢
      exact ⟨_,hput,by rw [length_append,length_append,hl];rfl,rs.snoc rv⟩
    obtain ⟨us',p1,p2,p3⟩:=key
    refine ⟨p,_,ep,DPut.k hp (by rw [length_zip,hl];exact yjE (by omega)),?_⟩
    rw [p1]
    have l4:Le K W3 (ynK W3 n p (.dK ((ydc ks xs j v).1.zip us')) (.dct (ydc ks xs j v).1 (ydc ks xs j v).2)):=ygP w hn hm hf ⟨hf,us',yr,p2,p3⟩
    have l:=l1.trans (l2.trans (l3.trans l4))
    exact q _ σ rfl l.lf (g.step l)
   .cases f3
  .cases f3
 .cases f3
def ypK:XO:=fun _ h=>some (.dct [] [],h)
theorem ysz:ykT K yum ypK:=by
 intro W0 W ρ σ Q d h' g e q
 cases e
 intro p hp
 exact q p (yfo W p (.dK [])) rfl (ycc g.ok hp) (g.ok.out hp) hp (fun z=>by cases z) ⟨g.ok.ff hp,[],yr,rfl,rfl⟩
end PX
namespace PX
open PySem L2
variable {K:Ck}
theorem ylK {x:PV}{u:V}(e:sv x=some u):ynt u=true:=by cases x<;>cases e<;>rfl
end PX
namespace PX
open PySem L2
theorem yCR [i:Decidable True]:decide True=true:=by simp
theorem yCS [i:Decidable False]:decide False=false:=by simp
theorem yCT:(false=true)=False:=by simp
theorem yCU:(true=false)=False:=by simp
theorem ysA {g:XG}{s:XS}{xs:List PV}(I:Nat->PSt->AH->Prop) (R:PV->AH->Prop) {ρ:PSt}{h:AH}(h0:I 0 ρ h)
  (step:∀ (i:Nat) (x:PV) (ρ:PSt) (h:AH),xs[i]?=some x->I i ρ h->∃ ρ1 o h',g x ρ=some ρ1/\s ρ1 h=some (o,h')/\(match o with|.nx ρ'=>I (i+1) ρ' h'|.ct ρ'=>I (i+1) ρ' h'|.bk _=>False|.rt y=>R y h')) :
  (∃ ρ' h',yhB g s xs ρ h=some (.nx ρ',h')/\I xs.length ρ' h')\/∃ y h',yhB g s xs ρ h=some (.rt y,h')/\R y h':=by
 have key:∀ (n i:Nat) (ρ:PSt) (h:AH),i+n=xs.length->I i ρ h->(∃ ρ' h',yhB g s (xs.drop i) ρ h=some (.nx ρ',h')/\I xs.length ρ' h')\/∃ y h',yhB g s (xs.drop i) ρ h=some (.rt y,h')/\R y h':=by
  intro n
  induction n with
  | zero =>
   intro i ρ h hi hI
   have:i=xs.length:=by omega
   subst this
   rw [List.drop_length]
   exact .inl ⟨ρ,h,rfl,hI⟩
  | succ n ih =>
   intro i ρ h hi hI
   have hlt:i<xs.length:=by omega
   obtain ⟨ρ1,o,h',e1,e2,e3⟩:=step i xs[i] ρ h (List.getElem?_eq_getElem hlt) hI
   rw [List.drop_eq_getElem_cons hlt,yzf,e1,bind_some,e2,yce]
   cases o with
   | nx ρ'=>exact ih (i+1) ρ' h' (by omega) e3
   | ct ρ'=>exact ih (i+1) ρ' h' (by omega) e3
   | bk ρ'=>exact e3.elim
   | rt y=>exact .inr ⟨y,h',rfl,e3⟩
 simpa using key xs.length 0 ρ h (by omega) h0
theorem ywd {g:XG}{s:XS}{xs:List PV}(I:Nat->PSt->AH->Prop) {ρ:PSt}{h:AH}(h0:I 0 ρ h)
  (step:∀ (i:Nat) (x:PV) (ρ:PSt) (h:AH),xs[i]?=some x->I i ρ h->∃ ρ1 ρ' h',g x ρ=some ρ1/\(s ρ1 h=some (.nx ρ',h')\/s ρ1 h=some (.ct ρ',h'))/\I (i+1) ρ' h') :
  ∃ ρ' h',yhB g s xs ρ h=some (.nx ρ',h')/\I xs.length ρ' h':=by
 rcases ysA I (fun _ _=>False) h0 (fun i x ρ h hx hI=>by
  obtain ⟨ρ1,ρ',h',e1,e2,e3⟩:=step i x ρ h hx hI
  rcases e2 with e2|e2
  .exact ⟨ρ1,.nx ρ',h',e1,e2,e3⟩
  .exact ⟨ρ1,.ct ρ',h',e1,e2,e3⟩) with q|⟨_,_,_,q⟩
 .exact q
 .exact q.elim
theorem ygR {β:Type}{g:XG}{s:XS}{xs:List PV}(I:Nat->PSt->AH->Prop) {ρ:PSt}{h:AH}{f:Out->AH->Option β}{r:Option β}(h0:I 0 ρ h)
  (step:∀ (i:Nat) (x:PV) (ρ:PSt) (h:AH),xs[i]?=some x->I i ρ h->∃ ρ1 ρ' h',g x ρ=some ρ1/\(s ρ1 h=some (.nx ρ',h')\/s ρ1 h=some (.ct ρ',h'))/\I (i+1) ρ' h')
  (fin:∀ ρ' h',I xs.length ρ' h'->f (.nx ρ') h'=r):ob (yhB g s xs ρ h) f=r:=by
 obtain ⟨ρ',h',e,hI⟩:=ywd I h0 step
 rw [e]
 exact fin ρ' h' hI
theorem ymG {c:XT}{s:XS}{n:Nat}{ρ:PSt}{h:AH}:whl c s (n+1) ρ h=ob (c ρ h) fun k h1=>if k=true then ob (s ρ h1) fun o h2=>(match o with|.nx ρ'=>whl c s n ρ' h2|.ct ρ'=>whl c s n ρ' h2|.bk ρ'=>some (.nx ρ',h2)|.rt y=>some (.rt y,h2)) else some (.nx ρ,h1):=rfl
theorem ymH {a:XA}{ρ:PSt}{h h1:AH}{j:Int}(e:a ρ h=some ([.int j],h1)) (h0:-1000000000<=j) (h2:j<=1000000000):ynF a ρ h=some (yhG 0 j.toNat,h1):=by
 unfold ynF
 rw [e,yce]
 show (if _ then _ else _)=_
 rw [if_pos ⟨h0,h2⟩]
theorem yfU {α:Type}{e:XE}{inn:PV->PSt}(f g:α->PV):∀ {ts:List α}{h:AH},(∀ t∈ts,e (inn (f t)) h=some (g t,h))->ygn e inn (ts.map f) h=some (ts.map g,h)
 | [],_,_=>rfl
 | t::ts,h,k=>by
  show ob (e (inn (f t)) h) (fun y h1=>ob (ygn e inn (ts.map f) h1) fun ys h2=>some (y::ys,h2))=_
  rw [k t mem_cons_self,yce,yfU f g fun y hy=>k y (mem_cons_of_mem _ hy),yce]
  rfl
theorem yun {i:Nat}{e:XE}{ρ:PSt}{h:AH}{xs:List PV}(hx:ρ[i]?=some (.own (.lst xs))):ylD i e ρ h=ob (e ρ h) fun x h1=>if xs.length<100000 then some (.nx (ρ.set i (.own (.lst (xs++[x])))),h1) else none:=by
 unfold ylD
 rw [hx]
theorem yCV {α:Type}{a0:α}{xs:List α}:atI (a0::xs) 0=some a0:=ydS (j:=0) rfl
theorem yfy {h:AH}{n:Nat}{xs:List PV}(e:h[n]?=some (.lst xs)):ybd [.loc n] h=some (.lst xs,h):=by
 unfold ybd listOf
 simp only [e]
theorem yiL {h:AH}{n:Nat}{xs:List PV}(e:h[n]?=some (.lst xs)):ycD [.loc n] h=some (.int xs.length,h):=by
 unfold ycD ypw
 simp only [e]
theorem ywe {h:AH}{n:Nat}{xs:List PV}{y:PV}(e:h[n]?=some (.lst xs)) (hl:xs.length<100000):ynM (.loc n) [y] h=some (.non,h.set n (.lst (xs++[y]))):=by
 unfold ynM
 simp only [e]
 rw [if_pos hl]
theorem ypL {h:AH}{n:Nat}{xs:List PV}(e:h[n]?=some (.lst xs)):ynL (.loc n) h=true:=by
 unfold ynL ybs
 simp only [e]
end PX
namespace PX
open PySem L2
variable {K:Ck}
section
variable {ta:TE}{ea:XE}
def ynP (i:Nat) (e:XE):XS:=fun ρ h=>match ρ[i]? with
 | some (.own (.lst xs))=>ob (e ρ h) fun x h1=>(match x with|.lst ys=>if xs.length+ys.length<=100000 then some (.nx (ρ.set i (.own (.lst (xs++ys)))),h1) else none|_=>none)
 | _=>none
theorem ysB (i:Nat) (a:yby K ta ea):yeS K (yov (tBM K.K "list" yoW (yol i) (ylb ta ytQ))) (ynP i ea):=by
 intro W0 W ρ σ D o h' g e q
 unfold ynP at e
 split at e
 .rename_i xs0 hx
  obtain ⟨x,h1,e1,f1⟩:=yg e
  split at f1
  .rename_i ys
   split at f1
   .rename_i hlen
    cases f1
    obtain ⟨p,a1,a2,a3,a4,hf,vs,hp,r⟩:=g.own i _ hx
    refine ⟨.ref p,a1,.inl ⟨rfl,_,SqL.of hp⟩,?_⟩
    refine a W0 W ρ σ _ _ _ g e1 fun v W1 w1 l1 r1=>?_
    obtain ⟨b,us,rfl,hb,rb⟩:=r1
    refine ⟨p,b,vs,us,rfl,rfl,l1.keep _ _ hp a2,l1.ok.le _ _ hb,by rw [r.len,rb.len];exact yua hlen,?_⟩
    have g1:=g.step l1
    obtain ⟨p',b1,b2,b3,b4,b5,vs',b6,b7⟩:=g1.own i _ hx
    rw [a1] at b1
    cases b1
    rw [l1.keep _ _ hp a2] at b6
    cases b6
    exact q (ypp W1 p (.lst (vs++us))) σ w1 (ypq l1 b2) (g1.mut hx a1 b2 b3 b5 (fun z=>by cases z) ⟨b5,_,yr,b7.app rb⟩)
   .cases f1
  .cases f1
 .cases e
def ypM (i:Nat):XE:=fun ρ h=>match ρ[i]? with|some (.own (.lst xs))=>some (.int xs.length,h)|_=>none
theorem ysC (i:Nat):yby K (tCB (yyo K.K) (ylb (yol i) ytQ)) (ypM i):=by
 intro W0 W ρ σ Q x h' g e q
 unfold ypM at e
 split at e
 .rename_i xs hx
  cases e
  obtain ⟨p,a1,a2,a3,a4,hf,vs,hp,r⟩:=g.own i _ hx
  refine ⟨.ref p,a1,p,vs,rfl,.inl (SqL.of hp),?_⟩
  rw [r.len]
  exact q _ W rfl (.refl g.ok) rfl
 .cases e
end
end PX
namespace PX
open PySem L2
variable {K:Ck}
def yzu (K:PySem.W.Frag):R2:=fun x y H Q=>∃ l b xs zs,x=.ref l/\y=.ref b/\SqL K H l xs/\SqL K H b zs/\xs.length+zs.length<=sizeLine/\∀ p,H p=none->Q (.ref p) (upd H p (.lst (xs++zs)))
def ysD:P2O:=fun x y h=>match listOf x h,listOf y h with|some xs,some ys=>if xs.length+ys.length<=100000 then some (.lst (xs++ys),h) else none|_,_=>none
theorem yzv:yjZ K (yzu K.K) ysD:=by
 intro W x y v u Q d h' w rx ry e q
 unfold ysD at e
 split at e
 .rename_i xs ys hx hy
  split at e
  .rename_i hl
   cases e
   obtain ⟨a,us,rfl,ha,ra⟩:=yeG w hx rx
   obtain ⟨b,vs,rfl,hb,rb⟩:=yeG w hy ry
   exact ⟨a,b,us,vs,rfl,rfl,ha,hb,by rw [ra.len,rb.len];exact yua hl,fun p hp=>yxv w hp (ra.app rb) q⟩
  .cases e
 .cases e
end PX
namespace PX
open PySem L2
variable {K:Ck}
def Odd (K:PySem.W.Frag) (H:Hp):Prop:=∃ a o ob,H a=some o/\K.lookup a=some ob
inductive EqR (K:PySem.W.Frag) (H:Hp):Nat->V->V->Bool->Prop where
 | flat {n:Nat}{x y:V}(fx:ynt x=true) (fy:ynt y=true):EqR K H n x y (eqV x y)
 | same {n:Nat}{a:Addr}:EqR K H n (.ref a) (.ref a) true
 | odd {n:Nat}{x y:V}{b:Bool}(h:Odd K H):EqR K H n x y b
 | nt {n:Nat}{b:Addr}{ys:List V}(hb:SqT K H b ys):EqR K H (n+1) .non (.ref b) false
 | tn {n:Nat}{b:Addr}{ys:List V}(hb:SqT K H b ys):EqR K H (n+1) (.ref b) .non false
 | lst {n:Nat}{a b:Addr}{xs ys:List V}{e:Nat->Bool}(ha:H a=some (.lst xs)) (hb:H b=some (.lst ys)) (hl:xs.length=ys.length) (hne:a≠b) (he:∀ j x y,xs[j]?=some x->ys[j]?=some y->EqR K H n x y (e j)):EqR K H (n+1) (.ref a) (.ref b) ((List.range xs.length).all e)
 | lstN {n:Nat}{a b:Addr}{xs ys:List V}(ha:H a=some (.lst xs)) (hb:H b=some (.lst ys)) (hl:xs.length≠ys.length):EqR K H (n+1) (.ref a) (.ref b) false
 | tup {n:Nat}{a b:Addr}{xs ys:List V}{e:Nat->Bool}(ha:SqT K H a xs) (hb:SqT K H b ys) (hne:a≠b) (he:∀ j x y,xs[j]?=some x->ys[j]?=some y->EqR K H n x y (e j)):EqR K H (n+1) (.ref a) (.ref b) ((List.range (min xs.length ys.length)).all e && xs.length == ys.length)
inductive RcR (K:PySem.W.Frag) (H:Hp):V->V->Bool->Prop where
 | nt {b:Addr}{ys:List V}(hb:SqT K H b ys):RcR K H .non (.ref b) false
 | tn {b:Addr}{ys:List V}(hb:SqT K H b ys):RcR K H (.ref b) .non false
 | lst {a b:Addr}{xs ys:List V}{e:Nat->Bool}(ha:H a=some (.lst xs)) (hb:H b=some (.lst ys)) (hl:xs.length=ys.length) (he:∀ j x y,xs[j]?=some x->ys[j]?=some y->EqR K H 40 x y (e j)):RcR K H (.ref a) (.ref b) ((List.range xs.length).all e)
 | lstN {a b:Addr}{xs ys:List V}(ha:H a=some (.lst xs)) (hb:H b=some (.lst ys)) (hl:xs.length≠ys.length):RcR K H (.ref a) (.ref b) false
 | tup {a b:Addr}{xs ys:List V}{e:Nat->Bool}(ha:SqT K H a xs) (hb:SqT K H b ys) (he:∀ j x y,xs[j]?=some x->ys[j]?=some y->EqR K H 40 x y (e j)):RcR K H (.ref a) (.ref b) ((List.range (min xs.length ys.length)).all e && xs.length == ys.length)
def yEf (K:PySem.W.Frag):R2:=fun x y H Q=>∃ b,RcR K H x y b/\Q (.bl b) H
def yEg (K:PySem.W.Frag):R2:=fun x y H Q=>∃ b,RcR K H x y b/\Q (.bl (!b)) H
noncomputable def yfO (f:PV->PV->Option Bool):List PV->List PV->Option Bool
 | x::xs,y::ys=>(match f x y,yfO f xs ys with|some b,some c=>some (b && c)|_,_=>none)
 | _,_=>some true
def pairE (f:PV->PV->Option Bool) (h:AH) (x y:PV):Option Bool:=match x,y with
 | .tup xs,.tup ys=>(match yfO f xs ys with|some b=>some (b && xs.length == ys.length)|none=>none)
 | .non,.tup _=>some false
 | .tup _,.non=>some false
 | x,y=>(match ybs x h,ybs y h with|some xs,some ys=>if xs.length=ys.length then yfO f xs ys else some false|_,_=>none)
def eqP:Nat->AH->PV->PV->Option Bool
 | 0,_,_,_=>none
 | n+1,h,x,y=>match sv x,sv y with
  | some u,some v=>some (eqV u v)
  | _,_=>pairE (eqP n h) h x y
theorem yiM:∀ {v:V},ynt v=true->eqV v v=true
 | .non,_=>rfl
 | .bl b,_=>by cases b<;>rfl
 | .int i,_=>by simp [eqV]
 | .str s,_=>by simp [eqV]
noncomputable def unV:Value->Option V
 | .none=>some .non
 | .bool b=>some (.bl b)
 | .int i _=>some (.int i)
 | .str x _=>some (.str x)
 | .bytes b _=>some (.byt b)
 | .float b _=>some (.flt b)
 | .ref a=>some (.ref a)
 | .type n=>some (.ty n)
 | _=>none
theorem yuo:∀ {v:V}{u:Value},RelV v u->unV u=some v
 | .non,_,h=>by rw [show _=Value.none from h];rfl
 | .bl _,_,h=>by rw [show _=Value.bool _ from h];rfl
 | .int _,_,⟨_,h⟩=>by rw [h];rfl
 | .str _,_,⟨_,h⟩=>by rw [h];rfl
 | .byt _,_,⟨_,h⟩=>by rw [h];rfl
 | .flt _,_,⟨_,h⟩=>by rw [h];rfl
 | .ref _,_,h=>by rw [show _=Value.ref _ from h];rfl
 | .ty _,_,h=>by rw [show _=Value.type _ from h];rfl
theorem ywf {v w:V}{u:Value}(h1:RelV v u) (h2:RelV w u):v=w:=Option.some.inj ((yuo h1).symm.trans (yuo h2))
theorem ysE {vs ws:List V}{us:List Value}(h1:Vals vs us):Vals ws us->vs=ws:=by
 induction h1 generalizing ws with
 | nil=>intro h2;cases h2;rfl
 | cons r _ ih=>intro h2;cases h2 with|cons r2 t2=>rw [ywf r r2,ih t2]
theorem yzw {F H:Hp}{a:Addr}{vs ws:List V}(s:Same F H) (h1:TpAt K.K F a vs) (h2:TpAt K.K F a ws):vs=ws\/Odd K.K H:=by
 rcases h1 with h1|⟨o,its,n,e1,e2,e3,e4,e5⟩
 .rcases h2 with h2|⟨o,its,n,e1,e2,e3,e4,e5⟩
  .rw [h1] at h2;cases h2;exact .inl rfl
  .exact .inr ⟨a,_,o,s _ _ h1,e1⟩
 .rcases h2 with h2|⟨o',its',n',e1',e2',e3',e4',e5'⟩
  .exact .inr ⟨a,_,o,s _ _ h2,e1⟩
  .rw [e1] at e1';cases e1'
   rw [e3] at e3';cases e3'
   exact .inl (ysE e5 e5')
theorem ygS {f:PV->PV->Option Bool}{W:Wd}(hf:∀ x y v b,f x y=some b->ycm K W x v->ycm K W y v->b=true\/Odd K.K W.H):∀ {xs ys:List PV}{vs:List V}{c:Bool},ycj K W xs vs->ycj K W ys vs->yfO f xs ys=some c->c=true\/Odd K.K W.H
 | [],_,_,_,_,_,e=>by simp [yfO] at e;exact .inl e
 | _::_,[],_,_,_,_,e=>by simp [yfO] at e;exact .inl e
 | x::xs,y::ys,_,c,⟨v,r,e1,h1,l1⟩,⟨u,q,e2,h2,l2⟩,e=>by
  rw [e1] at e2
  cases e2
  unfold yfO at e
  cases eb:f x y with
  | none=>rw [eb] at e;cases e
  | some b =>
   cases ec:yfO f xs ys with
   | none=>rw [eb,ec] at e;cases e
   | some c' =>
    rw [eb,ec] at e
    cases e
    rcases hf x y _ b eb h1 h2 with z|z
    .rcases ygS hf l1 l2 ec with z'|z'
     .exact .inl (by rw [z,z'];rfl)
     .exact .inr z'
    .exact .inr z
theorem ynQ {f:PV->PV->Option Bool}{W:Wd}(w:WOk K W) (hf:∀ x y v b,f x y=some b->ycm K W x v->ycm K W y v->b=true\/Odd K.K W.H) {x y:PV}{v:V}{b:Bool}(e:pairE f W.h x y=some b) (rx:ycm K W x v) (ry:ycm K W y v):b=true\/Odd K.K W.H:=by
 unfold pairE at e
 split at e
 .rename_i xs ys
  obtain ⟨a,vs,ev,ha,ra⟩:=rx
  obtain ⟨a',vs',ev',ha',ra'⟩:=ry
  rw [ev] at ev'
  cases ev'
  rcases yzw w.le ha ha' with z|z
  .subst z
   cases ec:yfO f xs ys with
   | none=>rw [ec] at e;cases e
   | some c =>
    rw [ec] at e
    cases e
    rcases ygS hf ra ra' ec with z|z
    .left
     rw [z,<- ra.len,<- ra'.len]
     simp
    .exact .inr z
  .exact .inr z
 .obtain ⟨a',vs',ev',ha',ra'⟩:=ry
  have rx:v=.non:=rx
  rw [rx] at ev';cases ev'
 .obtain ⟨a',vs',ev',ha',ra'⟩:=rx
  have ry:v=.non:=ry
  rw [ry] at ev';cases ev'
 .split at e
  .rename_i xs ys hx hy
   obtain ⟨a,vs,ev,ha,ra⟩:=yQ w hx rx
   obtain ⟨a',vs',ev',ha',ra'⟩:=yQ w hy ry
   rw [ev] at ev'
   cases ev'
   rw [ha] at ha'
   cases ha'
   rw [if_pos (by rw [<- ra.len,<- ra'.len])] at e
   exact ygS hf ra ra' e
  .cases e
theorem yiN {W:Wd}(w:WOk K W):∀ (n:Nat) (x y:PV) (v:V) (b:Bool),eqP n W.h x y=some b->ycm K W x v->ycm K W y v->b=true\/Odd K.K W.H
 | 0,_,_,_,_,e,_,_=>by cases e
 | n+1,x,y,v,b,e,rx,ry=>by
  unfold eqP at e
  split at e
  .rename_i u u' hu hu'
   cases e
   rw [<- yfu hu rx,<- yfu hu' ry]
   exact .inl (yiM (by rw [yfu hu rx];exact ylK hu))
  .exact ynQ w (yiN w n) e rx ry
theorem ygT {f:PV->PV->Option Bool}{W:Wd}{n:Nat}(hf:∀ x y v u b,f x y=some b->ycm K W x v->ycm K W y u->EqR K.K W.H n v u b):∀ {xs ys:List PV}{vs us:List V}{c:Bool},ycj K W xs vs->ycj K W ys us->yfO f xs ys=some c ->
  ∃ e:Nat->Bool,(∀ j v u,vs[j]?=some v->us[j]?=some u->EqR K.K W.H n v u (e j))/\c=(List.range (min vs.length us.length)).all e
 | [],_,_,_,c,h1,_,e=>by
  rw [show _=[] from h1]
  simp [yfO] at e
  exact ⟨fun _=>true,fun j v u hv=>by simp at hv,by simp [e]⟩
 | _::_,[],_,_,c,_,h2,e=>by
  rw [show _=[] from h2]
  simp [yfO] at e
  exact ⟨fun _=>true,fun j v u _ hu=>by simp at hu,by simp [e]⟩
 | x::xs,y::ys,_,_,c,⟨v,r,e1,h1,l1⟩,⟨u,q,e2,h2,l2⟩,e=>by
  subst e1 e2
  unfold yfO at e
  cases eb:f x y with
  | none=>rw [eb] at e;cases e
  | some b =>
   cases ec:yfO f xs ys with
   | none=>rw [eb,ec] at e;cases e
   | some c' =>
    rw [eb,ec] at e
    cases e
    obtain ⟨e',k1,k2⟩:=ygT hf l1 l2 ec
    refine ⟨fun j=>match j with|0=>b|j+1=>e' j,fun j v' u' hv hu=>?_,?_⟩
    .cases j with
     | zero =>
      simp at hv hu
      subst hv hu
      exact hf x y _ _ b eb h1 h2
     | succ j=>exact k1 j v' u' (by simpa using hv) (by simpa using hu)
    .rw [k2,length_cons,length_cons,show min (r.length+1) (q.length+1)=min r.length q.length+1 by omega,List.range_succ_eq_map,List.all_cons,List.all_map]
     rfl
theorem ymI {W:Wd}(w:WOk K W):∀ (n:Nat) (x y:PV) (v u:V) (b:Bool),eqP n W.h x y=some b->ycm K W x v->ycm K W y u->EqR K.K W.H n v u b
 | 0,_,_,_,_,_,e,_,_=>by cases e
 | n+1,x,y,v,u,b,e,rx,ry=>by
  have e0:=e
  unfold eqP at e
  split at e
  .rename_i v' u' hv hu
   cases e
   rw [yfu hv rx,yfu hu ry]
   exact .flat (ylK hv) (ylK hu)
  .unfold pairE at e
   split at e
   .rename_i xs ys _
    obtain ⟨a,vs,ev,ha,ra⟩:=rx
    obtain ⟨a',us,eu,ha',ra'⟩:=ry
    by_cases hab:a=a'
    .subst hab
     rcases yiN w (n+1) _ _ v b e0 ⟨a,vs,ev,ha,ra⟩ (by rw [ev,<- eu];exact ⟨a,us,eu,ha',ra'⟩) with this|z
     .rw [this,ev,eu]
      exact .same
     .exact .odd z
    .cases ec:yfO (eqP n W.h) xs ys with
     | none=>rw [ec] at e;cases e
     | some c =>
      rw [ec] at e
      cases e
      obtain ⟨e',k1,k2⟩:=ygT (ymI w n) ra ra' ec
      rw [ev,eu,k2,<- ra.len,<- ra'.len]
      exact .tup (ydk w ha) (ydk w ha') hab k1
   .obtain ⟨a',us,eu,ha',ra'⟩:=ry
    cases e
    rw [show v=.non from rx,eu]
    exact .nt (ydk w ha')
   .obtain ⟨a',us,eu,ha',ra'⟩:=rx
    cases e
    rw [show u=.non from ry,eu]
    exact .tn (ydk w ha')
   .split at e
    .rename_i xs ys hx hy
     obtain ⟨a,vs,ev,ha,ra⟩:=yQ w hx rx
     obtain ⟨a',us,eu,ha',ra'⟩:=yQ w hy ry
     by_cases hab:a=a'
     .subst hab
      rcases yiN w (n+1) _ _ v b e0 rx (by rw [ev,<- eu];exact ry) with this|z
      .rw [this,ev,eu]
       exact .same
      .exact .odd z
     .split at e
      .rename_i hl
       obtain ⟨e',k1,k2⟩:=ygT (ymI w n) ra ra' e
       have hl':vs.length=us.length:=by rw [ra.len,ra'.len,hl]
       rw [ev,eu,k2,<- hl',Nat.min_self]
       exact .lst ha ha' hl' hab k1
      .rename_i hl
       cases e
       rw [ev,eu]
       exact .lstN ha ha' (by rw [ra.len,ra'.len];exact hl)
    .cases e
def yxy:P2:=fun x y h=>match pairE (eqP 40 h) h x y with|some b=>some (.bl b,h)|none=>none
def ysF:P2:=fun x y h=>match pairE (eqP 40 h) h x y with|some b=>some (.bl (!b),h)|none=>none
theorem ymJ {W:Wd}(w:WOk K W) {x y:PV}{v u:V}{b:Bool}(e:pairE (eqP 40 W.h) W.h x y=some b) (rx:ycm K W x v) (ry:ycm K W y u):RcR K.K W.H v u b:=by
 unfold pairE at e
 split at e
 .rename_i xs ys
  obtain ⟨a,vs,ev,ha,ra⟩:=rx
  obtain ⟨a',us,eu,ha',ra'⟩:=ry
  cases ec:yfO (eqP 40 W.h) xs ys with
  | none=>rw [ec] at e;cases e
  | some c =>
   rw [ec] at e
   cases e
   obtain ⟨e',k1,k2⟩:=ygT (ymI w 40) ra ra' ec
   rw [ev,eu,k2,<- ra.len,<- ra'.len]
   exact .tup (ydk w ha) (ydk w ha') k1
 .obtain ⟨a',us,eu,ha',ra'⟩:=ry
  cases e
  rw [show v=.non from rx,eu]
  exact .nt (ydk w ha')
 .obtain ⟨a',us,eu,ha',ra'⟩:=rx
  cases e
  rw [show u=.non from ry,eu]
  exact .tn (ydk w ha')
 .split at e
  .rename_i xs ys hx hy
   obtain ⟨a,vs,ev,ha,ra⟩:=yQ w hx rx
   obtain ⟨a',us,eu,ha',ra'⟩:=yQ w hy ry
   split at e
   .rename_i hl
    obtain ⟨e',k1,k2⟩:=ygT (ymI w 40) ra ra' e
    have hl':vs.length=us.length:=by rw [ra.len,ra'.len,hl]
    rw [ev,eu,k2,<- hl',Nat.min_self]
    exact .lst ha ha' hl' k1
   .rename_i hl
    cases e
    rw [ev,eu]
    exact .lstN ha ha' (by rw [ra.len,ra'.len];exact hl)
  .cases e
theorem yzx:ybR K (yEf K.K) yxy:=by
 intro W x y v u Q z h' w rx ry e q
 unfold yxy at e
 split at e
 .rename_i b hb
  cases e
  exact ⟨b,ymJ w hb rx ry,q _ W rfl (.refl w) rfl⟩
 .cases e
theorem ywg:ybR K (yEg K.K) ysF:=by
 intro W x y v u Q z h' w rx ry e q
 unfold ysF at e
 split at e
 .rename_i b hb
  cases e
  exact ⟨b,ymJ w hb rx ry,q _ W rfl (.refl w) rfl⟩
 .cases e
end PX
namespace PX
open PySem L2
variable {K:Ck}
def ybK:XS:=fun _ _=>none
theorem ysG:yeS K yow ybK:=fun _ _ _ _ _ _ _ _ e _=>by cases e
def yk (k:Nat) (m:Str) (f:Fn) (e:XE) (as:XA):XE:=fun ρ h=>ob (e ρ h) fun x h1=>match ydL x h1 with
 | some (k',ns,_)=>if k'=k/\m∉ns then ob (as ρ h1) fun ys h2=>f (x::ys) h2 else none
 | none=>none
theorem yki {k n:Nat}{m:Str}{f:Fn}{ex:XK}{ta:TE}{t:TA}{ea:XE}{as:XA}(a:yby K ta ea) (b:ykS K t as) (hn:∀ ρ h xs h',as ρ h=some (xs,h')->xs.length=n) :
  yby K (yvf (K.A k) m (spE K (n+1) f) [] ex ta t) (yk k m f ea as):=by
 intro W0 W ρ σ Q z h' g e q
 obtain ⟨x,h1,e1,f1⟩:=yg e
 refine a W0 W ρ σ _ x h1 g e1 fun v W1 w1 l1 r1=>?_
 subst w1
 split at f1
 .rename_i k' ns xs hi
  split at f1
  .rename_i hc
   obtain ⟨ys,h2,e2,f2⟩:=yg f1
   obtain ⟨p,dx,vs,ev,hp,hl,rs⟩:=yes l1.ok hi r1
   rw [hc.1] at hp
   refine ⟨p,dx,_,ev,hp,ycn hc.2,?_⟩
   refine b W0 W1 ρ σ _ ys h2 (g.step l1) e2 fun us W2 w2 l2 r2=>?_
   subst w2
   rw [append_nil]
   exact ⟨W2,x::ys,z,h',rfl,l2.ok,⟨v,us,rfl,l2.rep r1,r2⟩,by rw [length_cons,hn _ _ _ _ e2],f2,fun u W3 w3 l3 r3=>q u W3 w3 ((l1.trans l2).trans l3) r3⟩
  .cases f1
 .cases f1
def ycW (cs:List Nat) (f:Str) (eo ev:XE):XS:=fun ρ h=>ob (ev ρ h) fun y h1=>ob (eo ρ h1) fun x h2=>match x with
 | .loc n=>(match h2[n]? with|some (.ins k ns xs)=>if k∈cs/\ns.length<1000 then some (.nx ρ,h2.set n (.ins k (putN f y ns xs).1 (putN f y ns xs).2)) else none|_=>none)
 | _=>none
theorem ysH {cs:List Nat}{f:Str}{ta tv:TE}{ea ev:XE}(hc:∀ k∈cs,Cls K.K (K.A k)/\NoAttr K.K (K.A k) f) (a:yby K ta ea) (c:yby K tv ev):yeS K (yBG K.K ta tv f) (ycW cs f ea ev):=by
 intro W0 W ρ σ D o h' g e q
 obtain ⟨y,h1,e1,f1⟩:=yg e
 obtain ⟨x,h2,e2,f2⟩:=yg f1
 refine c W0 W ρ σ _ y h1 g e1 fun vy W1 w1 l1 r1=>?_
 subst w1
 refine a W0 W1 ρ σ _ x h2 (g.step l1) e2 fun vx W2 w2 l2 r2=>?_
 subst w2
 have w:=l2.ok
 split at f2
 .rename_i n
  split at f2
  .rename_i k ns xs hn
   split at f2
   .rename_i hk
    cases f2
    obtain ⟨p,ep,hm,hf,dx,us,hp,hl,rs⟩:=w.loc hn r2
    obtain ⟨us',p1,p2,p3⟩:=rs.putN (f:=f) hl (l2.rep r1)
    refine ⟨p,_,dx,_,ep,hp,(hc k hk.1).1,(hc k hk.1).2,by rw [length_zip,hl];simpa using hk.2,?_⟩
    rw [p1]
    have l4:Le K W2 (ynK W2 n p (.ins (K.A k) dx ((putN f y ns xs).1.zip us')) (.ins k (putN f y ns xs).1 (putN f y ns xs).2)):=ygP w hn hm hf ⟨hf,dx,us',yr,p2,p3⟩
    have l:=l1.trans (l2.trans l4)
    exact q _ σ rfl l.lf (g.step l)
   .cases f2
  .cases f2
 .cases f2
end PX
namespace PX
open PySem L2
variable {K:Ck}
def ylL (r d:Addr):HO:=.ext fun h=>h.get? r=some { cls:=.type "dict_items",data:=.fields #[.ref d] }
noncomputable def yup:V->List V->Hp->VK->Prop:=fun x vs H Q=>∃ d kvs,x=.ref d/\vs=[]/\H d=some (.dK kvs)/\∀ r,H r=none->Q (.ref r) (upd H r (ylL r d))
noncomputable def ymK (H:Hp) (as:List Addr) (ts:List (List V)):Hp:=fun b=>match (as.zip ts).lookup b with|some t=>some (.tup t)|none=>H b
def yBo (H:Hp) (p:Addr) (as:List Addr) (ts:List (List V)):Hp:=upd (ymK H as ts) p (.lst (as.map V.ref))
def rSI:List V->Hp->VK->Prop:=fun xs H Q=>∃ (r d:Addr) (kvs:List (Key×V)) (ns:List Int),xs=[.ref r]/\H r=some (ylL r d)/\H d=some (.dK kvs)/\kvs.map (·.1)=ns.map .inl/\kvs.length<64 /\
 ∀ (p:Addr) (as:List Addr) (q:List Nat),q.Perm (List.range ns.length)->q.Pairwise (fun i j=>ns.getD i 0<=ns.getD j 0)->ns.Nodup->as.length=q.length->(∀ a∈p::as,H a=none)->(p::as).Nodup ->
  Q (.ref p) (yBo H p as (q.map fun i=>[V.int (ns.getD i 0),(kvs.map (·.2)).getD i .non]))
def yxz (p:Int×PV):List (Int×PV)->List (Int×PV)
 | []=>[p]
 | q::r=>if p.1<=q.1 then p::q::r else q::yxz p r
def ypN:List (Int×PV)->List (Int×PV)
 | []=>[]
 | p::r=>yxz p (ypN r)
def ywh:List Key->Option (List Int)
 | []=>some []
 | .inl i::r=>(ywh r).map (i::·)
 | .inr _::_=>none
theorem ymL:∀ {ks:List Key}{ns:List Int},ywh ks=some ns->ks=ns.map .inl
 | [],ns,h=>by cases h;rfl
 | .inl i::r,ns,h=>by
  obtain ⟨m,e,rfl⟩:=Option.map_eq_some_iff.mp h
  rw [map_cons,<- ymL e]
 | .inr _::_,_,h=>by cases h
theorem ygU (p:Int×PV):∀ l,(yxz p l).Perm (p::l)
 | []=>.refl _
 | q::r=>by
  unfold yxz
  split
  .exact .refl _
  .exact ((ygU p r).cons q).trans (.swap _ _ _)
theorem yfV:∀ l,(ypN l).Perm l
 | []=>.refl _
 | p::r=>(ygU p _).trans ((yfV r).cons p)
theorem ypO {p:Int×PV}:∀ {l:List (Int×PV)},l.Pairwise (fun a b=>a.1<=b.1)->(yxz p l).Pairwise (fun a b=>a.1<=b.1)
 | [],_=>List.pairwise_singleton _ _
 | q::r,h=>by
  obtain ⟨h1,h2⟩:=List.pairwise_cons.mp h
  unfold yxz
  split
  .rename_i hc
   exact List.pairwise_cons.mpr ⟨fun b hb=>by
    rcases mem_cons.mp hb with rfl|hb
    .exact hc
    .exact Int.le_trans hc (h1 b hb),h⟩
  .rename_i hc
   refine List.pairwise_cons.mpr ⟨fun b hb=>?_,ypO h2⟩
   rcases mem_cons.mp ((ygU p r).mem_iff.mp hb) with rfl|hb
   .omega
   .exact h1 b hb
theorem ymM:∀ l,(ypN l).Pairwise (fun a b=>a.1<=b.1)
 | []=>.nil
 | _::r=>ypO (ymM r)
theorem ysI {ns:List Int}{xs:List PV}{q:List Nat}(hl:xs.length=ns.length) (hp:q.Perm (List.range ns.length)) (hs:q.Pairwise fun i j=>ns.getD i 0<=ns.getD j 0) (nd:ns.Nodup) :
  (q.map fun i=>(ns.getD i 0,xs.getD i .non))=ypN (ns.zip xs):=by
 have hz:((List.range ns.length).map fun i=>(ns.getD i 0,xs.getD i .non))=ns.zip xs:=by
  apply List.ext_getElem
  .simp [hl]
  .intro i h1 h2
   have h3:i<ns.length:=by simpa using h1
   simp [getD,List.getElem?_eq_getElem h3,List.getElem?_eq_getElem (show i<xs.length by omega)]
 have hm:(q.map fun i=>(ns.getD i 0,xs.getD i .non)).Perm (ns.zip xs):=by rw [<- hz];exact hp.map _
 have hk:(ns.zip xs).map (·.1)=ns:=map_fst_zip (by omega)
 refine List.Perm.eq_of_pairwise (le:=fun a b=>a.1<=b.1) (fun a b ha hb h1 h2=>?_) (List.pairwise_map.mpr hs) (ymM _) (hm.trans (yfV _).symm)
 have ha:=hm.mem_iff.mp ha
 have hb:=(yfV _).mem_iff.mp hb
 obtain ⟨i,hi,rfl⟩:=getElem_of_mem ha
 obtain ⟨j,hj,rfl⟩:=getElem_of_mem hb
 have hi':i<ns.length:=by rw [length_zip] at hi;omega
 have hj':j<ns.length:=by rw [length_zip] at hj;omega
 have e:ns[i]=ns[j]:=by
  have:((ns.zip xs)[i]).1=((ns.zip xs)[j]).1:=Int.le_antisymm h1 h2
  simpa using this
 have:=ykf nd hi' hj' e
 subst this
 rfl
def yEh (W:Wd) (as:List Addr) (ts:List (List V)):Wd:=⟨ymK W.F as ts,ymK W.H as ts,W.m,W.h⟩
theorem lookup_mem {α:Type}:∀ {as:List Addr}{ts:List α}{b:Addr}{t:α},(as.zip ts).lookup b=some t->b∈as
 | [],_,_,_,h=>by simp at h
 | _::_,[],_,_,h=>by simp at h
 | a::as,u::ts,b,t,h=>by
  rw [zip_cons_cons,lookup_cons] at h
  split at h
  .rename_i hb;rw [eq_of_beq hb];exact mem_cons_self
  .exact mem_cons_of_mem _ (lookup_mem h)
theorem yfW {H:Hp}{as:List Addr}{ts:List (List V)}{b:Addr}(h:b∉as):ymK H as ts b=H b:=by
 unfold ymK
 split
 .rename_i e;exact absurd (lookup_mem e) h
 .rfl
theorem ywi {W:Wd}{as:List Addr}{ts:List (List V)}(w:WOk K W) (h:∀ a∈as,W.H a=none):Le K W (yEh W as ts):=by
 have nm:∀ a∈as,a∉W.m:=fun a ha=>w.out (h a ha)
 have sF:Same W.F (ymK W.F as ts):=fun b o e=>by
  rw [yfW fun z=>by rw [w.ff (h b z)] at e;cases e];exact e
 have sH:Same W.H (ymK W.H as ts):=fun b o e=>by
  rw [yfW fun z=>by rw [h b z] at e;cases e];exact e
 refine ⟨⟨?_,w.len,w.nd,fun n d a e1 e2=>?_⟩,sF,prefix_refl _,fun b u e _=>sH b u e,fun b u e _ f=>?_,fun b z n=>absurd z n,fun n ks xs e1=>⟨e1,fun a e2=>yfW fun z=>nm a z (mem_of_getElem? e2)⟩⟩
 .intro b u e
  have e:ymK W.F as ts b=some u:=e
  show ymK W.H as ts b=some u
  unfold ymK at e ⊢
  split at e
  .exact e
  .exact w.le _ _ e
 .have ha:a∉as:=fun z=>nm a z (mem_of_getElem? e2)
  exact (w.at_ n d a e1 e2).mono sF (prefix_refl _) (fun u e=>sH _ _ e) fun f=>(yfW ha).trans f
 .exact (yfW fun z=>by rw [h b z] at e;cases e).trans f
theorem ykj {F:Hp}{m:List Addr}{Y:Nat->PV}{T:Nat->List V}{Z:Nat->List PV}(hY:∀ i,Y i=.tup (Z i)):∀ (as:List Addr) (q:List Nat),as.length=q.length->as.Nodup->(∀ a∈as,∀ i,i∈q->(as.zip (q.map T)).lookup a=some (T i)->F a=some (.tup (T i))) ->
  (∀ i∈q,RepL K F m (Z i) (T i))->RepL K F m (q.map Y) (as.map V.ref)
 | [],[],_,_,_,_=>rfl
 | [],_::_,h,_,_,_=>by cases h
 | _::_,[],h,_,_,_=>by cases h
 | a::as,i::q,hl,hn,hF,hR=>by
  obtain ⟨n1,n2⟩:=List.nodup_cons.mp hn
  refine ⟨.ref a,_,rfl,?_,ykj hY as q (by simpa using hl) n2 (fun b hb j hj e=>?_) fun j hj=>hR j (mem_cons_of_mem _ hj)⟩
  .rw [hY]
   exact ⟨a,T i,rfl,.inl (hF a mem_cons_self i mem_cons_self (by simp)),hR i mem_cons_self⟩
  .refine hF b (mem_cons_of_mem _ hb) j (mem_cons_of_mem _ hj) ?_
   rw [map_cons,zip_cons_cons,lookup_cons]
   have:(b == a)=false:=beq_eq_false_iff_ne.mpr fun z=>n1 (z ▸ hb)
   rw [this]
   exact e
noncomputable def sortI (ks:List Key) (xs:List PV):Option (List PV):=match ywh ks with|some ns=>if ns.length<64 then some ((ypN (ns.zip xs)).map fun p=>.tup [.int p.1,p.2]) else none|none=>none
def yic (e:XE):XO:=fun ρ h=>ob (e ρ h) fun x h1=>match ynN x h1 with|some (ks,xs)=>(match sortI ks xs with|some l=>some (.lst l,h1)|none=>none)|none=>none
theorem yzy {W:Wd}{x:PV}{v:V}{ks:List Key}{xs:List PV}(w:WOk K W) (e:ynN x W.h=some (ks,xs)) (r:ycm K W x v):tyV K.K "dict" v W.H:=by
 obtain ⟨a,vs,rfl,hp,_⟩:=ykh w e r
 exact .inr (.inr (.inl ⟨rfl,.inl ⟨_,hp⟩⟩))
theorem ypP {ta:TE}{ea:XE}(a:yby K ta ea):ykT K (tCB rSI (ylb (yDU K.K "dict" yup ta) ytQ)) (yic ea):=by
 intro W0 W ρ σ Q z h' g e q
 obtain ⟨x,h1,e1,f1⟩:=yg e
 refine a W0 W ρ σ _ x h1 g e1 fun v W1 w1 l1 r1=>?_
 subst w1
 split at f1
 .rename_i ks xs hd
  split at f1
  .rename_i l hl
   cases f1
   refine ⟨yzy l1.ok hd r1,?_⟩
   obtain ⟨d,vs,ev,hp,hvl,rs⟩:=ykh l1.ok hd r1
   subst ev
   refine ⟨d,_,rfl,rfl,hp,fun r hr=>?_⟩
   unfold sortI at hl
   split at hl
   .rename_i ns hk
    split at hl
    .rename_i h64
     cases hl
     have hk:=ymL hk
     have l2:=ycc (o:=ylL r d) l1.ok hr
     have hnl:ks.length=ns.length:=by rw [hk,length_map]
     have hxl:xs.length=ns.length:=by rw [<- rs.len];omega
     show rSI [.ref r] (upd W1.H r (ylL r d)) Q
     refine ⟨r,d,ks.zip vs,ns,rfl,yr,(yu (ybb hp hr)).trans hp,by rw [map_fst_zip (by omega),hk],by rw [length_zip];omega,fun p as o hperm hs nd hal hfree hnd=>?_⟩
     rw [List.map_snd_zip (by omega)]
     generalize hW2:yfo W1 r (ylL r d)=W2 at l2
     have hH2:W2.H=upd W1.H r (ylL r d):=by rw [<- hW2];rfl
     rw [<- hH2] at hfree ⊢
     have l3:=ywi (ts:=o.map fun i=>[V.int (ns.getD i 0),vs.getD i .non]) l2.ok fun a ha=>hfree a (mem_cons_of_mem _ ha)
     obtain ⟨n1,n2⟩:=List.nodup_cons.mp hnd
     have hp3:(yEh W2 as (o.map fun i=>[V.int (ns.getD i 0),vs.getD i .non])).H p=none:=(yfW n1).trans (hfree p mem_cons_self)
     have l4:=ycc (o:=.lst (as.map V.ref)) l3.ok hp3
     have l:=l2.trans (l3.trans l4)
     have inq:∀ i∈o,i<ns.length:=fun i hi=>by have:=hperm.mem_iff.mp hi;simpa using this
     refine q p _ (by rw [<- hW2];rfl) (l1.trans l) (l3.ok.out hp3) ((l1.trans l2).fresh (hfree p mem_cons_self)) (fun z=>by cases z) ⟨l3.ok.ff hp3,_,yr,?_⟩
     rw [<- ysI hxl hperm hs nd,map_map]
     refine ykj (T:=fun i=>[V.int (ns.getD i 0),vs.getD i .non]) (Z:=fun i=>[.int (ns.getD i 0),xs.getD i .non]) (fun i=>rfl) as o hal n2 (fun a ha i hi e=>?_) fun i hi=>⟨_,_,rfl,rfl,_,_,rfl,?_,rfl⟩
     .show ymK W2.F as _ a=_
      unfold ymK
      rw [e]
     .have hi':=inq i hi
      obtain ⟨u,h3,h4⟩:=(l2.trans (l3.trans l4)).repL rs |>.get (List.getElem?_eq_getElem (show i<xs.length by omega))
      have e5:xs.getD i .non=xs[i]'(by omega):=by simp [getD,List.getElem?_eq_getElem (show i<xs.length by omega)]
      have e6:vs.getD i .non=u:=by simp [getD,h3]
      rw [e5,e6]
      exact h4
    .cases hl
   .cases hl
  .cases f1
 .cases f1
end PX
namespace PX
open PySem L2
variable {K:Ck}
def ItR (K:PySem.W.Frag) (a:Addr) (m:Nat):It :=
 ⟨fun i H=>i<m/\∃ xs x,SqL K H a xs/\xs[m-1-i]?=some x,fun i H x H'=>H'=H/\∀ xs,SqL K H a xs->xs[m-1-i]?=some x,fun i _=>i=m⟩
def yEi (K:PySem.W.Frag) (tl:TE):TI:=fun σ H R=>tl σ H fun x H1=>∃ a xs,x=.ref a/\SqL K H1 a xs/\R (ItR K a xs.length) H1
def ykU (n:Nat) (rev:Bool) (g:XG) (s:XS):Nat->Nat->PSt->AH->Option (Out×AH)
 | 0,i,ρ,h=>match h[n]? with|some (.lst xs)=>if xs.length=i then some (.nx ρ,h) else none|_=>none
 | k+1,i,ρ,h=>match h[n]? with
  | some (.lst xs)=>(match xs[if rev then k else i]? with
   | some x=>(g x ρ).bind fun ρ1=>ob (s ρ1 h) fun o h1=>match o with|.nx ρ'=>ykU n rev g s k (i+1) ρ' h1|.ct ρ'=>ykU n rev g s k (i+1) ρ' h1|.bk ρ'=>some (.nx ρ',h1)|.rt y=>some (.rt y,h1)
   | none=>none)
  | _=>none
def yiO (rev:Bool) (e:XE) (g:XG) (s:XS):XS:=fun ρ h=>ob (e ρ h) fun x h1=>match x with
 | .loc n=>(match h1[n]? with|some (.lst xs)=>ykU n rev g s xs.length 0 ρ h1|_=>none)
 | _=>none
structure ItX (K:Ck) (n:Nat) (rev:Bool) (m:Nat) (a:Addr) (J:It):Prop where
 go:∀ (i:Nat) (H:Hp) (vs:List V) (v:V),H a=some (.lst vs)->i<m->vs[if rev then m-1-i else i]?=some v->J.go i H
 yld:∀ (i:Nat) (H:Hp) (vs:List V) (v:V) (H2:Hp),H a=some (.lst vs)->i<m->J.yld i H v H2->H2=H/\vs[if rev then m-1-i else i]?=some v
 stop:∀ (H:Hp) (vs:List V),H a=some (.lst vs)->vs.length=m->J.stop m H
section
variable {ta:TE}{ea:XE}{t:TS}{s:XS}
theorem ykk {n:Nat}{xs:List PV}{p:Addr}{us:List V}{J:It}{rev:Bool}{g:TG}{y:XG}(b:ytZ K g y) (c:yeS K t s) {W0 W W1:Wd}{ρ:PSt}{σ:St}{D:Ends}{o:Out}{h':AH}(gd:Good K W0 W ρ σ) (l1:Le K W W1) (q:Ends.Ok K W0 W D h' o)
  (f1:ykU n rev y s xs.length 0 ρ W1.h=some (o,h')) (hn:W1.h[n]?=some (.lst xs)) (hm:W1.m[n]?=some p) (rs:ycj K W1 xs us) (J1:ItX K n rev us.length p J) :
  ∃ Z:Nat->Nat->St->Hp->Prop,(∃ m,Z 0 m σ W1.H)/\∀ i m σ H,Z i m σ H ->
   (J.stop i H/\D.nx σ H)\/(J.go i H/\∃ N:St->Hp->Prop,(∀ σ' H',N σ' H'->∃ m',m'<m/\Z (i+1) m' σ' H')/\∀ x H',J.yld i H x H'->g x σ H' fun σ2 H2=>t { D with nx:=N,ct:=N,bk:=D.nx } σ2 H2):=by
   have q1:=q.from_ l1.lf
   have hul:us.length=xs.length:=rs.len
   rw [hul] at J1
   refine ⟨fun i m σ H=>m=xs.length-i/\i<=xs.length/\∃ W' ρ',W'.H=H/\Lf K W1 W'/\Good K W0 W' ρ' σ/\ykU n rev y s (xs.length-i) i ρ' W'.h=some (o,h'),⟨_,rfl,zero_le _,W1,ρ,rfl,.refl,gd.step l1,f1⟩,?_⟩
   rintro i m σ _ ⟨rfl,hi,W',ρ',rfl,l,g',f⟩
   have hm':W'.m[n]?=some p:=ydT l.pre hm
   by_cases hlt:i<xs.length
   .obtain ⟨k,hk⟩:∃ k,xs.length-i=k+1:=⟨xs.length-i-1,by omega⟩
    rw [hk] at f
    unfold ykU at f
    split at f
    .rename_i ys hy
     split at f
     .rename_i z hz
      obtain ⟨p',ev',hm2,hf',vs,hp',rs'⟩:=g'.ok.loc hy (v:=.ref p) ⟨p,rfl,hm'⟩
      cases ev'
      have hix:(if rev=true then xs.length-1-i else i)=(if rev=true then k else i):=by rw [show xs.length-1-i=k by omega]
      obtain ⟨vz,hv1,hv2⟩:=rs'.get hz
      obtain ⟨ρ1,k1,f⟩:=Option.bind_eq_some_iff.mp f
      obtain ⟨o1,h2,k2,f3⟩:=yg f
      refine .inr ⟨J1.go i W'.H vs vz hp' hlt (by rw [hix];exact hv1),fun σ2 H2=>i+1<=xs.length/\∃ W2 ρ2,W2.H=H2/\Lf K W1 W2/\Good K W0 W2 ρ2 σ2/\ykU n rev y s (xs.length-(i+1)) (i+1) ρ2 W2.h=some (o,h'),fun σ2 H2 ⟨n1,n2⟩=>⟨xs.length-(i+1),by omega,rfl,n1,n2⟩,fun v H2 hy=>?_⟩
      obtain ⟨rfl,hx⟩:=J1.yld i W'.H vs v H2 hp' hlt hy
      rw [hix,hv1] at hx
      cases hx
      have ek:xs.length-(i+1)=k:=by omega
      refine b W0 W' ρ' ρ1 σ _ vz _ g' hv2 k1 fun σ2 g2=>?_
      refine c W0 W' ρ1 σ2 _ o1 h2 g2 k2 ?_
      cases o1 with
      | nx ρ2=>exact fun W2 σ3 w2 l2 g3=>⟨hlt,W2,ρ2,rfl,l.trans l2,g3,by rw [w2,ek];exact f3⟩
      | ct ρ2=>exact fun W2 σ3 w2 l2 g3=>⟨hlt,W2,ρ2,rfl,l.trans l2,g3,by rw [w2,ek];exact f3⟩
      | bk ρ2=>cases f3;exact fun W2 σ3 w2 l2 g3=>q1 W2 σ3 w2 (l.trans l2) g3
      | rt x=>cases f3;exact q1
     .cases f
    .cases f
   .have ei:i=xs.length:=by omega
    subst ei
    rw [sub_self] at f
    unfold ykU at f
    split at f
    .rename_i ys hy
     obtain ⟨p',ev',hm2,hf',vs,hp',rs'⟩:=g'.ok.loc hy (v:=.ref p) ⟨p,rfl,hm'⟩
     cases ev'
     split at f
     .rename_i hyl
      cases f
      exact .inl ⟨J1.stop W'.H vs hp' (by rw [rs'.len,hyl]),q1 W' σ rfl l g'⟩
     .cases f
    .cases f
theorem yCW {n m:Nat}{a:Addr}:ItX K n false m a (Itl K.K a) where
 go:=fun i H vs v h _ e=>⟨vs,v,SqL.of h,e⟩
 yld:=fun i H vs v H2 h _ e=>⟨e.1,e.2 vs (SqL.of h)⟩
 stop:=fun H vs h e=>⟨vs,SqL.of h,le_of_eq e⟩
theorem yCX {n m:Nat}{a:Addr}:ItX K n true m a (ItR K.K a m) where
 go:=fun i H vs v h hi e=>⟨hi,vs,v,SqL.of h,e⟩
 yld:=fun i H vs v H2 h _ e=>⟨e.1,e.2 vs (SqL.of h)⟩
 stop:=fun H vs h e=>rfl
theorem ysJ {g:TG}{y:XG}(a:yby K ta ea) (b:ytZ K g y) (c:yeS K t s):yeS K (yBh (yrv K.K ta) g t) (yiO false ea y s):=by
 intro W0 W ρ σ D o h' gd e q
 obtain ⟨x,h1,e1,f1⟩:=yg e
 refine a W0 W ρ σ _ x h1 gd e1 fun v W1 w1 l1 r1=>?_
 subst w1
 split at f1
 .rename_i n
  split at f1
  .rename_i xs hn
   obtain ⟨p,ev,hm,hf,us,hp,rs⟩:=l1.ok.loc hn r1
   exact ⟨p,ev,⟨us,SqL.of hp⟩,ykk b c gd l1 q f1 hn hm rs yCW⟩
  .cases f1
 .cases f1
theorem ysK {g:TG}{y:XG}(a:yby K ta ea) (b:ytZ K g y) (c:yeS K t s):yeS K (yBh (yEi K.K ta) g t) (yiO true ea y s):=by
 intro W0 W ρ σ D o h' gd e q
 obtain ⟨x,h1,e1,f1⟩:=yg e
 refine a W0 W ρ σ _ x h1 gd e1 fun v W1 w1 l1 r1=>?_
 subst w1
 split at f1
 .rename_i n
  split at f1
  .rename_i xs hn
   obtain ⟨p,ev,hm,hf,us,hp,rs⟩:=l1.ok.loc hn r1
   exact ⟨p,us,ev,SqL.of hp,ykk b c gd l1 q f1 hn hm rs yCX⟩
  .cases f1
 .cases f1
end
end PX
namespace PX
open PySem L2
variable {K:Ck}
end PX
namespace PX
open PySem L2
variable {K:Ck}
noncomputable def yzz (J:It) (tc:TT) (te:TE) (inn:V->St) (D:Addr) (Q:VK) (H:Hp):Prop:=∃ W:Nat->Nat->Hp->Prop,(∃ m,W 0 m H)/\∀ i m H,W i m H ->
 (J.stop i H/\Q (.ref D) H)\/(J.go i H/\∀ x H',J.yld i H x H'->tc (inn x) H' fun b H1=>if b=true then te (inn x) H1 fun y H2=>∃ acc,H2 D=some (.lst acc)/\acc.length<sizeLine/\∃ m',m'<m/\W (i+1) m' (upd H2 D (.lst (acc++[y]))) else ∃ m',m'<m/\W (i+1) m' H1)
def ykl (wi:TI) (ix:List Nat) (tc:TT) (te:TE):TE:=fun σ H Q=>wi σ H fun J H1=>∀ D,H1 D=none->yzz J tc te (inner ix σ) D Q (upd H1 D (.lst []))
end PX
namespace PX
open PySem L2
variable {K:Ck}
end PX
namespace PX
open PySem L2
variable {K:Ck}
def yiP:Key->PV|.inl i=>.int i|.inr s=>.str s
theorem ypQ {W:Wd}(k:Key):ycm K W (yiP k) (kV k):=by cases k<;>exact rfl
def ItD (a:Addr) (ob:Obj) (kvs:List (Key×V)):It :=
 ⟨fun i H=>i<kvs.length/\H a=some (.frz ob (.dK kvs)),fun i H x H'=>H'=H/\∃ kv,kvs[i]?=some kv/\x=kV kv.1,fun i H=>i=kvs.length/\H a=some (.frz ob (.dK kvs))⟩
def yzA (NF:Addr->Prop) (te:TE):TI:=fun σ H R=>te σ H fun x H1=>∃ a kvs,x=.ref a/\H1 a=some (.dK kvs)/\∀ ob,NF a->R (ItD a ob kvs) (upd H1 a (.frz ob (.dK kvs)))
theorem ywj {W:Wd}(w:WOk K W) {n:Nat}{d d':Nd}{a:Addr}{o:HO}(e:W.h[n]?=some d) (hm:W.m[n]?=some a) (hF:W.F a=none) (at':NdAt K W.F (upd W.H a o) W.m d' a):WOk K (ynK W n a o d'):=by
 have hn:n<W.h.length:=(List.getElem?_eq_some_iff.mp e).1
 refine ⟨fun b u q=>?_,by show W.m.length=(W.h.set n d').length;rw [length_set];exact w.len,w.nd,fun j dj b e1 e2=>?_⟩
 .have:b≠a:=ybb q hF
  exact (yu this).trans (w.le _ _ q)
 .have e1:(W.h.set n d')[j]?=some dj:=e1
  by_cases hj:n=j
  .subst hj
   rw [getElem?_set_self hn] at e1
   cases e1
   have e2:W.m[n]?=some b:=e2
   rw [hm] at e2
   cases e2
   exact at'
  .rw [getElem?_set_ne hj] at e1
   have e2:W.m[j]?=some b:=e2
   have hb:b≠a:=fun z=>by
    subst z
    obtain ⟨l1,q1⟩:=List.getElem?_eq_some_iff.mp hm
    obtain ⟨l2,q2⟩:=List.getElem?_eq_some_iff.mp e2
    exact hj (ykf w.nd l1 l2 (q1.trans q2.symm))
   exact (w.at_ j dj b e1 e2).mono (Same.refl _) (prefix_refl _) (fun u q=>(yu hb).trans q) id
theorem ywk {W0 W':Wd}(w:WOk K W') (pre:W0.m <+: W'.m) (fz:∀ (n:Nat) (ks:List Key) (xs:List PV),W0.h[n]?=some (.fz ks xs)->W'.h[n]?=some (.fz ks xs)/\∀ a,W0.m[n]?=some a->W'.H a=W0.H a)
  {n:Nat}{a:Addr}{o:HO}{d:Nd}(hm:W'.m[n]?=some a) (n0:∀ ks xs,W0.h[n]?≠some (.fz ks xs)) (j:Nat) (ks:List Key) (xs:List PV) (e1:W0.h[j]?=some (.fz ks xs)) :
  (ynK W' n a o d).h[j]?=some (.fz ks xs)/\∀ b,W0.m[j]?=some b->(ynK W' n a o d).H b=W0.H b:=by
 obtain ⟨h1,h2⟩:=fz j ks xs e1
 have hj:n≠j:=fun z=>by subst z;exact n0 _ _ e1
 refine ⟨(getElem?_set_ne hj).trans h1,fun b e2=>(yu fun z=>?_).trans (h2 b e2)⟩
 subst z
 obtain ⟨l1,q1⟩:=List.getElem?_eq_some_iff.mp hm
 obtain ⟨l2,q2⟩:=List.getElem?_eq_some_iff.mp (ydT pre e2)
 exact hj (ykf w.nd l1 l2 (q1.trans q2.symm))
theorem ywl {W0 W':Wd}(l:Le K W0 W') {n:Nat}{a:Addr}{o:HO}{d d':Nd}(e:W'.h[n]?=some d) (hm:W'.m[n]?=some a) (hF:W'.F a=none) (at':NdAt K W'.F (upd W'.H a o) W'.m d' a) (n0:∀ ks xs,W0.h[n]?≠some (.fz ks xs)):Le K W0 (ynK W' n a o d') where
 ok:=ywj l.ok e hm hF at'
 fs:=l.fs
 pre:=l.pre
 keep:=fun b u q hb=>by
  have:b≠a:=fun z=>by
   subst z
   rw [l.mn b (mem_of_getElem? hm) hb] at q
   cases q
  exact (yu this).trans (l.keep b u q hb)
 new:=l.new
 mn:=l.mn
 fz:=ywk l.ok l.pre l.fz hm n0
theorem yzB {W W1:Wd}(l:Le K W W1) {n:Nat}{d:Nd}(e:W1.h[n]?=some d) (nf:∀ ks xs,d≠.fz ks xs) (ks:List Key) (xs:List PV):W.h[n]?≠some (.fz ks xs):=fun z=>by
 have:=(l.fz n ks xs z).1
 rw [e] at this
 cases this
 exact nf _ _ rfl
section
variable {ta:TE}{ea:XE}{t:TS}{s:XS}
end
end PX
namespace PX
open PySem L2
variable {K:Ck}
def spJ (K:Ck) (n k:Nat) (f:List PV->AH->Option (Nd×AH)):Sp:=fun vs H Q _=>∃ (W0 W:Wd) (x:Addr) (args:List V) (xs:List PV) (d:Nd) (h':AH),vs=.ref x::args/\W.H=H/\Le K W0 W/\W0.H x=none/\x∉W.m/\NdAt K W.F W.H W.m (.ins k [] []) x /\
 ycj K W xs args/\xs.length=n/\f xs W.h=some (d,h')/\∀ W',W'.h=h'->Lf K W W'->Le K W0 W'->x∉W'.m->d≠.dead->NdAt K W'.F W'.H W'.m d x->Q .non W'.H
theorem ywm {n k:Nat}{f} {vs:List V}{H:Hp}{Q:VK}{E:XK}(h:spJ K n k f vs H Q E):vs.length=n+1:=by
 obtain ⟨W0,W,x,args,xs,d,h',rfl,_,_,_,_,_,r,hn,_⟩:=h
 rw [length_cons,r.len,hn]
theorem ypR {N:List Str}{n k:Nat}{t:TS}{s:XS}{vs:List V}{H:Hp}{Q:VK}{E:XK}{bk ct:St->Hp->Prop}(hN:n+1<=N.length) (a:yrl K t s) (h:spJ K n k (ypz N.length k s) vs H Q E):t ⟨fun _ H'=>Q .non H',Q,bk,ct⟩ (L2.start N vs) H:=by
 obtain ⟨W0,W,x,args,xs,d,h',rfl,rfl,le,hx,hm,at_,r,hn,e,q⟩:=h
 obtain ⟨o,h1,e1,f1⟩:=yg e
 have gs:=yeF (K:=K) (N:=N.drop 1) le.ok r
 have g:Good K W0 W (.own (.ins k [] [])::(xs.map .val++replicate (N.length-(xs.length+1)) .no)) (L2.start N (.ref x::args)):=by
  have es:L2.start N (.ref x::args)=some (.ref x)::L2.start (N.drop 1) args:=by
   have e3:N.length-(args.length+1)=(N.drop 1).length-args.length:=by rw [length_drop];omega
   unfold L2.start
   rw [map_cons,List.cons_append,length_cons,e3]
  have eN:N.length-(xs.length+1)=(N.drop 1).length-xs.length:=by rw [length_drop];omega
  rw [es,eN]
  have noown:∀ (j:Nat) (d:Nd),(xs.map PVar.val++replicate ((N.drop 1).length-xs.length) .no)[j]?≠some (.own d):=fun j d z=>by
   by_cases hj:j<xs.length
   .rw [getElem?_append_left (by simpa using hj),getElem?_map,List.getElem?_eq_getElem hj] at z
    cases z
   .rw [getElem?_append_right (by simp;omega),getElem?_replicate] at z
    split at z<;>cases z
  refine ⟨le,by rw [length_cons,length_cons,gs.len],fun j y z=>?_,fun j d z=>?_,fun i j d d' hij z z'=>?_⟩
  .cases j with
   | zero=>cases z
   | succ j=>exact gs.val j y z
  .cases j with
   | zero=>cases z;exact ⟨x,rfl,hm,hx,(fun z=>by cases z),at_⟩
   | succ j=>exact absurd z (noown j d)
  .cases i with
   | zero =>
    cases j with
    | zero=>exact absurd rfl hij
    | succ j=>exact absurd z' (noown j d')
   | succ i=>exact absurd z (noown i d)
 cases o with
 | rt y=>cases f1
 | bk ρ=>cases f1
 | ct ρ=>cases f1
 | nx ρ =>
  refine a W0 W _ ρ _ _ h1 g e1 fun W' ew lf g'=>?_
  dsimp only at f1
  split at f1
  .rename_i d' hd'
   cases f1
   obtain ⟨p,b1,b2,b3,b4,b5⟩:=g'.own 0 _ hd'
   have b1:some (some (V.ref x))=some (some (V.ref p)):=b1
   cases b1
   exact q W' ew lf g'.le b2 b4 b5
  .cases f1
def yzC:PVar->Bool|.own _=>false|_=>true
def xBI (k:Nat) (f:List PV->AH->Option (Nd×AH)) (a:XA):XS:=fun ρ h=>match ρ with
 | .own (.ins k' [] [])::r=>if k'=k/\r.all yzC=true then ob (a ρ h) fun xs h1=>ob (f xs h1) fun d h2=>(match d with|.dead=>none|d=>some (.nx (.own d::r),h2)) else none
 | _=>none
theorem ywn {n k:Nat}{f} {E:XK}{t:TA}{aa:XA}(a:ykS K t aa) (hn:∀ ρ h xs h',aa ρ h=some (xs,h')->xs.length=n):yrl K (yov (yrB (spJ K n k f) [] E (ylb (yol 0) t))) (xBI k f aa):=by
 intro W0 W ρ ρ' σ D h' g e q
 unfold xBI at e
 split at e
 .rename_i k' r
  split at e
  .rename_i c
   obtain ⟨rfl,hr⟩:=c
   obtain ⟨xs,h1,e1,f1⟩:=yg e
   obtain ⟨d,h2,e2,f2⟩:=yg f1
   have nodead:d≠.dead:=fun z=>by subst z;cases f2
   have f2:some (Out.nx (.own d::r),h2)=some (.nx ρ',h'):=by
    cases d<;>first|exact f2|cases f2
   cases f2
   obtain ⟨p,b1,b2,b3,b4,b5⟩:=g.own 0 _ rfl
   refine ⟨.ref p,b1,?_⟩
   refine a W0 W _ σ _ xs h1 g e1 fun vs W1 w1 l1 r1=>?_
   subst w1
   have g1:=g.step l1
   obtain ⟨p',c1,c2,c3,c4,c5⟩:=g1.own 0 _ rfl
   rw [b1] at c1
   cases c1
   rw [append_nil]
   refine ⟨W0,W1,p,vs,xs,d,h',rfl,rfl,g1.le,c3,c2,c5,r1,hn _ _ _ _ e1,e2,fun W2 w2 lf le hm hd at_=>?_⟩
   refine q W2 w2 (l1.lf.trans lf) ⟨le,g1.len,fun j y z=>?_,fun j d' z=>?_,fun i j d1 d2 hij z1 z2=>?_⟩
   .cases j with
    | zero=>cases z
    | succ j =>
     obtain ⟨v,z1,z2⟩:=g1.val (j+1) y z
     exact ⟨v,z1,lf.rep z2⟩
   .cases j with
    | zero=>cases z;exact ⟨p,b1,hm,c3,hd,at_⟩
    | succ j =>
     have z:r[j]?=some (.own d'):=z
     have:=List.all_eq_true.mp hr _ (mem_of_getElem? z)
     cases this
   .cases i with
    | zero =>
     cases j with
     | zero=>exact absurd rfl hij
     | succ j =>
      have z:r[j]?=some (.own d2):=z2
      have:=List.all_eq_true.mp hr _ (mem_of_getElem? z)
      cases this
    | succ i =>
     have z:r[i]?=some (.own d1):=z1
     have:=List.all_eq_true.mp hr _ (mem_of_getElem? z)
     cases this
  .cases e
 .cases e
end PX
namespace PX
open PySem L2
variable {K:Ck}
end PX
namespace PX
open PySem L2
variable {K:Ck}
end PX
namespace PX
open PySem L2
variable {K:Ck}
noncomputable def ypS (c:Nat):List Nat->List (List Nat)
 | []=>[[]]
 | k::r=>if k=c then []::ypS c r else match ypS c r with|[]=>[[k]]|w::ws=>(k::w)::ws
theorem ykm {c:Nat}:∀ {w:List Nat},c∉w->ypS c w=[w]
 | [],_=>rfl
 | k::r,h=>by
  have h1:k≠c:=fun z=>h (z ▸ mem_cons_self ..)
  unfold ypS
  rw [if_neg h1,ykm fun z=>h (mem_cons_of_mem _ z)]
theorem ymN {c:Nat}:∀ {w r:List Nat},c∉w->ypS c (w++c::r)=w::ypS c r
 | [],r,_=>by
  rw [List.nil_append]
  show (if c=c then []::ypS c r else _)=_
  rw [if_pos rfl]
 | k::w,r,h=>by
  have h1:k≠c:=fun z=>h (z ▸ mem_cons_self ..)
  rw [List.cons_append]
  show (if k=c then []::ypS c (w++c::r) else match ypS c (w++c::r) with|[]=>[[k]]|w::ws=>(k::w)::ws)=_
  rw [if_neg h1,ymN fun z=>h (mem_cons_of_mem _ z)]
def ypT (z:Str):List Str:=(ypS 32 z.cps.toList).map fun w=>⟨w.toArray⟩
theorem ygV:∀ (ws:List Str),ws≠[]->(∀ w∈ws,32∉w.cps.toList)->ypT (Str.join " " ws)=ws
 | [],h,_=>absurd rfl h
 | [w],_,h=>by
  have h1:=ykm (h w (List.mem_singleton.mpr rfl))
  show (ypS 32 w.cps.toList).map _=_
  rw [h1];rfl
 | w::v::r,_,h=>by
  have ih:=ygV (v::r) (fun z=>by cases z) fun u hu=>h u (mem_cons_of_mem _ hu)
  show ypT (w++" "++Str.join " " (v::r))=_
  have e:(w++(" ":Str)++Str.join " " (v::r)).cps.toList=w.cps.toList++32::(Str.join " " (v::r)).cps.toList:=by
   show (w.cps++(" ":Str).cps++(Str.join " " (v::r)).cps).toList=_
   rw [show (" ":Str).cps = #[32] by rfl']
   simp
  unfold ypT at ih ⊢
  rw [e,ymN (h w (mem_cons_self ..)),map_cons,ih]
def yuq:V->List V->Hp->VK->Prop:=fun x vs H Q=>∃ z:Str,x=.str z/\vs=[.str " "]/\z.length<=100000/\∀ p,H p=none->Q (.ref p) (upd H p (.lst ((ypT z).map V.str)))
def ykn:PM:=fun x xs h=>match x,xs with|.str z,[.str y]=>if y = " "/\z.length<=100000 then some (.lst ((ypT z).map .str),h) else none|_,_=>none
theorem RepL.of_strs {F:Hp}{m:List Addr}:∀ (ts:List Str),RepL K F m (ts.map PV.str) (ts.map V.str)
 | []=>rfl
 | _::ts=>⟨_,_,rfl,rfl,RepL.of_strs ts⟩
theorem m_split:ypi K "str" isStr yuq ykn:=by
 refine ⟨fun W x v w r c=>?_,fun W x v xs vs Q z h' w rx r e q=>?_⟩
 .unfold isStr at c
  split at c
  .rw [show v=_ from r];rfl
  .cases c
 .unfold ykn at e
  split at e
  .rename_i z y
   split at e
   .rename_i c
    cases e
    obtain ⟨u,rfl,ru⟩:=ylG r
    have ru:u=.str y:=ru
    refine ⟨z,rx,by rw [ru,c.1],c.2,fun p hp=>?_⟩
    have l2:=ylz (o:=.lst ((ypT z).map V.str)) w hp
    exact q (.ref p) (ytW W p (.lst ((ypT z).map V.str))) rfl l2 ⟨p,_,rfl,yr,RepL.of_strs _⟩
   .cases e
  .cases e
theorem ywo {z:Str}{h:AH}(e:z.length<=100000):ykn (.str z) [.str " "] h=some (.lst ((ypT z).map .str),h):=by
 unfold ykn;exact if_pos ⟨rfl,e⟩
variable {t:TS}{s:XS}
end PX
namespace PX
open PySem L2
variable {K:Ck}
mutual
noncomputable def clean:PV->Bool
 | .loc _=>false
 | .lst xs=>ymO xs
 | .tup xs=>ymO xs
 | .ins _ _ xs=>ymO xs
 | _=>true
noncomputable def ymO:List PV->Bool
 | []=>true
 | x::xs=>clean x && ymO xs
end
noncomputable def ypU (f:PV->Option PV):List PV->Option (List PV)
 | []=>some []
 | x::xs=>match f x,ypU f xs with|some y,some ys=>some (y::ys)|_,_=>none
def see:Nat->AH->PV->Option PV
 | 0,_,x=>if clean x=true then some x else none
 | n+1,h,x=>match x with
  | .loc m=>(match h[m]? with|some (.lst xs)=>(ypU (see n h) xs).map .lst|some (.ins k ns xs)=>(ypU (see n h) xs).map (.ins k ns)|_=>none)
  | x=>if clean x=true then some x else none
section
variable {F H:Hp}{m:List Addr}
end
variable {t:TA}{e:XA}
end PX
namespace PX
open PySem L2
variable {K:Ck}
end PX
namespace PX
open PySem L2
variable {K:Ck}
theorem yCY {W W1:Wd}(l1:Le K W W1) {p:Addr}{d:Nd}(hm:p∉W1.m) (hn:W.H p=none) (at_:NdAt K W1.F W1.H W1.m d p):Le K W ⟨W1.F,W1.H,W1.m++[p],W1.h++[d]⟩/\ycm K ⟨W1.F,W1.H,W1.m++[p],W1.h++[d]⟩ (.loc W1.h.length) (.ref p):=by
 have pre:W1.m <+: W1.m++[p]:=List.prefix_append _ _
 refine ⟨⟨⟨l1.ok.le,?_,?_,fun n d' a e1 e2=>?_⟩,l1.fs,l1.pre.trans pre,l1.keep,l1.new,fun b z n=>?_,fun n ks xs e1=>⟨by
  have:=(l1.fz n ks xs e1).1
  show (W1.h++[d])[n]?=_
  rw [getElem?_append_left (List.getElem?_eq_some_iff.mp this).1];exact this,(l1.fz n ks xs e1).2⟩⟩,⟨p,rfl,?_⟩⟩
 .show (W1.m++[p]).length=(W1.h++[d]).length
  rw [length_append,length_append,l1.ok.len];rfl
 .show (W1.m++[p]).Nodup
  rw [List.nodup_append]
  refine ⟨l1.ok.nd,by simp,?_⟩
  intro a ha b hb
  simp at hb
  subst hb
  exact fun z=>hm (z ▸ ha)
 .have e1:(W1.h++[d])[n]?=some d':=e1
  have e2:(W1.m++[p])[n]?=some a:=e2
  by_cases hlt:n<W1.h.length
  .rw [getElem?_append_left hlt] at e1
   rw [getElem?_append_left (by rw [l1.ok.len];exact hlt)] at e2
   exact (l1.ok.at_ n d' a e1 e2).mono (Same.refl _) pre (fun _ f1=>f1) id
  .rw [getElem?_append_right (by omega)] at e1
   rw [getElem?_append_right (by rw [l1.ok.len];omega)] at e2
   rw [l1.ok.len] at e2
   cases hk:n-W1.h.length with
   | zero =>
    rw [hk] at e1 e2
    simp at e1 e2
    subst e1 e2
    exact at_.mono (Same.refl _) pre (fun _ f1=>f1) id
   | succ k=>rw [hk] at e1;simp at e1
 .have z:b∈W1.m++[p]:=z
  rcases List.mem_append.mp z with z|z
  .exact l1.mn b z n
  .simp at z;subst z;exact hn
 .show (W1.m++[p])[W1.h.length]?=some p
  rw [<- l1.ok.len];simp
def ygW (k:Nat) (f:Fn) (a:XA):XE:=fun ρ h=>ob (a ρ h) fun xs h1=>ob (f (.loc h1.length::xs) (h1++[.ins k [] []])) fun x h2=>match x with|.non=>some (.loc h1.length,h2)|_=>none
theorem ypV {k:Nat}{f:Fn}{aa:XA}{ρ:PSt}{h:AH}:ygW k f aa ρ h=ob (aa ρ h) fun xs h1=>ob (f (.loc h1.length::xs) (h1++[.ins k [] []])) fun x h2=>match x with|.non=>some (.loc h1.length,h2)|_=>none:=id rfl
theorem ypW {n k:Nat}{f:Fn}{ex:XK}{t:TA}{e:XA}(a:ykS K t e) (hn:∀ ρ h xs h',e ρ h=some (xs,h')->xs.length=n):yby K (yrC (K.A k) (spE K (n+1) f) [] ex t) (ygW k f e):=by
 intro W0 W ρ σ Q z h' g e' q
 obtain ⟨xs,h1,e1,e2⟩:=yg e'
 obtain ⟨y,h2,e3,e4⟩:=yg e2
 refine a W0 W ρ σ _ xs h1 g e1 fun vs W1 w1 l1 r1=>?_
 subst w1
 intro x dx hx hd hne
 rw [append_nil]
 have a1:Le K W1 (yfo W1 dx (.own x)):=ycc l1.ok hd
 have hx1:(yfo W1 dx (.own x)).H x=none:=(yu hne.symm).trans hx
 have a2:Le K (yfo W1 dx (.own x)) (yfo (yfo W1 dx (.own x)) x (.ins (K.A k) dx [])):=ycc a1.ok hx1
 obtain ⟨a3,r3⟩:=yCY (d:=.ins k [] []) (a1.trans a2) (l1.ok.out hx) hx ⟨l1.ok.ff hx,dx,[],yr,rfl,rfl⟩
 refine ⟨⟨W1.F,upd (upd W1.H dx (.own x)) x (.ins (K.A k) dx []),W1.m++[x],W1.h++[Nd.ins k [] []]⟩,.loc W1.h.length::xs,y,h2,rfl,a3.ok,⟨_,_,rfl,r3,a3.repL r1⟩,by rw [length_cons,hn _ _ _ _ e1],e3,fun v W' w' l' r'=>?_⟩
 split at e4
 .cases e4
  exact ⟨r',q (.ref x) W' w' (l1.trans (a3.trans l')) (l'.rep r3)⟩
 .cases e4
noncomputable def yEj:List V->Hp->VK->Prop:=fun xs H Q=>∃ (p:Addr) (bs:List Bool),xs=[.ref p]/\H p=some (.lst (bs.map V.bl))/\Q (.bl (bs.any id)) H
def ysL:List PV->AH->Option (PV×AH):=fun xs h=>match xs with|[x]=>(match ybs x h with|some ys=>(match ygM ys with|some ns=>some (.bl (ns.any id),h)|none=>none)|none=>none)|_=>none
theorem yzD:yfR K yEj ysL:=by
 intro W xs vs Q z h' w r e q
 unfold ysL at e
 split at e
 .split at e
  .rename_i ys hy
   split at e
   .rename_i ns hn
    cases e
    obtain ⟨v,rfl,rx⟩:=ylG r
    obtain ⟨a,us,rfl,hs,rs⟩:=yQ w hy rx
    have:=ygN hn rs
    subst this
    exact ⟨a,ns,rfl,hs,q _ W rfl (.refl w) rfl⟩
   .cases e
  .cases e
 .cases e
def ysM (n:Nat) (e:XE) (inn:PV->PSt):Nat->Nat->AH->Option (List PV×AH)
 | 0,i,h=>match h[n]? with|some (.lst xs)=>if xs.length=i then some ([],h) else none|_=>none
 | k+1,i,h=>match h[n]? with
  | some (.lst xs)=>(match xs[i]? with|some x=>ob (e (inn x) h) fun y h1=>ob (ysM n e inn k (i+1) h1) fun ys h2=>some (y::ys,h2)|none=>none)
  | _=>none
def yko (e:XE) (ix:List Nat) (el:XE):XO:=fun ρ h=>ob (e ρ h) fun x h1=>match x with
 | .loc n=>(match h1[n]? with|some (.lst xs)=>if xs.length<=10000 then ob (ysM n el (yeE ix ρ) xs.length 0 h1) fun ys h2=>some (.lst ys,h2) else none|_=>none)
 | _=>none
theorem ypX {ta tb:TE}{ea eb:XE}(ix:List Nat) (a:yby K ta ea) (b:yby K tb eb):ykT K (ynu (yrv K.K ta) ix tb) (yko ea ix eb):=by
 intro W0 W ρ σ Q d h' gd e q
 obtain ⟨x,h1,e1,f1⟩:=yg e
 refine a W0 W ρ σ _ x h1 gd e1 fun v W1 w1 l1 r1=>?_
 subst w1
 split at f1
 .rename_i n
  split at f1
  .rename_i xs hn
   split at f1
   .rename_i hlen
    obtain ⟨zs,h2,e2,f2⟩:=yg f1
    cases f2
    obtain ⟨p,ev,hm,hf,us,hp,rs⟩:=l1.ok.loc hn r1
    refine ⟨p,ev,⟨us,SqL.of hp⟩,fun D hD=>?_⟩
    have nm:=l1.ok.out hD
    have nf:=l1.ok.ff hD
    refine ⟨fun i m H=>m=xs.length-i/\i<=xs.length/\∃ W' acc done rest,W'.H=H/\Le K W1 W'/\D∉W'.m/\W'.F D=none/\H D=some (.lst acc)/\ycj K W' done acc/\done.length=i/\zs=done++rest/\ysM n eb (yeE ix ρ) (xs.length-i) i W'.h=some (rest,h'),⟨_,rfl,zero_le _,yfo W1 D (.lst []),[],[],zs,rfl,ycc l1.ok hD,nm,nf,yr,rfl,rfl,rfl,e2⟩,?_⟩
    rintro i m _ ⟨rfl,hi,W',acc,done,rest,rfl,l,n1,n2,hd,rd,ld,ez,f⟩
    have hm':W'.m[n]?=some p:=ydT l.pre hm
    by_cases hlt:i<xs.length
    .obtain ⟨k,hk⟩:∃ k,xs.length-i=k+1:=⟨xs.length-i-1,by omega⟩
     rw [hk] at f
     unfold ysM at f
     split at f
     .rename_i ys hy
      split at f
      .rename_i z hz
       obtain ⟨p',ev',hm2,hf',vs,hp',rs'⟩:=l.ok.loc hy (v:=.ref p) ⟨p,rfl,hm'⟩
       cases ev'
       obtain ⟨y,h3,k1,f3⟩:=yg f
       obtain ⟨ys',h4,k2,f4⟩:=yg f3
       cases f4
       obtain ⟨vz,hv1,hv2⟩:=rs'.get hz
       refine .inr ⟨⟨vs,vz,SqL.of hp',hv1⟩,fun v H2 hy=>?_⟩
       obtain ⟨rfl,hx⟩:=hy
       have hx:=hx vs (SqL.of hp')
       rw [hv1] at hx
       cases hx
       refine b W' W' _ _ _ y h3 (yiE gd (l1.trans l) ix hv2) k1 fun w W2 w2 l2 r2=>?_
       have nm2:D∉W2.m:=fun z=>by rw [l2.mn D z n1] at hd;cases hd
       have nf2:W2.F D=none:=l2.new D _ hd n1 n2
       refine ⟨acc,l2.keep _ _ hd n1,?_,xs.length-(i+1),by omega,rfl,hlt,ypp W2 D (.lst (acc++[w])),acc++[w],done++[y],ys',rfl,ygL (l.trans l2) nm2 nf2 hD,nm2,nf2,yr,(l2.repL rd).snoc r2,by simp [ld],by simp [ez],?_⟩
       .rw [rd.len,ld];exact big (by omega)
       .show ysM n eb (yeE ix ρ) (xs.length-(i+1)) (i+1) W2.h=some (ys',h')
        rw [w2,show xs.length-(i+1)=k by omega];exact k2
      .cases f
     .cases f
    .have ei:i=xs.length:=by omega
     subst ei
     rw [sub_self] at f
     unfold ysM at f
     split at f
     .rename_i ys hy
      obtain ⟨p',ev',hm2,hf',vs,hp',rs'⟩:=l.ok.loc hy (v:=.ref p) ⟨p,rfl,hm'⟩
      cases ev'
      split at f
      .rename_i hyl
       cases f
       refine .inl ⟨⟨vs,SqL.of hp',by rw [rs'.len,hyl];exact Nat.le_refl _⟩,?_⟩
       rw [append_nil] at ez
       subst ez
       exact q D W' rfl (l1.trans l) n1 (l1.fresh hD) (fun z=>by cases z) ⟨n2,acc,hd,rd⟩
      .cases f
     .cases f
   .cases f1
  .cases f1
 .cases f1
end PX
namespace PX
open PySem L2
variable {K:Ck}
def yid (e:XE) (ix:List Nat) (el:XE):XO:=fun ρ h=>ob (e ρ h) fun x h1=>match x with
 | .loc n=>(match h1[n]? with|some (.dct ks xs)=>if ks.length<=10000 then ob (ygn el (yeE ix ρ) (ks.map yiP) (h1.set n (.fz ks xs))) fun ys h2=>some (.lst ys,h2.set n (.dct ks xs)) else none|_=>none)
 | _=>none
def yur (NF:Addr->Prop) (te:TE) (ix:List Nat) (tb:TE):TE:=fun σ H Q=>ynu (yzA NF te) ix tb σ H fun v H'=>∃ a ob kvs,NF a/\H' a=some (.frz ob (.dK kvs))/\Q v (upd H' a (.dK kvs))
theorem ypY {NF:Addr->Prop}{ta tb:TE}{ea eb:XE}(ix:List Nat) (a:yby K ta ea) (b:yby K tb eb):ykT K (yur NF ta ix tb) (yid ea ix eb):=by
 intro W0 W ρ σ Q d h' gd e q
 obtain ⟨x,h1,e1,f1⟩:=yg e
 refine a W0 W ρ σ _ x h1 gd e1 fun v W1 w1 l1 r1=>?_
 subst w1
 split at f1
 .rename_i n
  split at f1
  .rename_i ks xs hn
   split at f1
   .rename_i hlen
    obtain ⟨zs,h2,e2,f2⟩:=yg f1
    cases f2
    have hz:=ylF e2
    rw [length_map] at hz
    obtain ⟨p,ev,hm,hf,us,hp,hl,rs⟩:=l1.ok.loc hn r1
    have hzl:(ks.zip us).length=ks.length:=by rw [length_zip,hl,Nat.min_self]
    refine ⟨p,ks.zip us,ev,hp,fun ob nf=>?_⟩
    have lf:Le K W1 (ynK W1 n p (.frz ob (.dK (ks.zip us))) (.fz ks xs)):=ygP l1.ok hn hm hf ⟨hf,ob,us,yr,hl,rs⟩
    have hnl:n<W1.h.length:=(List.getElem?_eq_some_iff.mp hn).1
    have still:∀ W',Lf K (ynK W1 n p (.frz ob (.dK (ks.zip us))) (.fz ks xs)) W'->W'.h[n]?=some (.fz ks xs)/\W'.H p=some (.frz ob (.dK (ks.zip us))):=fun W' l=>by
     obtain ⟨z1,z2⟩:=l.fz n ks xs (getElem?_set_self hnl)
     exact ⟨z1,(z2 p hm).trans yr⟩
    have l2:=l1.trans lf
    generalize hW2:ynK W1 n p (.frz ob (.dK (ks.zip us))) (.fz ks xs)=W2 at *
    have hW2h:W2.h=W1.h.set n (.fz ks xs):=by rw [<- hW2];rfl
    have hW2H:W2.H=upd W1.H p (.frz ob (.dK (ks.zip us))):=by rw [<- hW2];rfl
    have hW2m:W2.m=W1.m:=by rw [<- hW2];rfl
    rw [<- hW2h] at e2
    rw [<- hW2H]
    intro D hD
    have nm:=lf.ok.out hD
    have nf2:=lf.ok.ff hD
    refine ⟨fun i m H=>m=ks.length-i/\i<=ks.length/\∃ W' acc done rest,W'.H=H/\Le K W2 W'/\D∉W'.m/\W'.F D=none/\H D=some (.lst acc)/\ycj K W' done acc/\done.length=i/\zs=done++rest/\ygn eb (yeE ix ρ) ((ks.map yiP).drop i) W'.h=some (rest,h2),⟨_,rfl,zero_le _,yfo W2 D (.lst []),[],[],zs,rfl,ycc lf.ok hD,nm,nf2,yr,rfl,rfl,rfl,by rw [List.drop_zero];exact e2⟩,?_⟩
    rintro i m _ ⟨rfl,hi,W',acc,done,rest,rfl,l,n1,n2,hd,rd,ld,ez,f⟩
    obtain ⟨z1,z2⟩:=still W' l.lf
    by_cases hlt:i<ks.length
    .have hlt':i<(ks.map yiP).length:=by rw [length_map];exact hlt
     rw [List.drop_eq_getElem_cons hlt'] at f
     obtain ⟨y,h3,k1,f3⟩:=yg f
     obtain ⟨ys,h4,k2,f4⟩:=yg f3
     cases f4
     refine .inr ⟨⟨by rw [hzl];exact hlt,z2⟩,fun v H2 hy=>?_⟩
     obtain ⟨rfl,kv,y1,rfl⟩:=hy
     obtain ⟨y4,y5⟩:=List.getElem?_eq_some_iff.mp y1
     have ek:(ks.map yiP)[i]=yiP kv.1:=by rw [List.getElem_map,<- y5,List.getElem_zip]
     rw [ek] at k1
     refine b W' W' _ _ _ y h3 (yiE gd (l2.trans l) ix (ypQ kv.1)) k1 fun w W3 w3 l3 r3=>?_
     have nm3:D∉W3.m:=fun z=>by rw [l3.mn D z n1] at hd;cases hd
     have nf3:W3.F D=none:=l3.new D _ hd n1 n2
     refine ⟨acc,l3.keep _ _ hd n1,?_,ks.length-(i+1),by omega,rfl,hlt,ypp W3 D (.lst (acc++[w])),acc++[w],done++[y],ys,rfl,ygL (l.trans l3) nm3 nf3 hD,nm3,nf3,yr,(l3.repL rd).snoc r3,by simp [ld],by simp [ez],?_⟩
     .rw [rd.len,ld];exact big (by omega)
     .show ygn eb (yeE ix ρ) ((ks.map yiP).drop (i+1)) W3.h=some (ys,h2)
      rw [w3];exact k2
    .have ei:i=ks.length:=by omega
     subst ei
     rw [List.drop_of_length_le (by rw [length_map];exact Nat.le_refl _)] at f
     cases f
     refine .inl ⟨⟨hzl.symm,z2⟩,p,ob,ks.zip us,nf,z2,?_⟩
     rw [append_nil] at ez
     subst ez
     have hm':W'.m[n]?=some p:=ydT l.pre (by rw [hW2m];exact hm)
     obtain ⟨z3,_⟩:=l.ok.at_ n _ p z1 hm'
     have at':NdAt K W'.F (upd W'.H p (.dK (ks.zip us))) W'.m (.dct ks xs) p:=⟨z3,us,yr,hl,RepL.mono (lf.fs.trans l.fs) (lf.pre.trans l.pre) _ _ rs⟩
     have nW:=yzB l1 hn (fun _ _ z=>by cases z)
     have hDp:D≠p:=fun z=>by subst z;exact n1 (mem_of_getElem? hm')
     refine q D (ynK W' n p (.dK (ks.zip us)) (.dct ks xs)) rfl (ywl (l2.trans l) z1 hm' z3 at' nW) n1 (l2.fresh hD) (fun z=>by cases z) ⟨n2,acc,(yu hDp).trans hd,rd⟩
   .cases f1
  .cases f1
 .cases f1
end PX
namespace PX
open PySem L2
variable {K:Ck}
section
variable {ta:TE}{ea:XE}{t:TS}{s:XS}
end
end PX
namespace PX
open PySem L2
abbrev XR:=PSt->AH->Option (Str×AH)
abbrev FnR:=List PV->AH->Option (Str×AH)
def ysN (f:FnR) (a:XA):XR:=fun ρ h=>ob (a ρ h) f
def ydl (k:Nat) (m:Str) (f:FnR) (e:XE) (as:XA):XR:=fun ρ h=>ob (e ρ h) fun x h1=>match ydL x h1 with
 | some (k',ns,_)=>if k'=k/\m∉ns then ob (as ρ h1) fun ys h2=>f (x::ys) h2 else none
 | none=>none
def yus (c:Str) (e:XE):XR:=fun ρ h=>ob (e ρ h) fun _ h1=>some (c,h1)
def rIf (c:XT) (a b:XR):XR:=fun ρ h=>ob (c ρ h) fun k h1=>if k=true then a ρ h1 else b ρ h1
def rNo:XR:=fun _ _=>none
def ysO (N:Nat) (r:XR):FnR:=fun xs h=>r (xs.map .val++replicate (N-xs.length) .no) h
noncomputable def yzE (xc:List (Str×Str×Bool)) (xy:List (Str×String×Bool)) (k:Str) (c:PV):Option Bool:=match c with
 | .xcl c'=>(xc.find? fun r=>r.1 == k && r.2.1 == c').map (·.2.2)
 | .ty n=>(xy.find? fun r=>r.1 == k && r.2.1 == n).map (·.2.2)
 | _=>none
def yfz (tb:List (Nat×Nat×Bool)) (xc:List (Str×Str×Bool)) (xy:List (Str×String×Bool)):List PV->AH->Option (PV×AH):=fun xs h=>match xs with
 | [.exc k,c]=>(match yzE xc xy k c with|some b=>some (.bl b,h)|none=>none)
 | _=>yfT tb xs h
noncomputable def yxA (cs:List Str) (i:Nat) (r:XR) (s:XS):XS:=fun ρ h=>match r ρ h with
 | some (c,h1)=>if c∈cs then (match s (ρ.set i (.val (.exc c))) h1 with|some (.nx ρ',h2)=>some (.nx (ρ'.set i .no),h2)|_=>none) else none
 | none=>none
end PX
namespace PX
open PySem L2
def ykp (ks:List Str) (a:XA):XO:=fun ρ h=>ob (a ρ h) fun xs h1=>if ks.Nodup/\xs.length=ks.length/\ks.length<=15 then some (.dct (ks.map .inr) xs,h1) else none
end PX
namespace L2
open PySem PySem.Spec PyProof.Rows PX
def PTs (X:Cx) (cs:List Expr) (t:TT):Prop :=
 ∀ (pins:List (Addr×Obj)) (s:Shared) (σ:St) (H:Hp) (Q:Bool->Hp->Prop),Inv X pins σ H s->t σ H Q->wpAny (model X.prog X.w) X.A (forIn cs true fun c r=>if r=true then do let ok <- isTrue c X.env (eval c X.env);pure (ForInStep.yield ok) else pure (ForInStep.yield r)) (TP X pins σ Q) X.xe s
def yBp:TT:=fun _ H Q=>Q true H
theorem PTs.nil {X:Cx}:PTs X [] yBp:=fun p s σ H Q I q=>wpAny_tests_nil ⟨H,I,q⟩
theorem ypZ {wi:TI}{ix:List Nat}{te:TE}:ykl wi ix yBp te=ynu wi ix te:=rfl
theorem ywp {X:Cx}{e:Expr}{wi:TI}{ix:List Nat}{te:TE}(h:PE X e (ykl wi ix yBp te)):PE X e (ynu wi ix te):=ypZ ▸ h
theorem yzF {X:Cx}{e:Stmt}{wi:TI}{ix:List Nat}{te:TE}{g:TG}(h:PS X e (ytJ (ykl wi ix yBp te) g)):PS X e (ytJ (ynu wi ix te) g):=ypZ ▸ h
theorem yiQ {X:Cx}{elt iter:Expr}{cs:List Expr}{tc:TT}{x:Str}{px:Pos}{scope:Scope}{cpos:Pos}{wi:TI}{te:TE}(ix:List Nat) (fr:List Str) (hc:X.calm=true) (hi:PI X (.Name x px) iter wi) (hfr:FrOk X scope ix fr)
  (he:∀ (cl:List (Str×Addr)) (C:Addr) (s₃:Shared) (H₃:Hp) (fp:List Addr) (pins:List (Addr×Obj)),PE (cxC X scope cl C (x::fr) s₃ H₃ fp pins) elt te)
  (hq:∀ (cl:List (Str×Addr)) (C:Addr) (s₃:Shared) (H₃:Hp) (fp:List Addr) (pins:List (Addr×Obj)),PTs (cxC X scope cl C (x::fr) s₃ H₃ fp pins) cs tc)
  (hnd:(x::fr).Nodup) (hkind:scope.kind=.function) (hcell:∀ y∈scope.names,y.2≠.cell)
  (hnames:∀ y∈scope.names,y.2=.local->scope.names.lookup y.1=some .local) (hfree0:∀ y∈scope.names,y.2=.free->y.1∈fr) (hx:scope.names.lookup x=some .local)
  (hs:∀ v,foldedSetIterable iter X.env v=pure v):PE X (.ListComp elt [⟨.Name x px,iter,cs,0⟩] scope cpos) (ykl wi ix tc te):=by
 intro pins s σ H Q I h
 have hfn:X.env.scope.kind=.function:=I.ok.kind
 have hfree:∀ y∈scope.names,y.2=.free->X.env.kindOf y.1=some .cell/\scope.names.lookup y.1=some .free:=fun y hy e=>by
  obtain ⟨j,hj,ej⟩:=getElem_of_mem (hfree0 y hy e)
  obtain ⟨i,_,_,h3,h4⟩:=hfr.get (j:=j) (y:=y.1) (by rw [List.getElem?_eq_getElem hj,ej])
  exact ⟨h4,h3⟩
 obtain ⟨cl,ecl,hcl1,hcl2⟩:=yds (env:=X.env) scope.names [] fun n hn=>I.ok.has n (.inl (hfree _ hn rfl).1)
 have hclos:closureFor scope X.env=pure cl:=by
  unfold closureFor
  have:(forIn scope.names ([]:List (Str×Addr)) (fun (x:Str×NameKind) (r:List (Str×Addr))=>if (x.2 == NameKind.free)=true then do let c <- cellOf X.env x.1;pure (ForInStep.yield ((x.1,c)::r)) else pure (ForInStep.yield r)):Sem (List (Str×Addr)))=pure cl:=ecl
  first
   | exact (by simpa using congrArg (· >>= fun r=>pure r) this)
   | (rw [show (pure cl:Sem (List (Str×Addr)))=(pure cl >>= fun r=>pure r) from rfl,<- this];rfl)
 have hcle:∀ y c,cl.lookup y=some c->X.env.cells.lookup y=some c/\(y,NameKind.free)∈scope.names:=fun y c e=>by
  by_cases hy:(y,NameKind.free)∈scope.names
  .exact ⟨by rw [<- hcl1 y hy];exact e,hy⟩
  .rw [hcl2 y hy] at e;simp at e
 rw [eval_ListComp]
 refine wpAny_comprehension_free (use:=none) rfl hs hclos hkind hnames ?_
 refine thn (hi pins s σ H _ I h) fun v s1 h1=>thn h1 fun itv s2 h2=>?_
 obtain ⟨it,fp,tn,J,H2,e,I2,T,st2,f2,q2⟩:=h2
 subst e
 refine wpAny_newObj_type ?_
 generalize hs3:({ s2 with heap:=s2.heap.push { cls:=.type "list",dict:=none,data:=.seq ([]:List Value).toArray } }:Shared)=s3
 generalize hD:s2.heap.objs.size=D
 have hDn:H2 D=none:=by rw [<- hD];exact I2.hok.fresh (Nat.le_refl _)
 have I3:Inv X pins σ (upd H2 D (.lst [])) s3:=by
  rw [<- hs3,<- hD]
  exact I2.lnew (t':=s2.toks) (ys:=[]) (its:=[]) .nil (zero_le _)
 have k3:∀ b o,s2.heap.get? b=some o->s3.heap.get? b=some o:=fun b o e=>by rw [<- hs3];exact Heap.get?_push_of_some _ e
 have st3:tn 0 s3.heap:=T.keep _ _ _ st2 fun b _ o e=>k3 b o e
 have fne:∀ b∈fp,b≠D:=fun b hb=>by
  obtain ⟨o,e,_⟩:=T.obj _ _ st2 b hb
  rw [<- hD]
  exact ne_of_lt (Heap.lt_size e)
 have f3:∀ b∈fp,yoz X pins (upd H2 D (.lst [])) b:=fun b hb=>⟨by rw [yu (fne b hb)];exact (f2 b hb).1,(f2 b hb).2⟩
 have q3:=q2 D hDn
 generalize upd H2 D (.lst [])=H3 at I3 f3 q3
 obtain ⟨W,⟨m0,w0⟩,turn⟩:=q3
 refine wpAny_newFunctionEnv hcell (by intro y hy;simp at hy) (fun h4 hns hsb=>?_) hkind
 try dsimp only at hns hsb ⊢
 generalize hC:s3.heap.objs.size=C at hns hsb ⊢
 have k4:∀ b o,s3.heap.get? b=some o->h4.get? b=some o:=fun b o e=>(hsb.2 b (by rw [<- hC];exact ne_of_lt (Heap.lt_size e))).trans (Heap.get?_push_of_some _ e)
 have Cne:∀ b o,s3.heap.get? b=some o->b≠C:=fun b o e=>by rw [<- hC];exact ne_of_lt (Heap.lt_size e)
 have stk:=I3.stkSub
 have pinF:∀ p∈X.pn++pins,p.1∉frs X.stack:=fun p hp z=>by
  obtain ⟨_,_,n1,n2,_⟩:=I3.pin p hp
  rcases mem_cons.mp (stk _ z) with z|z
  .exact n1 z
  .exact n2 z
 have okC:(cxC X scope cl C (x::fr) s3 H3 fp pins).Ok:=by
  refine ⟨I3.ok.mod,by show (relabel scope X.env).kind=_;exact hkind,I3.ok.glob,I3.ok.blt,le_of_eq hC,fun y z c h1 h2=>I3.ok.inj y z c (hcle y c h1).1 (hcle z c h2).1,fun y hy=>?_,fun y c hf _=>(by cases hf),I3.ok.hd,I3.ok.frames,.inl rfl,fun b hb=>⟨?_,fun y c e z=>?_⟩,I3.bs,?_,fun b o e hb=>?_,fun b hb z=>?_,I3.stack,I3.stkFree⟩
  .have hy:((relabel scope X.env).names.lookup y=some .cell)\/((relabel scope X.env).names.lookup y=some .free):=hy
   rw [show (relabel scope X.env).names.lookup y=_ from ybU y scope.names] at hy
   cases e:scope.names.lookup y with
   | none=>rw [e] at hy;simp at hy
   | some k =>
    have hm:(y,k)∈scope.names:=PySem.mem_of_lookup e
    have hkf:k=.free:=by
     rw [e] at hy
     cases k<;>simp at hy ⊢
     exact absurd rfl (hcell _ hm)
    subst hkf
    obtain ⟨c,hc'⟩:=I3.ok.has y (.inl (hfree _ hm rfl).1)
    exact ⟨c,by show cl.lookup y=_;rw [hcl1 y hm];exact hc'⟩
  .obtain ⟨o,e,_⟩:=T.obj _ _ st3 b hb
   exact Cne b o e
  .exact (f3 b hb).2.2.2.2.1 y c (hcle y c e).1 z
  .exact Nat.le_trans I3.ok.bsz I3.sz
  .rcases (f3 b hb).2.2.2.1 with z|z
   .exact I3.ok.noex b o e z
   .exact absurd (lt_of_lt_of_le (Heap.lt_size e) (Nat.le_trans I3.ok.bsz z)) (lt_irrefl _)
  .rcases mem_cons.mp (stk _ z) with z|z
   .exact (f3 b hb).2.1 z
   .exact (f3 b hb).2.2.1 z
 have inn:∀ v,(inner ix σ v)=some v::ix.map fun i=>(σ[i]?).getD none:=fun _=>rfl
 have I4:Inv (cxC X scope cl C (x::fr) s3 H3 fp pins) [] (none::ix.map fun i=>(σ[i]?).getD none) H3 { s3 with heap:=h4,toks:=s3.toks+([]:List (Str×Value)).length }:=by
  refine ⟨okC,rfl,I3.bare,Un.kept k4,⟨_,hns,fun j y v e1 e2 e3=>?_⟩,fun y c e=>?_,I3.hok.fresh (le_of_eq hC),fun y c e=>I3.freeC y c (hcle y c e).1,fun p hp=>?_,I3.hok.kept k4,?_⟩
  .match j,e1,e2 with
   | 0,e1,e2=>simp at e2
   | j+1,e1,e2 =>
    obtain ⟨i,hi1,hi2,hi3,hi4⟩:=hfr.get (j:=j) (y:=y) (by have e1':(x::fr)[j+1]?=some y:=e1;simpa using e1')
    have e2':σ[i]?=some (some v):=by
     have e2:(ix.map fun i=>(σ[i]?).getD none)[j]?=some (some v):=by simpa using e2
     rw [getElem?_map,hi1] at e2
     simp at e2
     cases z:σ[i]? with
     | none=>rw [z] at e2;simp at e2
     | some o=>rw [z] at e2;simp at e2;rw [e2]
    obtain ⟨m,_,hl⟩:=I3.loc
    obtain ⟨u,r,l⟩:=hl i y v hi2 e2' (.inr (.inl hi4))
    refine ⟨u,r,?_⟩
    rcases l with ⟨k,_⟩|⟨k,c,ec,z⟩
    .rw [hi4] at k;cases k
    .have hm:(y,NameKind.free)∈scope.names:=PySem.mem_of_lookup hi3
     refine .inr ⟨.inl ?_,c,by show cl.lookup y=_;rw [hcl1 y hm];exact ec,?_⟩
     .show (relabel scope X.env).names.lookup y=_
      rw [show (relabel scope X.env).names.lookup y=_ from ybU y scope.names,hi3]
      simp [hfn,hi4]
     .obtain ⟨o,ho,hd⟩:=z
      exact ⟨o,k4 _ _ ho,hd⟩
  .obtain ⟨v,o,ho,hd⟩:=I3.cell y c (hcle y c e).1
   exact ⟨v,o,k4 _ _ ho,hd⟩
  .have hp:p∈X.pn++pins:=by simpa [cxC] using hp
   obtain ⟨e,n,ne,nf,d⟩:=I3.pin p hp
   exact ⟨k4 _ _ e,n,Cne _ _ e,pinF p hp,d⟩
  .show (none::ix.map fun i=>(σ[i]?).getD none).length=(x::fr).length
   rw [length_cons,length_cons,length_map,hfr.len]
 have st4:tn 0 h4:=T.keep _ _ _ st3 fun b _ o e=>k4 b o e
 have f4:∀ b∈fp,b≠C/\b∉frs X.stack/\(∀ y c,cl.lookup y=some c->c≠b)/\∀ p∈(X.pn++pins)++([]:List (Addr×Obj)),p.1≠b:=fun b hb=>by
  obtain ⟨o,e,_⟩:=T.obj _ _ st3 b hb
  refine ⟨Cne b o e,fun z=>?_,fun y c e=>(f3 b hb).2.2.2.2.1 y c (hcle y c e).1,fun p hp=>(f3 b hb).2.2.2.2.2 p (by simpa using hp)⟩
  rcases mem_cons.mp (stk _ z) with z|z
  .exact (f3 b hb).2.1 z
  .exact (f3 b hb).2.2.1 z
 have stat:∀ {H':Hp},(∀ b∈fp,H' b=none)->∀ b∈fp,yoz (cxC X scope cl C (x::fr) s3 H3 fp pins) [] H' b:=fun hn b hb=>⟨hn b hb,(f4 b hb).1,(f4 b hb).2.1,.inl hb,(f4 b hb).2.2.1,(f4 b hb).2.2.2⟩
 have fin:∀ {σ':St}{H':Hp}{s':Shared},Inv (cxC X scope cl C (x::fr) s3 H3 fp pins) [] σ' H' s'->Q (.ref D) H'->compPost (model X.prog X.w) X.A X.xe none (EP X pins σ Q) (.ref D) C (.ok .next) s':=fun {σ' H' s'} I' q'=>by
  obtain ⟨m,hn,_⟩:=I'.loc
  refine ⟨m,hn,fun h' sb=>⟨.ref D,H',?_,rfl,q'⟩⟩
  have hCn:H' C=none:=I'.free
  have same:∀ b,b≠C->h'.get? b=s'.heap.get? b:=fun b hb=>sb.2 b hb
  have U:=I'.base
  have U':Un (frs X.stack) fp H3 H' s3.heap h':=by
   refine ⟨fun b o e n h1 h2=>?_,fun b o e n h1 h2=>?_,U.free,fun b o e h2=>?_,U.tups,U.frzs,U.tbls⟩
   .rw [same b (Cne b o e)];exact U.keep b o e n h1 h2
   .rw [same b (Cne b o e)];exact U.slot b o e n h1 h2
   .rw [same b (Cne b o e)];exact U.there b o e h2
  refine I3.call' (s':={ s' with heap:=h' }) (by show s'.os=s3.os;exact I'.os) U' ?_ I'.bare fun b hb=>⟨(f3 b hb).2.2.2.1,(f3 b hb).2.1,(f3 b hb).2.2.2.2.1,(f3 b hb).2.2.2.2.2⟩
  intro b ob e
  refine (I'.hok b ob e).stay (fun c w' hc q=>?_) (fun _ q=>q) fun _ _ q=>q
  show h'.get? c=_
  rw [same c ?_]
  .exact q
  rintro rfl
  rcases hc with rfl|hc
  .rw [hCn] at e;cases e
  .rw [hCn] at hc;cases hc
 have loop:∀ s5:Shared,s5={ s3 with heap:=h4,toks:=s3.toks+([]:List (Str×Value)).length } ->
   codeAny (model X.prog X.w) X.A (.compLoop (.ListComp elt [⟨.Name x px,iter,cs,0⟩] scope cpos) 0 (.ref it) (.ref D) (compEnvC scope cl C X.env)) (compPost (model X.prog X.w) X.A X.xe none (EP X pins σ Q) (.ref D) C) s5:=by
  rintro s5 rfl
  refine codeAny_loop rfl (fun n s'=>∃ i o H',Inv (cxC X scope cl C (x::fr) s3 H3 fp pins) [] (o::ix.map fun i=>(σ[i]?).getD none) H' s'/\tn i s'.heap/\(∀ b∈fp,H' b=none)/\W i n H') ?_ m0 ⟨0,none,H3,I4,st4,fun b hb=>(f3 b hb).1,w0⟩
  rintro n s6 ⟨i,o,H6,I6,st6,fr6,w6⟩
  show wpAny _ _ ((compTurn (.ListComp elt [⟨.Name x px,iter,cs,0⟩] scope cpos) 0 (.ref it) (.ref D) (compEnvC scope cl C X.env)).onRaise (fun x=>do noteFrame x (compEnvC scope cl C X.env);theTreesLotGoes x)) _ _ s6
  refine wpAny_noted ?_
  rw [compTurn_list]
  rcases turn i n H6 w6 with ⟨stop,qn⟩|⟨go,step⟩
  .refine wpAny_bind (wpAny_standAt (wpAny_bind (thn (T.done (cxC X scope cl C (x::fr) s3 H3 fp pins) rfl rfl rfl hc i [] s6 _ H6 _ I6 (stat fr6) st6 stop) fun r s7 ⟨hr,I7⟩=>?_)))
   subst hr
   exact wpAny_pure (fin I7 qn)
  .refine wpAny_bind (wpAny_standAt (wpAny_bind (thn (T.item (cxC X scope cl C (x::fr) s3 H3 fp pins) rfl rfl rfl hc i [] s6 _ H6 _ I6 (stat fr6) st6 go) fun r s7 ⟨u,hr,h7⟩=>?_)))
   subst hr
   refine wpAny_bind (thn h7 fun _ s8 ⟨y,H8,I8,r8,y8,st8,fr8⟩=>?_)
   have I8':=I8.pinned (stat fr8) (T.obj _ _ st8)
   have hx':Loc (cxC X scope cl C (x::fr) s3 H3 fp pins).env.scope x:=.inl (lookup_relabel_local hx)
   refine wpAny_bind (wpAny_mono (yir (X:=cxC X scope cl C (x::fr) s3 H3 fp pins) (i:=0) (x:=x) (pos:=px) hnd rfl hx' (.inr (lookup_relabel_local hx)) _ s8 _ H8 y u (fun σ9 H9=>σ9=inner ix σ y/\H9=H8) I8' r8 ⟨rfl,rfl⟩) (fun _ s9 ⟨σ9,H9,I9,e9,e9'⟩=>?_) fun _ _ f=>f.elim)
   subst e9 e9'
   refine wpAny_bind (wpAny_mono (hq cl C s3 H3 fp pins _ s9 _ _ _ I9 (step y _ y8)) (fun kb s9b hkb=>?_) fun _ _ f=>f.elim)
   obtain ⟨H9b,I9b,q9b⟩:=hkb
   cases kb with
   | false =>
    rw [if_neg (by decide)] at q9b
    obtain ⟨m',hm',w10⟩:=q9b
    refine wpAny_pure ⟨rfl,m',hm',i+1,some y,_,I9b.unpinned,T.keep _ _ _ st8 fun b hb o e=>(I9b.pin (b,o) (mem_append_right _ (mem_append_right _ (ybr hb e)))).1,fun b hb=>?_,w10⟩
    obtain ⟨o,e,d⟩:=T.obj _ _ st8 b hb
    exact (I9b.pin (b,o) (mem_append_right _ (mem_append_right _ (ybr hb e)))).2.1
   | true =>
   rw [if_pos rfl] at q9b
   refine wpAny_bind (wpAny_bind (wpAny_mono (he cl C s3 H3 fp pins _ s9b _ _ _ I9b q9b) (fun v s10 ⟨z,H10,I10,r10,acc,a10,l10,m',hm',w10⟩=>?_) fun _ _ f=>f.elim))
   refine wpAny_bind (wpAny_mono (yfp (X:=cxC X scope cl C (x::fr) s3 H3 fp pins) _ s10 _ H10 (.ref D) [z] (.ref D) [v] (fun _ H11=>H11=upd H10 D (.lst (acc++[z]))) I10 rfl (.cons r10 .nil) ⟨D,acc,z,rfl,rfl,a10,l10,rfl⟩) (fun _ s11 ⟨_,H11,I11,_,e11⟩=>?_) fun _ _ f=>f.elim)
   subst e11
   refine wpAny_pure (wpAny_pure ⟨rfl,m',hm',i+1,some y,_,I11.unpinned,T.keep _ _ _ st8 fun b hb o e=>(I11.pin (b,o) (mem_append_right _ (mem_append_right _ (ybr hb e)))).1,fun b hb=>?_,w10⟩)
   obtain ⟨o,e,d⟩:=T.obj _ _ st8 b hb
   exact (I11.pin (b,o) (mem_append_right _ (mem_append_right _ (ybr hb e)))).2.1
 exact codeAny_compStart_list (loop _ rfl) (T.self X.A 0 _ _ _ st4 (loop _ rfl))
theorem ymP {y:Str}{py spos:Pos}{iy:Nat}{X:Cx}{elt iter:Expr}{cs:List Expr}{tc:TT}{x:Str}{px:Pos}{scope:Scope}{cpos:Pos}{wi:TI}{te:TE}(ix:List Nat) (fr:List Str) (hc:X.calm=true) (hi:PI X (.Name x px) iter wi) (hfr:FrOk X scope ix fr)
  (he:∀ (cl:List (Str×Addr)) (C:Addr) (s₃:Shared) (H₃:Hp) (fp:List Addr) (pins:List (Addr×Obj)),PE (cxC X scope cl C (x::fr) s₃ H₃ fp pins) elt te)
  (hq:∀ (cl:List (Str×Addr)) (C:Addr) (s₃:Shared) (H₃:Hp) (fp:List Addr) (pins:List (Addr×Obj)),PTs (cxC X scope cl C (x::fr) s₃ H₃ fp pins) cs tc)
  (hnd:(x::fr).Nodup) (hkind:scope.kind=.function) (hcell:∀ y∈scope.names,y.2≠.cell)
  (hnames:∀ y∈scope.names,y.2=.local->scope.names.lookup y.1=some .local) (hfree0:∀ y∈scope.names,y.2=.free->y.1∈fr) (hx:scope.names.lookup x=some .local)
  (hs:∀ v,foldedSetIterable iter X.env v=pure v)
  (hN:X.N.Nodup) (hyi:X.N[iy]?=some y) (hyx:Loc X.env.scope y) (hyf:X.fn y=true\/X.env.scope.names.lookup y=some .local) (hsw:swapsWith (.ListComp elt [⟨.Name x px,iter,cs,0⟩] scope cpos) (some (.Name y py)) spos.line X.env=pure true) :
  PS X (.Assign [.Name y py] (.ListComp elt [⟨.Name x px,iter,cs,0⟩] scope cpos) spos) (ytJ (ykl wi ix tc te) (ynm iy)):=by
 intro pins s σ H D0 I h
 have hfn:X.env.scope.kind=.function:=I.ok.kind
 have hfree:∀ y∈scope.names,y.2=.free->X.env.kindOf y.1=some .cell/\scope.names.lookup y.1=some .free:=fun y hy e=>by
  obtain ⟨j,hj,ej⟩:=getElem_of_mem (hfree0 y hy e)
  obtain ⟨i,_,_,h3,h4⟩:=hfr.get (j:=j) (y:=y.1) (by rw [List.getElem?_eq_getElem hj,ej])
  exact ⟨h4,h3⟩
 obtain ⟨cl,ecl,hcl1,hcl2⟩:=yds (env:=X.env) scope.names [] fun n hn=>I.ok.has n (.inl (hfree _ hn rfl).1)
 have hclos:closureFor scope X.env=pure cl:=by
  unfold closureFor
  have:(forIn scope.names ([]:List (Str×Addr)) (fun (x:Str×NameKind) (r:List (Str×Addr))=>if (x.2 == NameKind.free)=true then do let c <- cellOf X.env x.1;pure (ForInStep.yield ((x.1,c)::r)) else pure (ForInStep.yield r)):Sem (List (Str×Addr)))=pure cl:=ecl
  first
   | exact (by simpa using congrArg (· >>= fun r=>pure r) this)
   | (rw [show (pure cl:Sem (List (Str×Addr)))=(pure cl >>= fun r=>pure r) from rfl,<- this];rfl)
 have hcle:∀ y c,cl.lookup y=some c->X.env.cells.lookup y=some c/\(y,NameKind.free)∈scope.names:=fun y c e=>by
  by_cases hy:(y,NameKind.free)∈scope.names
  .exact ⟨by rw [<- hcl1 y hy];exact e,hy⟩
  .rw [hcl2 y hy] at e;simp at e
 rw [exec_Assign_Name_used _ _ _ _ hsw]
 refine wpAny_bind (wpAny_standAt (wpAny_bind ?_))
 show wpAny _ X.A (do let _ <- comprehension (.ListComp elt [⟨.Name x px,iter,cs,0⟩] scope cpos) scope X.env _ (newList []) false (eval iter X.env) (some (assign (.Name y py) X.env))) _ _ s
 refine wpAny_bind (wpAny_mono (wpAny_comprehension_free (use:=some (assign (.Name y py) X.env)) (Q:=fun _ s'=>SP X pins D0 .next s') rfl hs hclos hkind hnames ?_) (fun _ s' hq=>wpAny_pure (wpAny_pure hq)) fun _ _ e=>e)
 refine thn (hi pins s σ H _ I h) fun v s1 h1=>thn h1 fun itv s2 h2=>?_
 obtain ⟨it,fp,tn,J,H2,e,I2,T,st2,f2,q2⟩:=h2
 subst e
 refine wpAny_newObj_type ?_
 generalize hs3:({ s2 with heap:=s2.heap.push { cls:=.type "list",dict:=none,data:=.seq ([]:List Value).toArray } }:Shared)=s3
 generalize hD:s2.heap.objs.size=D
 have hDn:H2 D=none:=by rw [<- hD];exact I2.hok.fresh (Nat.le_refl _)
 have I3:Inv X pins σ (upd H2 D (.lst [])) s3:=by
  rw [<- hs3,<- hD]
  exact I2.lnew (t':=s2.toks) (ys:=[]) (its:=[]) .nil (zero_le _)
 have k3:∀ b o,s2.heap.get? b=some o->s3.heap.get? b=some o:=fun b o e=>by rw [<- hs3];exact Heap.get?_push_of_some _ e
 have st3:tn 0 s3.heap:=T.keep _ _ _ st2 fun b _ o e=>k3 b o e
 have fne:∀ b∈fp,b≠D:=fun b hb=>by
  obtain ⟨o,e,_⟩:=T.obj _ _ st2 b hb
  rw [<- hD]
  exact ne_of_lt (Heap.lt_size e)
 have f3:∀ b∈fp,yoz X pins (upd H2 D (.lst [])) b:=fun b hb=>⟨by rw [yu (fne b hb)];exact (f2 b hb).1,(f2 b hb).2⟩
 have q3:=q2 D hDn
 generalize upd H2 D (.lst [])=H3 at I3 f3 q3
 obtain ⟨W,⟨m0,w0⟩,turn⟩:=q3
 refine wpAny_newFunctionEnv hcell (by intro y hy;simp at hy) (fun h4 hns hsb=>?_) hkind
 try dsimp only at hns hsb ⊢
 generalize hC:s3.heap.objs.size=C at hns hsb ⊢
 have k4:∀ b o,s3.heap.get? b=some o->h4.get? b=some o:=fun b o e=>(hsb.2 b (by rw [<- hC];exact ne_of_lt (Heap.lt_size e))).trans (Heap.get?_push_of_some _ e)
 have Cne:∀ b o,s3.heap.get? b=some o->b≠C:=fun b o e=>by rw [<- hC];exact ne_of_lt (Heap.lt_size e)
 have stk:=I3.stkSub
 have pinF:∀ p∈X.pn++pins,p.1∉frs X.stack:=fun p hp z=>by
  obtain ⟨_,_,n1,n2,_⟩:=I3.pin p hp
  rcases mem_cons.mp (stk _ z) with z|z
  .exact n1 z
  .exact n2 z
 have okC:(cxC X scope cl C (x::fr) s3 H3 fp pins).Ok:=by
  refine ⟨I3.ok.mod,by show (relabel scope X.env).kind=_;exact hkind,I3.ok.glob,I3.ok.blt,le_of_eq hC,fun y z c h1 h2=>I3.ok.inj y z c (hcle y c h1).1 (hcle z c h2).1,fun y hy=>?_,fun y c hf _=>(by cases hf),I3.ok.hd,I3.ok.frames,.inl rfl,fun b hb=>⟨?_,fun y c e z=>?_⟩,I3.bs,?_,fun b o e hb=>?_,fun b hb z=>?_,I3.stack,I3.stkFree⟩
  .have hy:((relabel scope X.env).names.lookup y=some .cell)\/((relabel scope X.env).names.lookup y=some .free):=hy
   rw [show (relabel scope X.env).names.lookup y=_ from ybU y scope.names] at hy
   cases e:scope.names.lookup y with
   | none=>rw [e] at hy;simp at hy
   | some k =>
    have hm:(y,k)∈scope.names:=PySem.mem_of_lookup e
    have hkf:k=.free:=by
     rw [e] at hy
     cases k<;>simp at hy ⊢
     exact absurd rfl (hcell _ hm)
    subst hkf
    obtain ⟨c,hc'⟩:=I3.ok.has y (.inl (hfree _ hm rfl).1)
    exact ⟨c,by show cl.lookup y=_;rw [hcl1 y hm];exact hc'⟩
  .obtain ⟨o,e,_⟩:=T.obj _ _ st3 b hb
   exact Cne b o e
  .exact (f3 b hb).2.2.2.2.1 y c (hcle y c e).1 z
  .exact Nat.le_trans I3.ok.bsz I3.sz
  .rcases (f3 b hb).2.2.2.1 with z|z
   .exact I3.ok.noex b o e z
   .exact absurd (lt_of_lt_of_le (Heap.lt_size e) (Nat.le_trans I3.ok.bsz z)) (lt_irrefl _)
  .rcases mem_cons.mp (stk _ z) with z|z
   .exact (f3 b hb).2.1 z
   .exact (f3 b hb).2.2.1 z
 have inn:∀ v,(inner ix σ v)=some v::ix.map fun i=>(σ[i]?).getD none:=fun _=>rfl
 have I4:Inv (cxC X scope cl C (x::fr) s3 H3 fp pins) [] (none::ix.map fun i=>(σ[i]?).getD none) H3 { s3 with heap:=h4,toks:=s3.toks+([]:List (Str×Value)).length }:=by
  refine ⟨okC,rfl,I3.bare,Un.kept k4,⟨_,hns,fun j y v e1 e2 e3=>?_⟩,fun y c e=>?_,I3.hok.fresh (le_of_eq hC),fun y c e=>I3.freeC y c (hcle y c e).1,fun p hp=>?_,I3.hok.kept k4,?_⟩
  .match j,e1,e2 with
   | 0,e1,e2=>simp at e2
   | j+1,e1,e2 =>
    obtain ⟨i,hi1,hi2,hi3,hi4⟩:=hfr.get (j:=j) (y:=y) (by have e1':(x::fr)[j+1]?=some y:=e1;simpa using e1')
    have e2':σ[i]?=some (some v):=by
     have e2:(ix.map fun i=>(σ[i]?).getD none)[j]?=some (some v):=by simpa using e2
     rw [getElem?_map,hi1] at e2
     simp at e2
     cases z:σ[i]? with
     | none=>rw [z] at e2;simp at e2
     | some o=>rw [z] at e2;simp at e2;rw [e2]
    obtain ⟨m,_,hl⟩:=I3.loc
    obtain ⟨u,r,l⟩:=hl i y v hi2 e2' (.inr (.inl hi4))
    refine ⟨u,r,?_⟩
    rcases l with ⟨k,_⟩|⟨k,c,ec,z⟩
    .rw [hi4] at k;cases k
    .have hm:(y,NameKind.free)∈scope.names:=PySem.mem_of_lookup hi3
     refine .inr ⟨.inl ?_,c,by show cl.lookup y=_;rw [hcl1 y hm];exact ec,?_⟩
     .show (relabel scope X.env).names.lookup y=_
      rw [show (relabel scope X.env).names.lookup y=_ from ybU y scope.names,hi3]
      simp [hfn,hi4]
     .obtain ⟨o,ho,hd⟩:=z
      exact ⟨o,k4 _ _ ho,hd⟩
  .obtain ⟨v,o,ho,hd⟩:=I3.cell y c (hcle y c e).1
   exact ⟨v,o,k4 _ _ ho,hd⟩
  .have hp:p∈X.pn++pins:=by simpa [cxC] using hp
   obtain ⟨e,n,ne,nf,d⟩:=I3.pin p hp
   exact ⟨k4 _ _ e,n,Cne _ _ e,pinF p hp,d⟩
  .show (none::ix.map fun i=>(σ[i]?).getD none).length=(x::fr).length
   rw [length_cons,length_cons,length_map,hfr.len]
 have st4:tn 0 h4:=T.keep _ _ _ st3 fun b _ o e=>k4 b o e
 have f4:∀ b∈fp,b≠C/\b∉frs X.stack/\(∀ y c,cl.lookup y=some c->c≠b)/\∀ p∈(X.pn++pins)++([]:List (Addr×Obj)),p.1≠b:=fun b hb=>by
  obtain ⟨o,e,_⟩:=T.obj _ _ st3 b hb
  refine ⟨Cne b o e,fun z=>?_,fun y c e=>(f3 b hb).2.2.2.2.1 y c (hcle y c e).1,fun p hp=>(f3 b hb).2.2.2.2.2 p (by simpa using hp)⟩
  rcases mem_cons.mp (stk _ z) with z|z
  .exact (f3 b hb).2.1 z
  .exact (f3 b hb).2.2.1 z
 have stat:∀ {H':Hp},(∀ b∈fp,H' b=none)->∀ b∈fp,yoz (cxC X scope cl C (x::fr) s3 H3 fp pins) [] H' b:=fun hn b hb=>⟨hn b hb,(f4 b hb).1,(f4 b hb).2.1,.inl hb,(f4 b hb).2.2.1,(f4 b hb).2.2.2⟩
 have fin:∀ {σ':St}{H':Hp}{s':Shared},Inv (cxC X scope cl C (x::fr) s3 H3 fp pins) [] σ' H' s'->ynm iy (.ref D) σ H' D0.nx->compPost (model X.prog X.w) X.A X.xe (some (assign (.Name y py) X.env)) (fun _ s'=>SP X pins D0 .next s') (.ref D) C (.ok .next) s':=fun {σ' H' s'} I' q'=>by
  obtain ⟨m,hn,_⟩:=I'.loc
  have hCn:H' C=none:=I'.free
  have U:=I'.base
  have U':Un (frs X.stack) fp H3 H' s3.heap s'.heap:=⟨U.keep,U.slot,U.free,U.there,U.tups,U.frzs,U.tbls⟩
  have IX:Inv X pins σ H' s':=I3.call' (s':=s') (by show s'.os=s3.os;exact I'.os) U' I'.hok I'.bare fun b hb=>⟨(f3 b hb).2.2.2.1,(f3 b hb).2.1,(f3 b hb).2.2.2.2.1,(f3 b hb).2.2.2.2.2⟩
  have hCf:yoz X pins H' C:=I3.fpOk (le_of_eq hC) hCn
  obtain ⟨o,es,ep,eo,r1,r2,r3⟩:=hn
  have IP:=IX.pinned (fp:=[C]) (fun b hb=>by have e:b=C:=(by simpa using hb);subst e;exact hCf) (fun b hb=>by have e:b=C:=(by simpa using hb);subst e;exact ⟨o,eo,fun v z=>by rw [r1] at z;cases z⟩)
  refine thn (yir hN hyi hyx hyf _ s' σ H' (.ref D) (.ref D) D0.nx IP rfl q') fun _ s2 ⟨σ2,H2',I2',q2'⟩=>?_
  have pc:=I2'.pin (C,o) (mem_append_right _ (mem_append_right _ (ybr (by simp) eo)))
  exact ⟨m,⟨o,es,ep,pc.1,r1,r2,r3⟩,fun h' sb=>⟨σ2,H2',I2'.unpinned.turned (t':=s2.toks) (fun b ob hb e=>(sb.2 b hb).trans e) pc.2.1 hCf.2.1 hCf.2.2.2.1 hCf.2.2.2.2.1 hCf.2.2.2.2.2,q2'⟩⟩
 have loop:∀ s5:Shared,s5={ s3 with heap:=h4,toks:=s3.toks+([]:List (Str×Value)).length } ->
   codeAny (model X.prog X.w) X.A (.compLoop (.ListComp elt [⟨.Name x px,iter,cs,0⟩] scope cpos) 0 (.ref it) (.ref D) (compEnvC scope cl C X.env)) (compPost (model X.prog X.w) X.A X.xe (some (assign (.Name y py) X.env)) (fun _ s'=>SP X pins D0 .next s') (.ref D) C) s5:=by
  rintro s5 rfl
  refine codeAny_loop rfl (fun n s'=>∃ i o H',Inv (cxC X scope cl C (x::fr) s3 H3 fp pins) [] (o::ix.map fun i=>(σ[i]?).getD none) H' s'/\tn i s'.heap/\(∀ b∈fp,H' b=none)/\W i n H') ?_ m0 ⟨0,none,H3,I4,st4,fun b hb=>(f3 b hb).1,w0⟩
  rintro n s6 ⟨i,o,H6,I6,st6,fr6,w6⟩
  show wpAny _ _ ((compTurn (.ListComp elt [⟨.Name x px,iter,cs,0⟩] scope cpos) 0 (.ref it) (.ref D) (compEnvC scope cl C X.env)).onRaise (fun x=>do noteFrame x (compEnvC scope cl C X.env);theTreesLotGoes x)) _ _ s6
  refine wpAny_noted ?_
  rw [compTurn_list]
  rcases turn i n H6 w6 with ⟨stop,qn⟩|⟨go,step⟩
  .refine wpAny_bind (wpAny_standAt (wpAny_bind (thn (T.done (cxC X scope cl C (x::fr) s3 H3 fp pins) rfl rfl rfl hc i [] s6 _ H6 _ I6 (stat fr6) st6 stop) fun r s7 ⟨hr,I7⟩=>?_)))
   subst hr
   exact wpAny_pure (fin I7 qn)
  .refine wpAny_bind (wpAny_standAt (wpAny_bind (thn (T.item (cxC X scope cl C (x::fr) s3 H3 fp pins) rfl rfl rfl hc i [] s6 _ H6 _ I6 (stat fr6) st6 go) fun r s7 ⟨u,hr,h7⟩=>?_)))
   subst hr
   refine wpAny_bind (thn h7 fun _ s8 ⟨y,H8,I8,r8,y8,st8,fr8⟩=>?_)
   have I8':=I8.pinned (stat fr8) (T.obj _ _ st8)
   have hx':Loc (cxC X scope cl C (x::fr) s3 H3 fp pins).env.scope x:=.inl (lookup_relabel_local hx)
   refine wpAny_bind (wpAny_mono (yir (X:=cxC X scope cl C (x::fr) s3 H3 fp pins) (i:=0) (x:=x) (pos:=px) hnd rfl hx' (.inr (lookup_relabel_local hx)) _ s8 _ H8 y u (fun σ9 H9=>σ9=inner ix σ y/\H9=H8) I8' r8 ⟨rfl,rfl⟩) (fun _ s9 ⟨σ9,H9,I9,e9,e9'⟩=>?_) fun _ _ f=>f.elim)
   subst e9 e9'
   refine wpAny_bind (wpAny_mono (hq cl C s3 H3 fp pins _ s9 _ _ _ I9 (step y _ y8)) (fun kb s9b hkb=>?_) fun _ _ f=>f.elim)
   obtain ⟨H9b,I9b,q9b⟩:=hkb
   cases kb with
   | false =>
    rw [if_neg (by decide)] at q9b
    obtain ⟨m',hm',w10⟩:=q9b
    refine wpAny_pure ⟨rfl,m',hm',i+1,some y,_,I9b.unpinned,T.keep _ _ _ st8 fun b hb o e=>(I9b.pin (b,o) (mem_append_right _ (mem_append_right _ (ybr hb e)))).1,fun b hb=>?_,w10⟩
    obtain ⟨o,e,d⟩:=T.obj _ _ st8 b hb
    exact (I9b.pin (b,o) (mem_append_right _ (mem_append_right _ (ybr hb e)))).2.1
   | true =>
   rw [if_pos rfl] at q9b
   refine wpAny_bind (wpAny_bind (wpAny_mono (he cl C s3 H3 fp pins _ s9b _ _ _ I9b q9b) (fun v s10 ⟨z,H10,I10,r10,acc,a10,l10,m',hm',w10⟩=>?_) fun _ _ f=>f.elim))
   refine wpAny_bind (wpAny_mono (yfp (X:=cxC X scope cl C (x::fr) s3 H3 fp pins) _ s10 _ H10 (.ref D) [z] (.ref D) [v] (fun _ H11=>H11=upd H10 D (.lst (acc++[z]))) I10 rfl (.cons r10 .nil) ⟨D,acc,z,rfl,rfl,a10,l10,rfl⟩) (fun _ s11 ⟨_,H11,I11,_,e11⟩=>?_) fun _ _ f=>f.elim)
   subst e11
   refine wpAny_pure (wpAny_pure ⟨rfl,m',hm',i+1,some y,_,I11.unpinned,T.keep _ _ _ st8 fun b hb o e=>(I11.pin (b,o) (mem_append_right _ (mem_append_right _ (ybr hb e)))).1,fun b hb=>?_,w10⟩)
   obtain ⟨o,e,d⟩:=T.obj _ _ st8 b hb
   exact (I11.pin (b,o) (mem_append_right _ (mem_append_right _ (ybr hb e)))).2.1
 exact codeAny_compStart_list (loop _ rfl) (T.self X.A 0 _ _ _ st4 (loop _ rfl))
end L2
namespace PX
open PySem L2 PySem.Spec PyProof.Rows
section
variable (K:Ck)
noncomputable def cE (x:XE):TE:=fun σ H Q=>∃ (W0 W:Wd) (ρ:PSt) (y:PV) (h':AH),W.H=H/\Good K W0 W ρ σ/\x ρ W.h=some (y,h')/\∀ v W',W'.h=h'->Le K W W'->ycm K W' y v->Q v W'.H
def cO (x:XO):TE:=fun σ H Q=>∃ (W0 W:Wd) (ρ:PSt) (d:Nd) (h':AH),W.H=H/\Good K W0 W ρ σ/\x ρ W.h=some (d,h')/\∀ p W',W'.h=h'->Le K W W'->p∉W'.m->W.H p=none->d≠.dead->NdAt K W'.F W'.H W'.m d p->Q (.ref p) W'.H
noncomputable def cT (x:XT):TT:=fun σ H Q=>∃ (W0 W:Wd) (ρ:PSt) (y:Bool) (h':AH),W.H=H/\Good K W0 W ρ σ/\x ρ W.h=some (y,h')/\∀ W',W'.h=h'->Le K W W'->Q y W'.H
noncomputable def cA (x:XA):TA:=fun σ H Q=>∃ (W0 W:Wd) (ρ:PSt) (y:List PV) (h':AH),W.H=H/\Good K W0 W ρ σ/\x ρ W.h=some (y,h')/\∀ v W',W'.h=h'->Le K W W'->ycj K W' y v->Q v W'.H
noncomputable def cP (x:PSt->AH->Option (Option Int×AH)):TO:=fun σ H Q=>∃ (W0 W:Wd) (ρ:PSt) (y:Option Int) (h':AH),W.H=H/\Good K W0 W ρ σ/\x ρ W.h=some (y,h')/\∀ W',W'.h=h'->Le K W W'->Q y W'.H
noncomputable def cI (x:XA):TI:=fun σ H R=>∃ (W0 W:Wd) (ρ:PSt) (y:List PV) (h':AH),W.H=H/\Good K W0 W ρ σ/\x ρ W.h=some (y,h')/\∀ J W',W'.h=h'->Le K W W'->yCb K W' J y->R J W'.H
noncomputable def cG (y:XG):TG:=fun v σ H Q=>∃ (W0 W:Wd) (ρ ρ':PSt) (x:PV),W.H=H/\Good K W0 W ρ σ/\ycm K W x v/\y x ρ=some ρ'/\∀ σ',Good K W0 W ρ' σ'->Q σ' W.H
def cS (s:XS):TS:=fun D σ H=>∃ (W0 W:Wd) (ρ:PSt) (o:Out) (h':AH),W.H=H/\Good K W0 W ρ σ/\s ρ W.h=some (o,h')/\Ends.Ok K W0 W D h' o
noncomputable def cF (s:XS):TS:=fun D σ H=>∃ (W0 W:Wd) (ρ ρ':PSt) (h':AH),W.H=H/\Good K W0 W ρ σ/\s ρ W.h=some (.nx ρ',h')/\∀ W',W'.h=h'->Lf K W W'->Good K W0 W' ρ' σ->D.nx σ W'.H
end
section
variable {K:Ck}
theorem sE {x:XE}:yby K (cE K x) x:=fun W0 W ρ σ Q y h' g e q=>⟨W0,W,ρ,y,h',rfl,g,e,q⟩
theorem sO {x:XO}:ykT K (cO K x) x:=fun W0 W ρ σ Q y h' g e q=>⟨W0,W,ρ,y,h',rfl,g,e,q⟩
theorem sT {x:XT}:ykR K (cT K x) x:=fun W0 W ρ σ Q y h' g e q=>⟨W0,W,ρ,y,h',rfl,g,e,q⟩
theorem sA {x:XA}:ykS K (cA K x) x:=fun W0 W ρ σ Q y h' g e q=>⟨W0,W,ρ,y,h',rfl,g,e,q⟩
theorem sP {x}:yxt K (cP K x) x:=fun W0 W ρ σ Q y h' g e q=>⟨W0,W,ρ,y,h',rfl,g,e,q⟩
theorem sI {x:XA}:yvJ K (cI K x) x:=fun W0 W ρ σ Q y h' g e q=>⟨W0,W,ρ,y,h',rfl,g,e,q⟩
theorem sG {y:XG}:ytZ K (cG K y) y:=fun W0 W ρ ρ' σ x v Q g r e q=>⟨W0,W,ρ,ρ',x,rfl,g,r,e,q⟩
theorem sS {s:XS}:yeS K (cS K s) s:=fun W0 W ρ σ D o h' g e q=>⟨W0,W,ρ,o,h',rfl,g,e,q⟩
theorem sF {s:XS}:yrl K (cF K s) s:=fun W0 W ρ ρ' σ D h' g e q=>⟨W0,W,ρ,ρ',h',rfl,g,e,q⟩
end
abbrev ckX (X:Cx) (A:Nat->Addr):Ck:=⟨X.K,A⟩
structure ZE (X:Cx) (A:Nat->Addr) (e:Expr) (x:XE):Prop where of:PE X e (cE (ckX X A) x)
structure ZO (X:Cx) (A:Nat->Addr) (e:Expr) (x:XO):Prop where of:PE X e (cO (ckX X A) x)
structure ZT (X:Cx) (A:Nat->Addr) (e:Expr) (x:XT):Prop where of:PT X e (cT (ckX X A) x)
structure ZW (X:Cx) (A:Nat->Addr) (e:Expr) (x:XT):Prop where of:PW X e (cT (ckX X A) x)
structure ZA (X:Cx) (A:Nat->Addr) (e:List Expr) (n:Nat) (x:XA):Prop where
 of:PA X e (cA (ckX X A) x)
 len:∀ ρ h xs h',x ρ h=some (xs,h')->xs.length=n
structure ZP (X:Cx) (A:Nat->Addr) (e:Option Expr) (x:PSt->AH->Option (Option Int×AH)):Prop where of:PO X e (cP (ckX X A) x)
structure ZI (X:Cx) (A:Nat->Addr) (tg e:Expr) (x:XA):Prop where of:PI X tg e (cI (ckX X A) x)
structure ZG (X:Cx) (A:Nat->Addr) (e:Expr) (y:XG):Prop where of:PG X e (cG (ckX X A) y)
structure ZS (X:Cx) (A:Nat->Addr) (e:Stmt) (s:XS):Prop where of:PS X e (cS (ckX X A) s)
structure ZSs (X:Cx) (A:Nat->Addr) (e:List Stmt) (s:XS):Prop where of:PSs X e (cS (ckX X A) s)
structure ZF (X:Cx) (A:Nat->Addr) (e:Stmt) (s:XS):Prop where of:PS X e (cF (ckX X A) s)
structure ZFs (X:Cx) (A:Nat->Addr) (e:List Stmt) (s:XS):Prop where of:PSs X e (cF (ckX X A) s)
section
variable {X:Cx}{A:Nat->Addr}{e:Expr}{es:List Expr}
theorem wE {t:TE}{x:XE}(p:PE X e t) (s:yby (ckX X A) t x):ZE X A e x:=⟨fun pins st σ H Q I ⟨W0,W,ρ,y,h',eh,g,ex,q⟩=>by subst eh;exact p pins st σ _ Q I (s W0 W ρ σ Q y h' g ex q)⟩
theorem wO {t:TE}{x:XO}(p:PE X e t) (s:ykT (ckX X A) t x):ZO X A e x:=⟨fun pins st σ H Q I ⟨W0,W,ρ,y,h',eh,g,ex,q⟩=>by subst eh;exact p pins st σ _ Q I (s W0 W ρ σ Q y h' g ex q)⟩
theorem wT {t:TT}{x:XT}(p:PT X e t) (s:ykR (ckX X A) t x):ZT X A e x:=⟨fun pins st σ H Q I ⟨W0,W,ρ,y,h',eh,g,ex,q⟩=>by subst eh;exact p pins st σ _ Q I (s W0 W ρ σ Q y h' g ex q)⟩
theorem wW {t:TT}{x:XT}(p:PW X e t) (s:ykR (ckX X A) t x):ZW X A e x:=⟨fun wh pins st σ H Q I ⟨W0,W,ρ,y,h',eh,g,ex,q⟩=>by subst eh;exact p wh pins st σ _ Q I (s W0 W ρ σ Q y h' g ex q)⟩
theorem wA {t:TA}{x:XA}{n:Nat}(p:PA X es t) (s:ykS (ckX X A) t x) (l:∀ ρ h xs h',x ρ h=some (xs,h')->xs.length=n):ZA X A es n x:=⟨fun pos pins st σ H Q I ⟨W0,W,ρ,y,h',eh,g,ex,q⟩=>by subst eh;exact p pos pins st σ _ Q I (s W0 W ρ σ Q y h' g ex q),l⟩
theorem wP {o:Option Expr}{t:TO}{x} (p:PO X o t) (s:yxt (ckX X A) t x):ZP X A o x:=⟨fun pins st σ H Q I ⟨W0,W,ρ,y,h',eh,g,ex,q⟩=>by subst eh;exact p pins st σ _ Q I (s W0 W ρ σ Q y h' g ex q)⟩
theorem wI {tg:Expr}{t:TI}{x:XA}(p:PI X tg e t) (s:yvJ (ckX X A) t x):ZI X A tg e x:=⟨fun pins st σ H Q I ⟨W0,W,ρ,y,h',eh,g,ex,q⟩=>by subst eh;exact p pins st σ _ Q I (s W0 W ρ σ Q y h' g ex q)⟩
theorem wG {t:TG}{y:XG}(p:PG X e t) (s:ytZ (ckX X A) t y):ZG X A e y:=⟨fun pins st σ H v u Q I rv ⟨W0,W,ρ,ρ',x,eh,g,r,ex,q⟩=>by subst eh;exact p pins st σ _ v u Q I rv (s W0 W ρ ρ' σ x v Q g r ex q)⟩
theorem wS {st:Stmt}{t:TS}{x:XS}(p:PS X st t) (s:yeS (ckX X A) t x):ZS X A st x:=⟨fun pins st σ H D I ⟨W0,W,ρ,o,h',eh,g,ex,q⟩=>by subst eh;exact p pins st σ _ D I (s W0 W ρ σ D o h' g ex q)⟩
theorem wSs {st:List Stmt}{t:TS}{x:XS}(p:PSs X st t) (s:yeS (ckX X A) t x):ZSs X A st x:=⟨fun pins st σ H D I ⟨W0,W,ρ,o,h',eh,g,ex,q⟩=>by subst eh;exact p pins st σ _ D I (s W0 W ρ σ D o h' g ex q)⟩
theorem wF {st:Stmt}{t:TS}{x:XS}(p:PS X st t) (s:yrl (ckX X A) t x):ZF X A st x:=⟨fun pins st σ H D I ⟨W0,W,ρ,ρ',h',eh,g,ex,q⟩=>by subst eh;exact p pins st σ _ D I (s W0 W ρ ρ' σ D h' g ex q)⟩
theorem wFs {st:List Stmt}{t:TS}{x:XS}(p:PSs X st t) (s:yrl (ckX X A) t x):ZFs X A st x:=⟨fun pins st σ H D I ⟨W0,W,ρ,ρ',h',eh,g,ex,q⟩=>by subst eh;exact p pins st σ _ D I (s W0 W ρ ρ' σ D h' g ex q)⟩
end
structure Nm (x:Str):Prop where
 d:(x == ("__debug__":Str))=false
 c:(x == ("__classdict__":Str))=false
 n:x≠"__name__"
section
variable {X:Cx}{A:Nat->Addr}{a b c o:Expr}{es:List Expr}{xa xb xc:XE}{xo:XO}{aa:XA}{pos p apos:Pos}{x:Str}{n k:Nat}
theorem ygo {j}:ZE X A (.Constant .none j pos) (xC .non):=wE yxO yvv
theorem yom {b j}:ZE X A (.Constant (.bool b) j pos) (xC (.bl b)):=wE yBx yyy
theorem yh {i j}:ZE X A (.Constant (.int i) j pos) (xC (.int i)):=wE yxN ypj
theorem yn {x j}:ZE X A (.Constant (.str x) j pos) (xC (.str x)):=wE ytH ypk
theorem z_v {i:Nat}(m:Nm x:=by exact ⟨by rfl',by rfl',by rfl'⟩) (hN:X.N[i]?=some x:=by rfl) (hv:Vis X.env.scope x:=by first|exact Or.inl rfl|exact Or.inr (Or.inl rfl)):ZE X A (.Name x pos) (yf i):=wE (yhR hN hv m.d m.c) (yvu i)
theorem ygX {n:Int}{t:Tok}(hm:X.mg x=some (.int n t)) (m:Nm x:=by exact ⟨by rfl',by rfl',by rfl'⟩) (hg:Gl X x:=by rfl):ZE X A (.Name x pos) (xC (.int n)):=wE (yvo hg hm m.d) ypj
theorem ymQ {n:Str}{t:Tok}(hm:X.mg x=some (.str n t)) (m:Nm x:=by exact ⟨by rfl',by rfl',by rfl'⟩) (hg:Gl X x:=by rfl):ZE X A (.Name x pos) (xC (.str n)):=wE (yvp hg hm m.d) ypk
theorem yfA {k:Nat}(hm:X.mg x=some (.ref (A k))) (m:Nm x:=by exact ⟨by rfl',by rfl',by rfl'⟩) (hg:Gl X x:=by rfl):ZE X A (.Name x pos) (xC (.cls k)):=wE (ype hg hm m.d) (yvw (K:=ckX X A))
theorem ynR {n:String}(hm:X.mg x=none) (m:Nm x:=by exact ⟨by rfl',by rfl',by rfl'⟩) (hg:Gl X x:=by rfl) (hv:bootBuiltins x=some (.type n):=by rfl'):ZE X A (.Name x pos) (xC (.ty n)):=wE (yys hg hm hv m.n m.d) yyz
theorem ycX (h:ZO X A a xo):ZE X A a (xFz xo):=wE h.of (ytX sO)
theorem yet (h:ZO X A a xo):ZE X A a (ygK xo):=wE h.of (ypm sO)
theorem yco {op:Operator}{r:R2}{q:P2}(ho:OpR X (binaryOp op) r) (hq:ybR (ckX X A) r q) (ha:ZE X A a xa) (hb:ZE X A b xb):ZE X A (.BinOp a op b pos) (xOp q xa xb):=wE (yye ho ha.of hb.of) (ymw hq sE sE)
theorem yqa {op:Operator}{r:R2}{q:P2O}(ho:OpR X (binaryOp op) r) (hq:yjZ (ckX X A) r q) (ha:ZE X A a xa) (hb:ZE X A b xb):ZO X A (.BinOp a op b pos) (ytV q xa xb):=wO (yye ho ha.of hb.of) (yvx hq sE sE)
theorem yEk {op:UnaryOp}{r} {q} (ho:UnR X (unaryOp op) r) (hq:yvt (ckX X A) r q) (ha:ZE X A a xa):ZE X A (.UnaryOp op a pos) (xUn q xa):=wE (yBD ho ha.of) (yyA hq sE)
theorem ysP (ha:ZE X A a xa):ZE X A (.UnaryOp .Not a pos) (ylx xa):=wE (yxY ha.of) (yrQ sE)
theorem yfd {op:CmpOp}{r:R2}{q:P2}(ho:OpR X (compareOp op) r) (hq:ybR (ckX X A) r q) (ha:ZE X A a xa) (hb:ZE X A b xb) (hm:behindInMarks op b=false:=by first|exact yjx _|with_unfolding_all rfl):ZE X A (.Compare a [op] [b] pos) (xOp q xa xb):=wE (yuZ ho ha.of hb.of hm) (ymw hq sE sE)
theorem ywq {op op':CmpOp}{r r':R2}{q q':P2}(ho:OpR X (compareOp op) r) (ho':OpR X (compareOp op') r') (hq:ybR (ckX X A) r q) (hq':ybR (ckX X A) r' q') (ha:ZE X A a xa) (hb:ZE X A b xb) (hc:ZE X A c xc) (hm:lastMarks [op,op'] [b,c]=false:=by first|exact yjx _|with_unfolding_all rfl):ZE X A (.Compare a [op,op'] [b,c] pos) (yer q q' xa xb xc):=wE (yrx ho ho' ha.of hb.of hc.of hm) (yka hq hq' sE sE sE)
theorem ylM {op} (h:ZE X A a xa):ZE X A (.BoolOp op [a] pos) xa:=⟨yxW h.of⟩
theorem yiR (ha:ZE X A a xa) (hb:ZE X A (.BoolOp .And (b::es) pos) xb):ZE X A (.BoolOp .And (a::b::es) pos) (ygm xa xb):=wE (yxX ha.of hb.of) (yrP sE sE)
section
variable {ca cb:XT}
theorem ywr (hc:ZT X A c ca) (ha:ZE X A a xa) (hb:ZE X A b xb):ZE X A (.IfExp c a b pos) (xIf ca xa xb):=wE (yrs hc.of ha.of hb.of) (yyD sT sE sE)
theorem yq {op:CmpOp}{r:R2}{q:P2}(ho:OpR X (compareOp op) r) (hq:ybR (ckX X A) r q) (ha:ZE X A a xa) (hb:ZE X A b xb) (hm:behindInMarks op b=false:=by first|exact yjx _|with_unfolding_all rfl):ZT X A (.Compare a [op] [b] pos) (ym (xOp q xa xb)):=wT (yvb ho ha.of hb.of hm) (ygB (ymw hq sE sE))
theorem yeH {op op':CmpOp}{r r':R2}{q q':P2}(ho:OpR X (compareOp op) r) (ho':OpR X (compareOp op') r') (hq:ybR (ckX X A) r q) (hq':ybR (ckX X A) r' q') (ha:ZE X A a xa) (hb:ZE X A b xb) (hc:ZE X A c xc) (hm:lastMarks [op,op'] [b,c]=false:=by first|exact yjx _|with_unfolding_all rfl):ZT X A (.Compare a [op,op'] [b,c] pos) (ym (yer q q' xa xb xc)):=wT (yry ho ho' ha.of hb.of hc.of hm) (ygB (yka hq hq' sE sE sE))
theorem ycF (ha:ZT X A a ca):ZT X A (.UnaryOp .Not a pos) (yhF ca):=wT (yxT ha.of) (yvz sT)
theorem ybp (h:ZE X A a xa) (he:∀ whole,isTrue a X.env whole=(do let v <- whole;standAt a.pos;holding [v] (truthy v)):=by exact fun _=>rfl):ZT X A a (ym xa):=wT (yxQ h.of he) (yyB sE)
theorem yhC (h:ZW X A a ca):ZT X A a ca:=⟨PW.pt h.of⟩
theorem yeT (ha:ZT X A a ca) (hb:ZW X A (.BoolOp .And (b::es) pos) cb):ZW X A (.BoolOp .And (a::b::es) pos) (ynz ca cb):=wW (yxS ha.of hb.of) (yvy sT sT)
theorem yeO (ha:ZT X A a ca) (hb:ZW X A (.BoolOp .Or (b::es) pos) cb):ZW X A (.BoolOp .Or (a::b::es) pos) (xOr ca cb):=wW (yBz ha.of hb.of) (yyC sT sT)
theorem yeu (ha:ZT X A a ca):ZW X A (.BoolOp .And [a] pos) ca:=⟨yuX ha.of⟩
theorem ydt (ha:ZT X A a ca):ZW X A (.BoolOp .Or [a] pos) ca:=⟨yxR ha.of⟩
end
theorem ye:ZA X A [] 0 yi:=wA yge yly ylB
theorem ya (ha:ZE X A a xa) (hr:ZA X A es n aa) (hs:starEach (a::es) X.env=(false,eval a X.env)::starEach es X.env:=by rfl):ZA X A (a::es) (n+1) (yb xa aa):=wA (ydR ha.of hr.of hs) (yrR sE sA) (yrU hr.len)
theorem ycP (h:ZA X A es n aa):ZO X A (.List es pos) (yfs aa):=wO (yyg h.of) (yvB sA)
theorem ycQ {q} (h:ZA X A es n aa):ZE X A (.Tuple es q pos) (yfr aa):=wE (yyf h.of) (yvA sA)
theorem yCZ:ZP X A none yiC:=wP yvh ynC
theorem yws (h:ZE X A a xa):ZP X A (some a) (yrO xa):=wP (yvi h.of) (yrV sE)
section
variable {lo hi:Option Expr}{xl xh:PSt->AH->Option (Option Int×AH)}{p2:Pos}
theorem yDa {r} {q} (hr:SlR X r) (hq:ypn (ckX X A) r q) (ha:ZE X A a xa) (hl:ZP X A lo xl) (hh:ZP X A hi xh):ZO X A (.Subscript a (.Slice lo hi none p2) pos) (yBi q xa xl xh):=wO (yrE hr ha.of hl.of hh.of) (yvD hq sE sP sP)
end
theorem ybD {r:R2}{q:P2}(hr:IxR X r) (hq:ybR (ckX X A) r q) (ha:ZE X A a xa) (hb:ZE X A b xb) (hs:yoV b:=by exact fun _ _=>rfl):ZE X A (.Subscript a b pos) (xOp q xa xb):=wE (yBH hr ha.of hb.of hs) (ymw hq sE sE)
theorem yC {cs:List Nat}{f:Str}(hc:∀ k∈cs,Cls X.K (A k)/\NoAttr X.K (A k) f) (ha:ZE X A a xa) (hb:attributeBase a f X.env (eval a X.env)=eval a X.env:=by rfl):ZE X A (.Attribute a f pos) (ybi cs f xa):=wE (ytO ha.of hb) (yvQ (K:=ckX X A) hc sE)
section
variable {f C:Addr}{fd:FuncData}{ps:List Str}{lv:Nat}{fn:Fn}
theorem yR (F:FnOk X.prog X.w X.K X.mg X.base CX0 lv f fd ps (spE (ckX X A) (n+1) fn)) (hm:X.mg x=some (.ref f)) (hk:keepIn X.K (.ref f)=true) (hb:Binds X.K fd ps []) (ha:ZA X A (a::es) (n+1) aa) (hr:Room lv X.A:=by exact hr.mono (by omega)) (m:Nm x:=by exact ⟨by rfl',by rfl',by rfl'⟩) (hg:Gl X x:=by rfl) (he:starEach (a::es) X.env=(false,eval a X.env)::starEach es X.env:=by rfl) (hpl:(backTo pos (starEach es X.env)).any (·.1)=false:=by rfl):ZE X A (.Call (.Name x p) (a::es) [] pos) (yba fn aa) :=
 wE (yvg F hr hg hm hk hb .nil yiv ha.of m.d he hpl) (yrT sA ha.len)
theorem ykq {k:Nat}{fi} (M:Mk X.K (A k) f) (F:FnOk X.prog X.w X.K X.mg X.base CX0 lv f fd ps (spI (ckX X A) (n+1) k fi)) (hm:X.mg x=some (.ref (A k))) (hb:Binds X.K fd ps []) (ha:ZA X A (a::es) (n+1) aa) (hr:Room (lv+1) X.A:=by exact hr.mono (by omega)) (m:Nm x:=by exact ⟨by rfl',by rfl',by rfl'⟩) (hg:Gl X x:=by rfl) (he:starEach (a::es) X.env=(false,eval a X.env)::starEach es X.env:=by rfl) (hpl:(backTo pos (starEach es X.env)).any (·.1)=false:=by rfl):ZO X A (.Call (.Name x p) (a::es) [] pos) (yhH fi aa) :=
 wO (yoR M F hr hg hm hb .nil yiv ha.of m.d he hpl) (ymy (K:=ckX X A) (k:=k) sA ha.len)
theorem ywt {k:Nat}(hm:makesIn X.K (A k)=true) (hi:findIn X.K (.ref (A k)) "__init__" = some (some (.builtin "object.__init__"))) (hk:keepIn X.K (.ref (A k))=true) (hmg:X.mg x=some (.ref (A k))) (m:Nm x:=by exact ⟨by rfl',by rfl',by rfl'⟩) (hg:Gl X x:=by rfl):ZO X A (.Call (.Name x p) [] [] pos) (ymz k) :=
 wO (yrI hm hi hk hg hmg m.d) (ypA (K:=ckX X A))
theorem ywu {m:Str}{fm:Nat->Fn}{pl:Sem Bool}(he:ZE X A o xa) (G:ylm X.prog X.w X.K X.mg X.base lv A m (fun k=>spE (ckX X A) 1 (fm k))) (hr:Room lv X.A:=by exact hr.mono (by omega)) (ht:eval (.Call (.Attribute o m apos) [] [] pos) X.env=(do
   let ov <- eval o X.env
   standAt apos.atName
   let (f,first) <- holding [ov] (getMethod ov m pl)
   callWith pos f first (backTo pos (starEach [] X.env)) (backToKw pos (keywordEach [] X.env))):=by rfl):ZE X A (.Call (.Attribute o m apos) [] [] pos) (ypB m fm xa) :=
 wE (ypd he.of G hr ht) (ysn (K:=ckX X A) sE)
end
theorem ydu {id:String}{r} {q} (hc:yek X (.builtin id) r) (hq:yfR (ckX X A) r q) (hm:X.mg x=none) (ha:ZA X A (a::es) n aa) (m:Nm x:=by exact ⟨by rfl',by rfl',by rfl'⟩) (hg:Gl X x:=by rfl) (hv:bootBuiltins x=some (.builtin id):=by rfl') (he:starEach (a::es) X.env=(false,eval a X.env)::starEach es X.env:=by rfl) (hpl:(backTo pos (starEach es X.env)).any (·.1)=false:=by rfl):ZE X A (.Call (.Name x p) (a::es) [] pos) (xCB q aa) :=
 wE (yit hc hg hm hv ha.of m.n m.d he hpl) (ytY hq sA)
theorem ysQ {T:String}{r} {q} (hc:yek X (.type T) r) (hq:yfR (ckX X A) r q) (hm:X.mg x=none) (ha:ZA X A (a::es) n aa) (m:Nm x:=by exact ⟨by rfl',by rfl',by rfl'⟩) (hg:Gl X x:=by rfl) (hv:bootBuiltins x=some (.type T):=by rfl') (he:starEach (a::es) X.env=(false,eval a X.env)::starEach es X.env:=by rfl) (hpl:(backTo pos (starEach es X.env)).any (·.1)=false:=by rfl):ZE X A (.Call (.Name x p) (a::es) [] pos) (xCB q aa) :=
 wE (ygH hc hg hm hv ha.of m.n m.d he hpl) (ytY hq sA)
theorem ydv {T:String}{r} {q} (hc:yek X (.type T) r) (hq:yph (ckX X A) r q) (hm:X.mg x=none) (ha:ZA X A (a::es) n aa) (m:Nm x:=by exact ⟨by rfl',by rfl',by rfl'⟩) (hg:Gl X x:=by rfl) (hv:bootBuiltins x=some (.type T):=by rfl') (he:starEach (a::es) X.env=(false,eval a X.env)::starEach es X.env:=by rfl) (hpl:(backTo pos (starEach es X.env)).any (·.1)=false:=by rfl):ZO X A (.Call (.Name x p) (a::es) [] pos) (yjY q aa) :=
 wO (ygH hc hg hm hv ha.of m.n m.d he hpl) (yvC hq sA)
section
variable {name:Str}{cpos:Pos}{T id:String}{r:V->List V->Hp->VK->Prop}{cc:PV->AH->Bool}{q:PM}
theorem yDb (pa:PlainAttrs T) (slot:Slot T name id) (hty:typeOf (.builtin id)=pure (.type "method_descriptor")) (hm:MtR X id r) (hq:ypi (ckX X A) T cc r q) (ho:ZE X A o xa) (ha:ZA X A (a::es) n aa) (hbase:attributeBase o name X.env (eval o X.env)=eval o X.env:=by rfl) (hfew:((backTo cpos (starEach (a::es) X.env)).all (fun x=>!x.1) && (backToKw cpos (keywordEach [] X.env)).all (fun x=>x.1.isSome)
   && decide ((a::es).length+([]:List Keyword).length+(if ([]:List Keyword).isEmpty then 0 else 1)<30))=true:=by rfl) (hline:(apos.endLine == cpos.line)=true:=by rfl) (hs:starEach (a::es) X.env=(false,eval a X.env)::starEach es X.env:=by rfl) (hplain:(backTo cpos (starEach es X.env)).any (·.1)=false:=by rfl) :
  ZE X A (.Call (.Attribute o name apos) (a::es) [] cpos) (xBM cc q xa aa):=wE (yvk pa slot hty hm ho.of ha.of hbase hfew hline hs hplain) (yyE (K:=ckX X A) hq sE sA)
theorem yut {i:Nat}(ha:ZE X A a xa) (ho:PE X o (yol i):=by exact yhR rfl (by first|exact Or.inl rfl|exact Or.inr (Or.inl rfl)) (by rfl') (by rfl')) (hbase:attributeBase o "append" X.env (eval o X.env)=eval o X.env:=by rfl) (hfew:((backTo cpos (starEach [a] X.env)).all (fun x=>!x.1) && (backToKw cpos (keywordEach [] X.env)).all (fun x=>x.1.isSome)
   && decide ([a].length+([]:List Keyword).length+(if ([]:List Keyword).isEmpty then 0 else 1)<30))=true:=by rfl) (hline:(apos.endLine == cpos.line)=true:=by rfl) (hs:starEach [a] X.env=(false,eval a X.env)::starEach [] X.env:=by rfl) (hplain:(backTo cpos (starEach [] X.env)).any (·.1)=false:=by rfl) (hsw:swapsWith (.Call (.Attribute o "append" apos) [a] [] cpos) none pos.line X.env=pure false:=by rfl) :
  ZS X A (.Expr (.Call (.Attribute o "append" apos) [a] [] cpos) pos) (ylD i xa) :=
 wS (yiq (yvk plainAttrs_list PySem.F.slot_list_append PySem.F.type_list_append yfp ho (ydR ha.of yge hs) hbase hfew hline hs hplain) hsw) (ysa (K:=ckX X A) i sE)
end
section
variable {tg:Expr}
theorem ydm (h:ZE X A a xa):ZI X A tg a (xIL xa):=wI (yla h.of) (ypr (K:=ckX X A) sE)
theorem yzG (h:ZE X A a xa):ZI X A tg a (xIS xa):=wI (yyr h.of) (ysb sE)
theorem yiS (hm:X.mg "range" = none) (ha:ZA X A [a] n aa) (hg:Gl X "range":=by rfl) (hs:starEach [a] X.env=[(false,eval a X.env)]:=by rfl):ZI X A tg (.Call (.Name "range" p) [a] [] pos) (ynF aa):=wI (yoC hg hm ha.of hs) (yps sA)
end
theorem yev {i:Nat}(hN:X.N.Nodup:=by exact nd) (hi:X.N[i]?=some x:=by rfl) (hx:Loc X.env.scope x:=by first|exact Or.inl rfl|exact Or.inr rfl) (hf:X.fn x=true\/X.env.scope.names.lookup x=some .local:=by exact Or.inl rfl):ZG X A (.Name x pos) (yy i):=wG (yir hN hi hx hf) (yft i)
theorem ygg {elt iter:Expr}{px:Pos}{scope:Scope}{cpos:Pos}{it:XA}{xe:XE}{ix:List Nat}(fr:List Str) (hi:ZI X A (.Name x px) iter it) (he:∀ (cl:List (Str×Addr)) (C:Addr) (s₃:Shared) (H₃:Hp) (fp:List Addr) (pins:List (Addr×Obj)),ZE (cxC X scope cl C (x::fr) s₃ H₃ fp pins) A elt xe) (hc:X.calm=true:=by rfl) (hfr:FrOk X scope ix fr:=by repeat' first|exact True.intro|exact rfl|refine And.intro ?_ ?_) (hnd:(x::fr).Nodup:=by rfl') (hkind:scope.kind=.function:=by rfl) (hcell:∀ y∈scope.names,y.2≠.cell:=by rfl') (hnames:∀ y∈scope.names,y.2=.local->scope.names.lookup y.1=some .local:=by rfl') (hfree0:∀ y∈scope.names,y.2=.free->y.1∈fr:=by rfl') (hx:scope.names.lookup x=some .local:=by rfl) (hs:∀ v,foldedSetIterable iter X.env v=pure v:=by exact fun _=>rfl):ZO X A (.ListComp elt [⟨.Name x px,iter,[],0⟩] scope cpos) (yel it ix xe) :=
 wO (ywp (yiQ ix fr hc hi.of hfr (te:=cE (ckX X A) xe) (fun cl C s₃ H₃ fp pins=>(he cl C s₃ H₃ fp pins).of) (fun _ _ _ _ _ _=>.nil) hnd hkind hcell hnames hfree0 hx hs)) (yiF (K:=ckX X A) ix sI sE)
section
variable {st:Stmt}{rest:List Stmt}{s u:XS}
theorem yj (h:ZE X A a xa):ZS X A (.Return (some a) pos) (yN xa):=wS (ytI h.of) (yvF sE)
theorem ybz (h:ZE X A a xa) (hs:swapsWith a none pos.line X.env=pure false:=by rfl):ZS X A (.Expr a pos) (ycV xa):=wS (yiq h.of hs) (yrY sE)
theorem yz {i:Nat}{pos':Pos}(h:ZE X A a xa) (hN:X.N.Nodup:=by exact nd) (hi:X.N[i]?=some x:=by rfl) (hx:Loc X.env.scope x:=by first|exact Or.inl rfl|exact Or.inr rfl) (hs:swapsWith a (some (.Name x pos')) pos.line X.env=pure false:=by rfl) (hf:X.fn x=true\/X.env.scope.names.lookup x=some .local:=by exact Or.inl rfl):ZS X A (.Assign [.Name x pos'] a pos) (yca xa (yy i)) :=
 wS (yoy hN hi hx h.of hs hf) (ylE sE (yft i))
theorem ylN {i:Nat}{pos':Pos}(h:ZO X A a xo) (hN:X.N.Nodup:=by exact nd) (hi:X.N[i]?=some x:=by rfl) (hx:Loc X.env.scope x:=by first|exact Or.inl rfl|exact Or.inr rfl) (hs:swapsWith a (some (.Name x pos')) pos.line X.env=pure false:=by rfl) (hf:X.fn x=true\/X.env.scope.names.lookup x=some .local:=by exact Or.inl rfl):ZS X A (.Assign [.Name x pos'] a pos) (ynD xo i) :=
 wS (yoy hN hi hx h.of hs hf) (yrZ i sO)
theorem ycR {cs:List Nat}{f:Str}{pos':Pos}{i:Nat}(hc:∀ k∈cs,Cls X.K (A k)/\NoAttr X.K (A k) f) (h:ZE X A a xa) (ho:PE X o (yol i):=by exact yhR rfl (by first|exact Or.inl rfl|exact Or.inr (Or.inl rfl)) (by rfl') (by rfl')) (hs:swapsWith a (some (.Attribute o f pos')) pos.line X.env=pure false:=by rfl):ZF X A (.Assign [.Attribute o f pos'] a pos) (ydV cs i f xa):=wF (ytP ho h.of hs) (ysk (K:=ckX X A) hc sE)
theorem yD {ca:XT}{l m:List Stmt}(hc:ZT X A c ca) (ha:ZSs X A l s) (hb:ZSs X A m u):ZS X A (.If c l m pos) (ybx ca s u):=wS (yya hc.of ha.of hb.of) (yvG sT sS sS)
theorem yie {tg iter:Expr}{it:XA}{y:XG}(hi:ZI X A tg iter it) (hg:ZG X A tg y) (hb:ZSs X A rest s) (hp:PassesOwn (model X.prog X.w) X.A X.env X.xe:=by exact PassesOwn.never) (hc:X.calm=true:=by rfl) (hs:∀ x,foldedSetIterable iter X.env x=pure x:=by exact fun _=>rfl):ZS X A (.For tg iter rest [] pos) (ynE it y s):=wS (yoE hp hc hi.of hg.of hb.of hs) (yvK sI sG sS)
theorem ymR {ca:XT}{fu:Nat}(hc:ZT X A c ca) (hb:ZSs X A rest s) (hp:PassesOwn (model X.prog X.w) X.A X.env X.xe:=by exact PassesOwn.never):ZS X A (.While c rest [] pos) (yhW fu ca s):=wS (yru hp hc.of hb.of) (ypt fu sT sS)
theorem yl:ZSs X A [] yG:=wSs yot yrX
theorem yd (h:ZS X A st s):ZSs X A [st] s:=⟨you h.of⟩
theorem yc (h:ZS X A st s) (hr:ZSs X A rest u):ZSs X A (st::rest) (yo s u):=wSs (ygA h.of hr.of) (yvE sS sS)
theorem ylO {i:Nat}(h:ZSs X A rest s):ZSs X A rest (yxu i s):=wSs h.of (yvH i sS)
theorem yfe (h:ZF X A st s):ZFs X A [st] s:=⟨you h.of⟩
theorem ycp (h:ZF X A st s) (hr:ZFs X A rest u):ZFs X A (st::rest) (yo s u):=wFs (ygA h.of hr.of) (ysl sF sF)
end
end
section
variable {P:Program}{w:World}{K:PySem.W.Frag}{mg:Str->Option Value}{base:Heap}{A:Nat->Addr}
theorem zfn {x qual:Str}{st:Stmt}{f:Addr}{fd:FuncData}{N ps:List Str}{k:Nat}{s:XS}(F:Fun K x qual st f fd) (S:ydC N ps (yT st))
  (h:∀ (cdv:Value) (Ar:Around) (outer:List Env) (sh:Shared) (H:Hp) (E:XK),Room k (Ar.deeper (envOfC qual (yT st) sh.heap.objs.size f cdv))->ZSs (ylc CX0 P w K mg base N qual (yT st) f cdv Ar outer sh H E).nox A (yeq st) s) :
  FnOk P w K mg base CX0 (k+1) f fd ps (spE ⟨K,A⟩ ps.length (ybw N.length s)) :=
 F.ok S (fun _ _ _ _ h=>yvL h) fun cdv Ar outer sh H vs Q E hr hq=>⟨_,(h cdv Ar outer sh H E hr).of,ysc (K:=⟨K,A⟩) sS hq⟩
theorem zin {x qual:Str}{st:Stmt}{f:Addr}{fd:FuncData}{N ps:List Str}{k kc n:Nat}{s:XS}(F:Fun K x qual st f fd) (S:ydC N ps (yT st)) (hn:ps.length=n+1) (hN:n+1<=N.length)
  (h:∀ (cdv:Value) (Ar:Around) (outer:List Env) (sh:Shared) (H:Hp) (E:XK),Room k (Ar.deeper (envOfC qual (yT st) sh.heap.objs.size f cdv))->ZFs (ylc CX0 P w K mg base N qual (yT st) f cdv Ar outer sh H E).nox A (yeq st) s) :
  FnOk P w K mg base CX0 (k+1) f fd ps (spI ⟨K,A⟩ n kc (ypz N.length kc s)) :=
 F.ok S (fun _ _ _ _ h=>(yvR h).trans hn.symm) fun cdv Ar outer sh H vs Q E hr hq=>⟨_,(h cdv Ar outer sh H E hr).of,ysm (K:=⟨K,A⟩) hN sF hq⟩
end
end PX
namespace PX
open PySem L2 PySem.Spec PyProof.Rows
section
variable {X:Cx}{A:Nat->Addr}{a b c o i:Expr}{es:List Expr}{xa xb xc xd xk xv:XE}{xo:XO}{aa:XA}{pos p apos cpos pos':Pos}{x:Str}{n k:Nat}
theorem ybk (ho:ZE X A o xd) (hi:ZE X A i xk) (hu:X.A.units+1<cLine:=by exact yvl hr) (hs:yCP i:=by exact fun _ _=>rfl):ZE X A (.Subscript o i pos) (ybn xd xk):=wE (yvY hu ho.of hi.of hs) (ysx sE sE)
theorem yzH (hi:ZE X A i xk) (ho:ZE X A o xd) (hu:X.A.units+1<cLine:=by exact yvl hr) (hm:behindInMarks .In o=false:=by first|exact yjx _|with_unfolding_all rfl):ZT X A (.Compare i [.In] [o] pos) (ym (yxx false xk xd)):=wT (yxP (yzs hu hi.of ho.of) hm) (ygB (ywc sE sE))
theorem yff (ho:ZE X A o xd) (hi:ZE X A i xk) (hv:ZE X A a xv) (hu:X.A.units+1<cLine:=by exact yvl hr) (hs:swapsWith a (some (.Subscript o i pos')) pos.line X.env=pure false:=by rfl):ZS X A (.Assign [.Subscript o i pos'] a pos) (yfx xd xk xv):=wS (yvZ hu ho.of hi.of hv.of hs) (ysy sE sE sE)
theorem yqb:ZO X A (.Dict [] [] pos) ypK:=wO ysr ysz
theorem ygY (h:ZE X A a xv) (ho:ZE X A o xd) (hi:ZE X A i xk) (ha:∀ v,assign (.Subscript o i pos') X.env v=(do
   let ov <- holding [v] (eval o X.env)
   let iv <- holding [v,ov] (eval i X.env)
   standAt pos'
   holding [v,ov,iv] (setItem ov iv v)
   release [v,ov,iv] []):=by exact fun _=>rfl) (hs:swapsWithSole [.Subscript o i pos'] a pos.line X.env=pure false:=by rfl) (hw:swappedStores [.Subscript o i pos'] a X.env=pure none:=by rfl) (h1:(assignEach [.Subscript o i pos'] X.env).map (·.2)=[assign (.Subscript o i pos') X.env]:=by rfl) :
  ZS X A (.Assign [.Subscript o i pos'] a pos) (yfc xd xk xv):=wS (yyc h.of (yyb ho.of hi.of set_list ha) hs hw h1) (ysu sE sE sE)
end
end PX
namespace PX
open PySem L2 PySem.Spec PyProof.Rows
theorem ylP:bootBuiltins "reversed" = some (.type "reversed"):=by rfl'
section
variable {X:Cx}{A:Nat->Addr}{a b c o:Expr}{es:List Expr}{xa xb xc:XE}{pos p apos cpos:Pos}{x:Str}{n k:Nat}
theorem yzI {i:Nat}(ha:ZE X A a xa) (ho:PE X o (yol i):=by exact yhR rfl (by first|exact Or.inl rfl|exact Or.inr (Or.inl rfl)) (by rfl') (by rfl')) (hbase:attributeBase o "extend" X.env (eval o X.env)=eval o X.env:=by rfl) (hfew:((backTo cpos (starEach [a] X.env)).all (fun x=>!x.1) && (backToKw cpos (keywordEach [] X.env)).all (fun x=>x.1.isSome)
   && decide ([a].length+([]:List Keyword).length+(if ([]:List Keyword).isEmpty then 0 else 1)<30))=true:=by rfl) (hline:(apos.endLine == cpos.line)=true:=by rfl) (hs:starEach [a] X.env=(false,eval a X.env)::starEach [] X.env:=by rfl) (hplain:(backTo cpos (starEach [] X.env)).any (·.1)=false:=by rfl) (hsw:swapsWith (.Call (.Attribute o "extend" apos) [a] [] cpos) none pos.line X.env=pure false:=by rfl) :
  ZS X A (.Expr (.Call (.Attribute o "extend" apos) [a] [] cpos) pos) (ynP i xa) :=
 wS (yiq (yvk plainAttrs_list PySem.F.slot_list_extend PySem.F.type_list_extend yoX ho (ydR ha.of yge hs) hbase hfew hline hs hplain) hsw) (ysB (K:=ckX X A) i sE)
theorem yzJ {i:Nat}(hm:X.mg x=none) (ho:PE X a (yol i):=by exact yhR rfl (by first|exact Or.inl rfl|exact Or.inr (Or.inl rfl)) (by rfl') (by rfl')) (m:Nm x:=by exact ⟨by rfl',by rfl',by rfl'⟩) (hg:Gl X x:=by rfl) (hv:bootBuiltins x=some (.builtin "len"):=by rfl') (he:starEach [a] X.env=(false,eval a X.env)::starEach [] X.env:=by rfl) (hpl:(backTo pos (starEach [] X.env)).any (·.1)=false:=by rfl) :
  ZE X A (.Call (.Name x p) [a] [] pos) (ypM i) :=
 wE (yit yB hg hm hv (ydR ho yge he) m.n m.d he hpl) (ysC (K:=ckX X A) i)
theorem ywv:OpR X (binaryOp .Add) (yzu X.K):=by
 intro pins s σ H x y v u Q I rx ry h
 obtain ⟨l,b,xs,zs,rfl,rfl,hH,hB,hz,q⟩:=h
 cases rx
 cases ry
 obtain ⟨its,r,⟨⟨c1,d1,t1,s1⟩,n1,e1,hc1,hd1,ht1⟩,z1⟩:=I.list hH
 obtain ⟨its2,r2,⟨⟨c2,d2,t2,s2⟩,n2,e2,hc2,hd2,ht2⟩,z2⟩:=I.list hB
 simp only at hc1 hd1 ht1 hc2 hd2 ht2
 subst hc1 hd1 ht1 hc2 hd2 ht2
 have l1:=r.length
 have l2:=r2.length
 have ea:its.toArray++its2.toArray=(its++its2).toArray:=by simp
 refine concat_meets ⟨_,e1,rfl⟩ ⟨_,e2,rfl⟩ noFill_list_add seq_list_add PySem.F.slot_list_add PySem.F.entry_list_add (PySem.F.args_list_add_2 _ _) (list_addW l b its.toArray its2.toArray n1 n2 none none s1 s2 (by rw [size_toArray,size_toArray];omega)) ⟨e1,e2,?_⟩
 rw [ea]
 exact ⟨.ref _,_,I.lnew (t':=s.toks) (r.append r2) (by rw [length_append];omega),rfl,q _ I.fresh⟩
end
section
variable {X:Cx}{A:Nat->Addr}{tg a b c:Expr}{p pos:Pos}{aa:XA}{n:Nat}
end
section
theorem ycY {xs:List V}{its:List Value}(r:Vals xs its) {j:Nat}(hj:j<its.toArray.size):∃ x,xs[j]?=some x/\RelV x its.toArray[j]:=by
 have hl:=r.length
 have j1:j<its.length:=by simpa using hj
 have x1:xs[j]?=some xs[j]:=List.getElem?_eq_getElem (by omega)
 obtain ⟨u1,q1,w1⟩:=r.get x1
 have g1:its.toArray[j]=u1:=by
  have:=List.getElem?_eq_getElem j1
  rw [q1] at this
  simpa using (Option.some.inj this).symm
 exact ⟨_,x1,by rw [g1];exact w1⟩
variable {X:Cx}
theorem ymS {pins:List (Addr×Obj)}{σ:L2.St}{H:Hp}{s:Shared}(I:Inv X pins σ H s) {n:Nat}{x y:V}{b:Bool}(r:EqR X.K H n x y b):∀ {A:Around}{u v:Value},RelV x u->RelV y v->A.units+n<cLine->SeqAt.EqAt A s u v b:=by
 induction r with
 | flat fx fy=>exact fun rx ry _=>eqAt_V rx ry fx fy
 | same =>
  intro A u v rx ry _
  cases rx
  cases ry
  exact SeqAt.EqAt.same _
 | odd h =>
  obtain ⟨a,o,ob,h1,h2⟩:=h
  have:=(I.bs a ob (I.ok.mod.kin a ob h2)).2
  rw [h1] at this
  cases this
 | nt hb =>
  intro A u v rx ry hu
  cases rx
  cases ry
  obtain ⟨i2,r2,p2,z2⟩:=I.tuple hb
  exact SeqAt.EqAt.none_tuple p2 (by omega)
 | tn hb =>
  intro A u v rx ry hu
  cases rx
  cases ry
  obtain ⟨i2,r2,p2,z2⟩:=I.tuple hb
  exact SeqAt.EqAt.tuple_none p2 (by omega)
 | @lst n a b xs ys e ha hb hl hne he ih =>
  intro A u v rx ry hu
  cases rx
  cases ry
  obtain ⟨i1,n1,r1,e1,z1⟩:=I.lst ha
  obtain ⟨i2,n2,r2,e2,z2⟩:=I.lst hb
  have l1:=r1.length
  have l2:=r2.length
  rw [show xs.length=i1.toArray.size by simp only [size_toArray];omega]
  refine SeqAt.EqAt.of_refs hne (SeqAt.RcAt.lists ⟨_,e1,rfl,n1,rfl⟩ ⟨_,e2,rfl,n2,rfl⟩ (by simp only [size_toArray];omega) (by omega) fun j j1 j2=>?_)
  obtain ⟨x1,q1,w1⟩:=ycY r1 j1
  obtain ⟨y1,q2,w2⟩:=ycY r2 j2
  exact ih j x1 y1 q1 q2 w1 w2 (by show A.units+1+n<cLine;omega)
 | @lstN n a b xs ys ha hb hl =>
  intro A u v rx ry hu
  cases rx
  cases ry
  obtain ⟨i1,n1,r1,e1,z1⟩:=I.lst ha
  obtain ⟨i2,n2,r2,e2,z2⟩:=I.lst hb
  have l1:=r1.length
  have l2:=r2.length
  have hne:a≠b:=fun z=>by subst z;rw [ha] at hb;cases hb;exact hl rfl
  exact SeqAt.EqAt.of_refs hne (SeqAt.RcAt.lists_lengths ⟨_,e1,rfl,n1,rfl⟩ ⟨_,e2,rfl,n2,rfl⟩ (by simp only [size_toArray,bne_iff_ne];omega) (by omega))
 | @tup n a b xs ys e ha hb hne he ih =>
  intro A u v rx ry hu
  cases rx
  cases ry
  obtain ⟨i1,r1,p1,z1⟩:=I.tuple ha
  obtain ⟨i2,r2,p2,z2⟩:=I.tuple hb
  have l1:=r1.length
  have l2:=r2.length
  rw [show xs.length=i1.toArray.size by simp only [size_toArray];omega,show ys.length=i2.toArray.size by simp only [size_toArray];omega]
  refine SeqAt.EqAt.of_refs hne (SeqAt.RcAt.tuples p1 p2 (by omega) fun j j1 j2=>?_)
  obtain ⟨x1,q1,w1⟩:=ycY r1 j1
  obtain ⟨y1,q2,w2⟩:=ycY r2 j2
  exact ih j x1 y1 q1 q2 w1 w2 (by show A.units+1+n<cLine;omega)
theorem yuu (hu:X.A.units+60<cLine):OpR X (compareOp .Eq) (yEf X.K):=by
 intro pins s σ H x y v u Q I rx ry h
 obtain ⟨b,hb,q⟩:=h
 cases hb with
 | nt hb =>
  cases rx
  cases ry
  obtain ⟨i2,r2,p2,z2⟩:=I.tuple hb
  exact SeqAt.RcAt.none_tuple p2 (by omega) _ _ _ _ ⟨.bl _,H,I,rfl,q⟩
 | tn hb =>
  cases rx
  cases ry
  obtain ⟨i2,r2,p2,z2⟩:=I.tuple hb
  exact SeqAt.RcAt.tuple_none p2 (by omega) _ _ _ _ ⟨.bl _,H,I,rfl,q⟩
 | @lst a b xs ys e ha hb hl he =>
  cases rx
  cases ry
  obtain ⟨i1,n1,r1,e1,z1⟩:=I.lst ha
  obtain ⟨i2,n2,r2,e2,z2⟩:=I.lst hb
  have l1:=r1.length
  have l2:=r2.length
  rw [show xs.length=i1.toArray.size by simp only [size_toArray];omega] at q
  refine SeqAt.RcAt.lists ⟨_,e1,rfl,n1,rfl⟩ ⟨_,e2,rfl,n2,rfl⟩ (by simp only [size_toArray];omega) (by omega) (fun j j1 j2=>?_) _ _ _ _ ⟨.bl _,H,I,rfl,q⟩
  obtain ⟨x1,q1,w1⟩:=ycY r1 j1
  obtain ⟨y1,q2,w2⟩:=ycY r2 j2
  exact ymS I (he j x1 y1 q1 q2) w1 w2 (by show X.A.units+1+40<cLine;omega)
 | @lstN a b xs ys ha hb hl =>
  cases rx
  cases ry
  obtain ⟨i1,n1,r1,e1,z1⟩:=I.lst ha
  obtain ⟨i2,n2,r2,e2,z2⟩:=I.lst hb
  have l1:=r1.length
  have l2:=r2.length
  exact SeqAt.RcAt.lists_lengths ⟨_,e1,rfl,n1,rfl⟩ ⟨_,e2,rfl,n2,rfl⟩ (by simp only [size_toArray,bne_iff_ne];omega) (by omega) _ _ _ _ ⟨.bl _,H,I,rfl,q⟩
 | @tup a b xs ys e ha hb he =>
  cases rx
  cases ry
  obtain ⟨i1,r1,p1,z1⟩:=I.tuple ha
  obtain ⟨i2,r2,p2,z2⟩:=I.tuple hb
  have l1:=r1.length
  have l2:=r2.length
  rw [show xs.length=i1.toArray.size by simp only [size_toArray];omega,show ys.length=i2.toArray.size by simp only [size_toArray];omega] at q
  refine SeqAt.RcAt.tuples p1 p2 (by omega) (fun j j1 j2=>?_) _ _ _ _ ⟨.bl _,H,I,rfl,q⟩
  obtain ⟨x1,q1,w1⟩:=ycY r1 j1
  obtain ⟨y1,q2,w2⟩:=ycY r2 j2
  exact ymS I (he j x1 y1 q1 q2) w1 w2 (by show X.A.units+1+40<cLine;omega)
theorem yqc (hu:X.A.units+60<cLine):OpR X (compareOp .NotEq) (yEg X.K):=by
 intro pins s σ H x y v u Q I rx ry h
 obtain ⟨b,hb,q⟩:=h
 cases hb with
 | nt hb =>
  cases rx
  cases ry
  obtain ⟨i2,r2,p2,z2⟩:=I.tuple hb
  exact SeqAt.RcNeAt.none_tuple p2 (by omega) _ _ _ _ ⟨.bl _,H,I,rfl,q⟩
 | tn hb =>
  cases rx
  cases ry
  obtain ⟨i2,r2,p2,z2⟩:=I.tuple hb
  exact SeqAt.RcNeAt.tuple_none p2 (by omega) _ _ _ _ ⟨.bl _,H,I,rfl,q⟩
 | @lst a b xs ys e ha hb hl he =>
  cases rx
  cases ry
  obtain ⟨i1,n1,r1,e1,z1⟩:=I.lst ha
  obtain ⟨i2,n2,r2,e2,z2⟩:=I.lst hb
  have l1:=r1.length
  have l2:=r2.length
  rw [show xs.length=i1.toArray.size by simp only [size_toArray];omega] at q
  refine SeqAt.RcNeAt.lists ⟨_,e1,rfl,n1,rfl⟩ ⟨_,e2,rfl,n2,rfl⟩ (by simp only [size_toArray];omega) (by omega) (fun j j1 j2=>?_) _ _ _ _ ⟨.bl _,H,I,rfl,q⟩
  obtain ⟨x1,q1,w1⟩:=ycY r1 j1
  obtain ⟨y1,q2,w2⟩:=ycY r2 j2
  exact ymS I (he j x1 y1 q1 q2) w1 w2 (by show X.A.units+1+40<cLine;omega)
 | @lstN a b xs ys ha hb hl =>
  cases rx
  cases ry
  obtain ⟨i1,n1,r1,e1,z1⟩:=I.lst ha
  obtain ⟨i2,n2,r2,e2,z2⟩:=I.lst hb
  have l1:=r1.length
  have l2:=r2.length
  exact SeqAt.RcNeAt.lists_lengths ⟨_,e1,rfl,n1,rfl⟩ ⟨_,e2,rfl,n2,rfl⟩ (by simp only [size_toArray,bne_iff_ne];omega) (by omega) _ _ _ _ ⟨.bl _,H,I,rfl,q⟩
 | @tup a b xs ys e ha hb he =>
  cases rx
  cases ry
  obtain ⟨i1,r1,p1,z1⟩:=I.tuple ha
  obtain ⟨i2,r2,p2,z2⟩:=I.tuple hb
  have l1:=r1.length
  have l2:=r2.length
  rw [show xs.length=i1.toArray.size by simp only [size_toArray];omega,show ys.length=i2.toArray.size by simp only [size_toArray];omega] at q
  refine SeqAt.RcNeAt.tuples p1 p2 (by omega) (fun j j1 j2=>?_) _ _ _ _ ⟨.bl _,H,I,rfl,q⟩
  obtain ⟨x1,q1,w1⟩:=ycY r1 j1
  obtain ⟨y1,q2,w2⟩:=ycY r2 j2
  exact ymS I (he j x1 y1 q1 q2) w1 w2 (by show X.A.units+1+40<cLine;omega)
theorem ykr {k:Nat}{A:Around}(r:Room k A):A.units+60<cLine:=by have:=r.un;omega
end
end PX
namespace PX
open PySem L2 PySem.Spec PyProof.Rows
section
variable {X:Cx}{A:Nat->Addr}{o e:Expr}{es:List Expr}{xa xb:XE}{aa:XA}{pos apos pos':Pos}{m f:Str}{n k kc:Nat}{pl:Sem Bool}{p:Fn}{fa:Addr}{fd:FuncData}{ps:List Str}
theorem yx {st:Stmt}:ZS X A st ybK:=wS yrt (ysG (K:=ckX X A))
theorem yA (ho:ZE X A o xa) (hm:Meth X.K (A kc) m fa) (F:FnOk X.prog X.w X.K X.mg X.base CX0 k fa fd ps (spE (ckX X A) (n+1) p)) (hb:Binds X.K fd ps []) (ha:ZA X A (e::es) n aa) (c:Cls X.K (A kc):=by exact T.cl _) (hr:Room k X.A:=by exact hr.mono (by omega)) (hst:starEach (e::es) X.env=(false,eval e X.env)::starEach es X.env:=by rfl) (hpl:(backTo pos (starEach es X.env)).any (·.1)=false:=by rfl) (ht:eval (.Call (.Attribute o m apos) (e::es) [] pos) X.env=(do
   let ov <- eval o X.env
   standAt apos.atName
   let (f,first) <- holding [ov] (getMethod ov m pl)
   callWith pos f first (backTo pos (starEach (e::es) X.env)) (backToKw pos (keywordEach [] X.env))):=by rfl) :
  ZE X A (.Call (.Attribute o m apos) (e::es) [] pos) (yk kc m p xa aa):=wE (yoQ ho.of c hm F hr hb .nil yiv ha.of hst hpl ht) (yki (K:=ckX X A) sE sA ha.len)
theorem yt (ho:ZE X A o xa) (hm:Meth X.K (A kc) m fa) (F:FnOk X.prog X.w X.K X.mg X.base CX0 k fa fd ps (spE (ckX X A) 1 p)) (hb:Binds X.K fd ps []) (c:Cls X.K (A kc):=by exact T.cl _) (hr:Room k X.A:=by exact hr.mono (by omega)) (ht:eval (.Call (.Attribute o m apos) [] [] pos) X.env=(do
   let ov <- eval o X.env
   standAt apos.atName
   let (f,first) <- holding [ov] (getMethod ov m pl)
   callWith pos f first (backTo pos (starEach [] X.env)) (backToKw pos (keywordEach [] X.env))):=by rfl) :
  ZE X A (.Call (.Attribute o m apos) [] [] pos) (yk kc m p xa yi):=wE (ymo ho.of c hm F hr hb .nil yiv ht) (yki (K:=ckX X A) (n:=0) sE yly ylB)
theorem ybA {cs:List Nat}{value:Expr}(hc:∀ k∈cs,Cls X.K (A k)/\NoAttr X.K (A k) f) (ho:ZE X A o xa) (hv:ZE X A value xb) (hs:swapsWith value (some (.Attribute o f pos')) pos.line X.env=pure false:=by rfl) :
  ZS X A (.Assign [.Attribute o f pos'] value pos) (ycW cs f xa xb):=wS (ytP ho.of hv.of hs) (ysH (K:=ckX X A) hc sE sE)
end
end PX
namespace KasS
open PySem PySem.W PyProof.Rows
def run {α:Type}(lt:Nat->Nat->Bool):KasT α->α
 | .ret a=>a
 | .ask i j k=>run lt (k (lt i j))
theorem yeI {α β:Type}(lt:Nat->Nat->Bool) (f:α->KasT β):∀ t:KasT α,run lt (t.bind f)=run lt (f (run lt t))
 | .ret _=>rfl
 | .ask i j k=>yeI lt f (k (lt i j))
section
variable (key:Nat->Int)
def ltK (i j:Nat):Bool:=decide (key i<key j)
def Kp (p:Array Nat) (i:Nat):Int:=key (p[i]?.getD 0)
def Up (p:Array Nat) (k:Nat):Prop:=∀ i j,i<=j->j<k->Kp key p i<=Kp key p j
def Dn (p:Array Nat) (k:Nat):Prop:=∀ i j,i<=j->j<k->Kp key p j<=Kp key p i
variable {key}
theorem ygZ (p:Array Nat) (i:Nat):p.getD i 0=p[i]?.getD 0:=by simp [Array.getD_eq_getD_getElem?]
theorem yqd (p:Array Nat) (i j:Nat):ltK key (p.getD i 0) (p.getD j 0)=decide (Kp key p i<Kp key p j):=by rw [ygZ,ygZ];rfl
theorem Up.succ {p:Array Nat}{n:Nat}(h:Up key p n) (h1:1<=n) (hn:Kp key p (n-1)<=Kp key p n):Up key p (n+1):=fun i j hij hj=>by
 by_cases e:j=n
 .subst e
  by_cases e2:i=j
  .subst e2;exact Int.le_refl _
  .exact Int.le_trans (h i (j-1) (by omega) (by omega)) hn
 .exact h i j hij (by omega)
theorem Dn.succ {p:Array Nat}{n:Nat}(h:Dn key p n) (h1:1<=n) (hn:Kp key p n<=Kp key p (n-1)):Dn key p (n+1):=fun i j hij hj=>by
 by_cases e:j=n
 .subst e
  by_cases e2:i=j
  .subst e2;exact Int.le_refl _
  .exact Int.le_trans hn (h i (j-1) (by omega) (by omega))
 .exact h i j hij (by omega)
theorem yqe (p:Array Nat):∀ (f n:Nat),1<=n->Up key p n->n<=run (ltK key) (kas_asc p f n)/\run (ltK key) (kas_asc p f n)<=n+f/\Up key p (run (ltK key) (kas_asc p f n))/\(run (ltK key) (kas_asc p f n)<n+f->Kp key p (run (ltK key) (kas_asc p f n))<Kp key p (run (ltK key) (kas_asc p f n)-1))
 | 0,n,_,h=>⟨Nat.le_refl _,Nat.le_refl _,h,fun z=>by exact absurd z (lt_irrefl _)⟩
 | f+1,n,h1,h=>by
  have e:run (ltK key) (kas_asc p (f+1) n)=run (ltK key) (if ltK key (p.getD n 0) (p.getD (n-1) 0)=true then .ret n else kas_asc p f (n+1)):=rfl
  rw [e,yqd]
  by_cases hc:Kp key p n<Kp key p (n-1)
  .rw [decide_eq_true hc,if_pos rfl]
   exact ⟨Nat.le_refl _,by show n<=n+(f+1);omega,h,fun _=>hc⟩
  .rw [decide_eq_false hc,if_neg (by simp)]
   obtain ⟨a,b,c,d⟩:=yqe p f (n+1) (by omega) (h.succ h1 (by omega))
   exact ⟨by omega,by omega,c,fun z=>d (by omega)⟩
theorem yqf {p:Array Nat}{i j:Nat}(hj:j<=p.size) (k:Nat):Kp key (kas_rev p i j) k=if i<=k/\k<j then Kp key p (i+j-1-k) else Kp key p k:=by
 unfold Kp kas_rev
 rw [getElem?_mirror_all hj]
 split<;>rfl
theorem ydW (p:Array Nat) (i j:Nat):(kas_rev p i j).size=p.size:=mirror_size _ _ _ _
theorem ydd (p:Array Nat) (i j:Nat):(kas_rev p i j).Perm p:=mirror_perm _ _ _ _
theorem yha {p:Array Nat}{i j:Nat}(hj:j<=p.size) (he:∀ k,i<=k->k<j->Kp key p k=Kp key p (j-1)) (k:Nat):Kp key (kas_rev p i j) k=Kp key p k:=by
 rw [yqf hj]
 split
 .rename_i h
  rw [he (i+j-1-k) (by omega) (by omega),he k h.1 h.2]
 .rfl
theorem yiT:∀ (f:Nat) (p:Array Nat) (n q:Nat),n+f<=p.size->q+1<=n->Dn key p n->(∀ k,n-(q+1)<=k->k<n->Kp key p k=Kp key p (n-1)) ->
  let r:=run (ltK key) (kas_desc f p n q)
  r.1.Perm p/\r.1.size=p.size/\n<=r.2.1/\r.2.1<=n+f/\r.2.2+1<=r.2.1/\Dn key r.1 r.2.1/\(∀ k,r.2.1-(r.2.2+1)<=k->k<r.2.1->Kp key r.1 k=Kp key r.1 (r.2.1-1))
 | 0,p,n,q,hs,hq,hd,he=>⟨Array.Perm.refl _,rfl,Nat.le_refl _,Nat.le_refl _,hq,hd,he⟩
 | f+1,p,n,q,hs,hq,hd,he=>by
  intro r
  have e:r=run (ltK key) (if ltK key (p.getD n 0) (p.getD (n-1) 0)=true then (if q>0 then kas_desc f (kas_rev p (n-(q+1)) n) (n+1) 0 else kas_desc f p (n+1) 0)
   else .ask (p.getD (n-1) 0) (p.getD n 0) fun d=>if d=true then .ret (p,n,q) else kas_desc f p (n+1) (q+1)):=rfl
  rw [yqd] at e
  by_cases hc:Kp key p n<Kp key p (n-1)
  .rw [decide_eq_true hc,if_pos rfl] at e
   by_cases h0:q>0
   .rw [if_pos h0] at e
    have kk:∀ k,Kp key (kas_rev p (n-(q+1)) n) k=Kp key p k:=fun k=>yha (by omega) he k
    have hd':Dn key (kas_rev p (n-(q+1)) n) (n+1):=fun i j hij hj=>by
     rw [kk,kk]
     exact hd.succ (by omega) (by omega) i j hij hj
    obtain ⟨a1,a2,a3,a4,a5,a6,a7⟩:=yiT f (kas_rev p (n-(q+1)) n) (n+1) 0 (by rw [ydW];omega) (by omega) hd' (fun k h1 h2=>by rw [show k=n+1-1 by omega])
    rw [e]
    exact ⟨a1.trans (ydd _ _ _),a2.trans (ydW _ _ _),by omega,by omega,a5,a6,a7⟩
   .rw [if_neg h0] at e
    obtain ⟨a1,a2,a3,a4,a5,a6,a7⟩:=yiT f p (n+1) 0 (by omega) (by omega) (hd.succ (by omega) (by omega)) (fun k h1 h2=>by rw [show k=n+1-1 by omega])
    rw [e]
    exact ⟨a1,a2,by omega,by omega,a5,a6,a7⟩
  .rw [decide_eq_false hc,if_neg (by simp)] at e
   have e:r=run (ltK key) (if ltK key (p.getD (n-1) 0) (p.getD n 0)=true then .ret (p,n,q) else kas_desc f p (n+1) (q+1)):=e
   rw [yqd] at e
   by_cases hc2:Kp key p (n-1)<Kp key p n
   .rw [decide_eq_true hc2,if_pos rfl] at e
    rw [e]
    exact ⟨Array.Perm.refl _,rfl,Nat.le_refl _,by show n<=n+(f+1);omega,hq,hd,he⟩
   .rw [decide_eq_false hc2,if_neg (by simp)] at e
    have heq:Kp key p n=Kp key p (n-1):=by omega
    obtain ⟨a1,a2,a3,a4,a5,a6,a7⟩:=yiT f p (n+1) (q+1) (by omega) (by omega) (hd.succ (by omega) (by omega)) (fun k h1 h2=>by
     by_cases hk:k=n
     .rw [hk];rfl
     .rw [he k (by omega) (by omega),show n+1-1=n by omega,heq])
    rw [e]
    exact ⟨a1,a2,by omega,by omega,a5,a6,a7⟩
theorem Dn.rev {p:Array Nat}{n:Nat}(hn:n<=p.size) (h:Dn key p n):Up key (kas_rev p 0 n) n:=fun i j hij hj=>by
 rw [yqf hn,yqf hn,if_pos ⟨by omega,by omega⟩,if_pos ⟨by omega,by omega⟩]
 exact h _ _ (by omega) (by omega)
theorem ymT {p:Array Nat}{n nrem:Nat}(h1:1<=n) (hn:n<=nrem) (hs:nrem<=p.size) (h:Dn key p n) :
  let r:=run (ltK key) (kas_tail3 n nrem p)
  r.2.Perm p/\r.2.size=p.size/\1<=r.1/\r.1<=nrem/\Up key r.2 r.1:=by
 intro r
 have e:r=(run (ltK key) (kas_asc (kas_rev p 0 n) (nrem-n) n),kas_rev p 0 n):=by show run _ (KasT.bind _ _)=_;rw [yeI];rfl
 obtain ⟨a,b,c,_⟩:=yqe (kas_rev p 0 n) (nrem-n) n h1 (h.rev (by omega))
 rw [e]
 exact ⟨ydd _ _ _,ydW _ _ _,by omega,by omega,c⟩
theorem yhb {p:Array Nat}{n nrem:Nat}(h1:1<=n) (hn:n<nrem) (hs:nrem<=p.size) (h:Dn key p (n+1)) :
  let r:=run (ltK key) (kas_descPart n nrem p)
  r.2.Perm p/\r.2.size=p.size/\1<=r.1/\r.1<=nrem/\Up key r.2 r.1:=by
 intro r
 obtain ⟨a1,a2,a3,a4,a5,a6,a7⟩:=yiT (key:=key) (nrem-(n+1)) p (n+1) 0 (by omega) (by omega) h (fun k h1 h2=>by rw [show k=n+1-1 by omega])
 generalize hd:run (ltK key) (kas_desc (nrem-(n+1)) p (n+1) 0)=d at *
 have e:r=run (ltK key) (if d.2.2>0 then kas_tail3 d.2.1 nrem (kas_rev d.1 (d.2.1-(d.2.2+1)) d.2.1) else kas_tail3 d.2.1 nrem d.1):=by show run _ (KasT.bind _ _)=_;rw [yeI,hd]
 by_cases h0:d.2.2>0
 .rw [if_pos h0] at e
  have kk:∀ k,Kp key (kas_rev d.1 (d.2.1-(d.2.2+1)) d.2.1) k=Kp key d.1 k:=fun k=>yha (by omega) a7 k
  obtain ⟨b1,b2,b3,b4,b5⟩:=ymT (key:=key) (p:=kas_rev d.1 (d.2.1-(d.2.2+1)) d.2.1) (n:=d.2.1) (nrem:=nrem) (by omega) (by omega) (by rw [ydW];omega) (fun i j hij hj=>by rw [kk,kk];exact a6 i j hij hj)
  rw [e]
  exact ⟨b1.trans ((ydd _ _ _).trans a1),b2.trans ((ydW _ _ _).trans a2),b3,b4,b5⟩
 .rw [if_neg h0] at e
  obtain ⟨b1,b2,b3,b4,b5⟩:=ymT (key:=key) (p:=d.1) (n:=d.2.1) (nrem:=nrem) (by omega) (by omega) (by omega) a6
  rw [e]
  exact ⟨b1.trans a1,b2.trans a2,b3,b4,b5⟩
theorem ymU {p:Array Nat}{nrem:Nat}(h1:1<=nrem) (hs:nrem<=p.size) :
  let r:=run (ltK key) (kas_count nrem p)
  r.2.Perm p/\r.2.size=p.size/\1<=r.1/\r.1<=nrem/\Up key r.2 r.1:=by
 intro r
 obtain ⟨a,b,c,d⟩:=yqe (key:=key) p (nrem-1) 1 (Nat.le_refl _) (fun i j hij hj=>by rw [show i=j by omega];exact Int.le_refl _)
 generalize hn:run (ltK key) (kas_asc p (nrem-1) 1)=n at *
 have e:r=run (ltK key) (if (n == nrem)=true then .ret (n,p) else if n>1 then .ask (p.getD 0 0) (p.getD (n-1) 0) fun c=>if c=true then .ret (n,p) else kas_descPart n nrem (kas_rev p 0 n)
  else kas_descPart n nrem p):=by show run _ (KasT.bind _ _)=_;rw [yeI,hn]
 by_cases e1:n=nrem
 .rw [if_pos (by simp [e1])] at e
  rw [e]
  exact ⟨Array.Perm.refl _,rfl,a,by show n<=nrem;omega,c⟩
 .rw [if_neg (by simp [e1])] at e
  have dn:=d (by omega)
  by_cases h2:n>1
  .rw [if_pos h2] at e
   have e:r=run (ltK key) (if ltK key (p.getD 0 0) (p.getD (n-1) 0)=true then .ret (n,p) else kas_descPart n nrem (kas_rev p 0 n)):=e
   rw [yqd] at e
   by_cases hc:Kp key p 0<Kp key p (n-1)
   .rw [decide_eq_true hc,if_pos rfl] at e
    rw [e]
    exact ⟨Array.Perm.refl _,rfl,a,by show n<=nrem;omega,c⟩
   .rw [decide_eq_false hc,if_neg (by simp)] at e
    have eqs:∀ k,0<=k->k<n->Kp key p k=Kp key p (n-1):=fun k _ hk=>by
     have u1:=c 0 k (by omega) hk
     have u2:=c k (n-1) (by omega) (by omega)
     omega
    have kk:∀ k,Kp key (kas_rev p 0 n) k=Kp key p k:=fun k=>yha (by omega) eqs k
    have hdn:Dn key (kas_rev p 0 n) (n+1):=fun i j hij hj=>by
     rw [kk,kk]
     by_cases ej:j=n
     .subst ej
      by_cases ei:i=j
      .rw [ei];exact Int.le_refl _
      .rw [eqs i (by omega) (by omega)];omega
     .rw [eqs i (by omega) (by omega),eqs j (by omega) (by omega)];exact Int.le_refl _
    obtain ⟨b1,b2,b3,b4,b5⟩:=yhb (key:=key) (p:=kas_rev p 0 n) (n:=n) (nrem:=nrem) a (by omega) (by rw [ydW];omega) hdn
    rw [e]
    exact ⟨b1.trans (ydd _ _ _),b2.trans (ydW _ _ _),b3,b4,b5⟩
  .rw [if_neg h2] at e
   have hn1:n=1:=by omega
   subst hn1
   obtain ⟨b1,b2,b3,b4,b5⟩:=yhb (key:=key) (p:=p) (n:=1) (nrem:=nrem) (by omega) (by omega) hs (fun i j hij hj=>by
    by_cases e3:i=j
    .rw [e3];exact Int.le_refl _
    .rw [show i=0 by omega,show j=1 by omega]
     exact Int.le_of_lt dn)
   rw [e]
   exact ⟨b1,b2,b3,b4,b5⟩
theorem yiU {p:Array Nat}{k:Nat}(hu:Up key p k):∀ (f l r:Nat),r<=k->l<=r->r-l<=f->(∀ i,i<l->Kp key p i<=Kp key p k)->(∀ i,r<=i->i<k->Kp key p k<Kp key p i) ->
  let m:=run (ltK key) (kas_place p k f l r)
  m<=k/\(∀ i,i<m->Kp key p i<=Kp key p k)/\(∀ i,m<=i->i<k->Kp key p k<Kp key p i)
 | 0,l,r,hr,hl,hf,h1,h2=>by
  have:l=r:=by omega
  subst this
  exact ⟨hr,h1,h2⟩
 | f+1,l,r,hr,hl,hf,h1,h2=>by
  intro m
  have e:m=run (ltK key) (if l>=r then .ret l else .ask (p.getD k 0) (p.getD ((l+r)/2) 0) fun c=>if c=true then kas_place p k f l ((l+r)/2) else kas_place p k f ((l+r)/2+1) r):=rfl
  by_cases hlr:l>=r
  .rw [if_pos hlr] at e
   have:l=r:=by omega
   subst this
   rw [e]
   exact ⟨hr,h1,h2⟩
  .rw [if_neg hlr] at e
   have e:m=run (ltK key) (if ltK key (p.getD k 0) (p.getD ((l+r)/2) 0)=true then kas_place p k f l ((l+r)/2) else kas_place p k f ((l+r)/2+1) r):=e
   rw [yqd] at e
   by_cases hc:Kp key p k<Kp key p ((l+r)/2)
   .rw [decide_eq_true hc,if_pos rfl] at e
    rw [e]
    exact yiU hu f l ((l+r)/2) (by omega) (by omega) (by omega) h1 (fun i h3 h4=>by have:=hu ((l+r)/2) i h3 h4;omega)
   .rw [decide_eq_false hc,if_neg (by simp)] at e
    rw [e]
    exact yiU hu f ((l+r)/2+1) r hr (by omega) (by omega) (fun i h3=>by have:=hu i ((l+r)/2) (by omega) (by omega);omega) h2
theorem yqg {p:Array Nat}{src d:Nat}(hs:src<p.size) (hd:d<=src) (k:Nat):Kp key (bubble p src d) k=if k=src-d then Kp key p src else if src-d<k/\k<=src then Kp key p (k-1) else Kp key p k:=by
 unfold Kp
 rw [getElem?_bubble hs d hd]
 repeat' split
 all_goals rfl
theorem yuv:∀ (f:Nat) (p:Array Nat) (k:Nat),k+f<=p.size->Up key p k->(run (ltK key) (kas_bin f p k)).Perm p/\Up key (run (ltK key) (kas_bin f p k)) (k+f)
 | 0,p,k,_,h=>⟨Array.Perm.refl _,h⟩
 | f+1,p,k,hs,h=>by
  obtain ⟨a1,a2,a3⟩:=yiU (key:=key) h k 0 k (Nat.le_refl _) (by omega) (by omega) (fun i hi=>by omega) (fun i h1 h2=>by omega)
  generalize hl:run (ltK key) (kas_place p k k 0 k)=l at *
  have e:run (ltK key) (kas_bin (f+1) p k)=run (ltK key) (kas_bin f (bubble p k (k-l)) (k+1)):=by show run _ (KasT.bind _ _)=_;rw [yeI,hl]
  have hk:∀ i,Kp key (bubble p k (k-l)) i=if i=l then Kp key p k else if l<i/\i<=k then Kp key p (i-1) else Kp key p i:=fun i=>by
   rw [yqg (by omega) (by omega),show k-(k-l)=l by omega]
  have hu:Up key (bubble p k (k-l)) (k+1):=fun i j hij hj=>by
   rw [hk,hk]
   by_cases i1:i=l
   .rw [if_pos i1]
    by_cases j1:j=l
    .rw [if_pos j1];exact Int.le_refl _
    .rw [if_neg j1,if_pos ⟨by omega,by omega⟩]
     have:=a3 (j-1) (by omega) (by omega);omega
   .rw [if_neg i1]
    by_cases i2:l<i/\i<=k
    .rw [if_pos i2,if_neg (by omega),if_pos ⟨by omega,by omega⟩]
     exact h _ _ (by omega) (by omega)
    .rw [if_neg i2]
     have il:i<l:=by omega
     by_cases j1:j=l
     .rw [if_pos j1];exact a2 i il
     .rw [if_neg j1]
      split
      .exact h _ _ (by omega) (by omega)
      .exact h _ _ (by omega) (by omega)
  obtain ⟨b1,b2⟩:=yuv f (bubble p k (k-l)) (k+1) (by rw [bubble_size];omega) hu
  rw [e]
  exact ⟨b1.trans (bubble_perm _ _ _),by rw [show k+(f+1)=k+1+f by omega];exact b2⟩
theorem yqh {n:Nat}(h1:1<=n):(run (ltK key) (kas_sort n)).Perm (toArray (List.range n))/\Up key (run (ltK key) (kas_sort n)) n:=by
 have hs:(toArray (List.range n)).size=n:=by simp
 obtain ⟨a1,a2,a3,a4,a5⟩:=ymU (key:=key) (p:=toArray (List.range n)) (nrem:=n) h1 (by omega)
 generalize hr:run (ltK key) (kas_count n (toArray (List.range n)))=r at *
 have e:run (ltK key) (kas_sort n)=run (ltK key) (if r.1<n then kas_bin (n-max r.1 1) r.2 (max r.1 1) else .ret r.2):=by show run _ (KasT.bind _ _)=_;rw [yeI,hr]
 by_cases h:r.1<n
 .rw [if_pos h] at e
  obtain ⟨b1,b2⟩:=yuv (key:=key) (n-max r.1 1) r.2 (max r.1 1) (by omega) (by rw [Nat.max_eq_left a3];exact a5)
  rw [e]
  exact ⟨b1.trans a1,by rw [show max r.1 1+(n-max r.1 1)=n by omega] at b2;exact b2⟩
 .rw [if_neg h] at e
  rw [e]
  exact ⟨a1,by rw [show n=r.1 by omega];exact a5⟩
noncomputable def AskIn {α:Type}(P:Nat->Prop) (lt:Nat->Nat->Bool):KasT α->Prop
 | .ret _=>True
 | .ask i j k=>P i/\P j/\AskIn P lt (k (lt i j))
theorem AskIn.bind {α β:Type}{P:Nat->Prop}{lt:Nat->Nat->Bool}{f:α->KasT β}:∀ {t:KasT α},AskIn P lt t->AskIn P lt (f (run lt t))->AskIn P lt (t.bind f)
 | .ret _,_,h=>h
 | .ask _ _ _,⟨a,b,c⟩,h=>⟨a,b,AskIn.bind c h⟩
theorem yzK {α:Type}{P:Nat->Prop}{lt:Nat->Nat->Bool}{cmp:Nat->Nat->(Bool->Shared->Prop)->Shared->Prop}{s:Shared}(hc:∀ i j C,P i->P j->C (lt i j) s->cmp i j C s) {Q:α->Shared->Prop} :
  ∀ (t:KasT α),AskIn P lt t->Q (run lt t) s->t.kasWp cmp Q s
 | .ret _,_,h=>h
 | .ask i j k,⟨a,b,c⟩,h=>hc i j _ a b (yzK hc (k (lt i j)) c h)
section
variable {P:Nat->Prop}{lt:Nat->Nat->Bool}
def All (P:Nat->Prop) (p:Array Nat):Prop:=∀ i,P (p.getD i 0)
theorem All.of_perm {p q:Array Nat}(h0:P 0) (h:All P p) (e:q.Perm p):All P q:=fun i=>by
 rw [ygZ]
 by_cases hi:i<q.size
 .rw [Array.getElem?_eq_getElem hi]
  show P q[i]
  have hm:q[i]∈p:=(e.mem_iff).mp (Array.getElem_mem hi)
  obtain ⟨j,hj,e2⟩:=Array.getElem_of_mem hm
  have:=h j
  rw [ygZ,Array.getElem?_eq_getElem hj] at this
  rw [<- e2];exact this
 .rw [Array.getElem?_eq_none (by omega)];exact h0
theorem yqi {p:Array Nat}(h:All P p):∀ (f n:Nat),AskIn P lt (kas_asc p f n)
 | 0,_=>trivial
 | f+1,n=>⟨h _,h _,by show AskIn P lt (if _ then _ else _);split;trivial;exact yqi h f (n+1)⟩
theorem yiV (h0:P 0):∀ (f:Nat) (p:Array Nat) (n q:Nat),All P p->AskIn P lt (kas_desc f p n q)
 | 0,_,_,_,_=>trivial
 | f+1,p,n,q,h=>by
  refine ⟨h _,h _,?_⟩
  show AskIn P lt (if _ then _ else _)
  split
  .split
   .exact yiV h0 f _ _ _ (h.of_perm h0 (ydd _ _ _))
   .exact yiV h0 f _ _ _ h
  .refine ⟨h _,h _,?_⟩
   show AskIn P lt (if _ then _ else _)
   split
   .trivial
   .exact yiV h0 f _ _ _ h
theorem yfB:∀ (f:Nat) (p:Array Nat) (n q:Nat),(run lt (kas_desc f p n q)).1.Perm p
 | 0,_,_,_=>Array.Perm.refl _
 | f+1,p,n,q=>by
  show (run lt (if lt (p.getD n 0) (p.getD (n-1) 0)=true then (if q>0 then kas_desc f (kas_rev p (n-(q+1)) n) (n+1) 0 else kas_desc f p (n+1) 0)
   else .ask (p.getD (n-1) 0) (p.getD n 0) fun d=>if d=true then .ret (p,n,q) else kas_desc f p (n+1) (q+1))).1.Perm p
  split
  .split
   .exact (yfB f _ _ _).trans (ydd _ _ _)
   .exact yfB f _ _ _
  .show (run lt (if lt (p.getD (n-1) 0) (p.getD n 0)=true then .ret (p,n,q) else kas_desc f p (n+1) (q+1))).1.Perm p
   split
   .exact Array.Perm.refl _
   .exact yfB f _ _ _
theorem ymV (h0:P 0) {p:Array Nat}(h:All P p) (n nrem:Nat):AskIn P lt (kas_tail3 n nrem p):=AskIn.bind (yqi (h.of_perm h0 (ydd _ _ _)) _ _) trivial
theorem yhc (h0:P 0) {p:Array Nat}(h:All P p) (n nrem:Nat):AskIn P lt (kas_descPart n nrem p):=by
 refine AskIn.bind (yiV h0 _ _ _ _ h) ?_
 have:=h.of_perm h0 (yfB (lt:=lt) (nrem-(n+1)) p (n+1) 0)
 split
 .exact ymV h0 (this.of_perm h0 (ydd _ _ _)) _ _
 .exact ymV h0 this _ _
theorem ysR (h0:P 0) {p:Array Nat}(h:All P p) (nrem:Nat):AskIn P lt (kas_count nrem p):=by
 refine AskIn.bind (yqi h _ _) ?_
 split
 .trivial
 .split
  .refine ⟨h _,h _,?_⟩
   show AskIn P lt (if _ then _ else _)
   split
   .trivial
   .exact yhc h0 (h.of_perm h0 (ydd _ _ _)) _ _
  .exact yhc h0 h _ _
theorem yiW {p:Array Nat}(h:All P p) (k:Nat):∀ (f l r:Nat),AskIn P lt (kas_place p k f l r)
 | 0,_,_=>trivial
 | f+1,l,r=>by
  show AskIn P lt (if _ then _ else _)
  split
  .trivial
  .refine ⟨h _,h _,?_⟩
   show AskIn P lt (if _ then _ else _)
   split
   .exact yiW h k f _ _
   .exact yiW h k f _ _
theorem yuw (h0:P 0):∀ (f:Nat) (p:Array Nat) (k:Nat),All P p->AskIn P lt (kas_bin f p k)
 | 0,_,_,_=>trivial
 | f+1,p,k,h=>AskIn.bind (yiW h k _ _ _) (yuw h0 f _ _ (h.of_perm h0 (bubble_perm _ _ _)))
end
theorem yww {n:Nat}(h1:1<=n):AskIn (· < n) (ltK key) (kas_sort n):=by
 have h:All (· < n) (toArray (List.range n)):=fun i=>by
  rw [ygZ]
  by_cases hi:i<n
  .simp [hi]
  .simp [hi];omega
 refine AskIn.bind (ysR (by omega) h n) ?_
 obtain ⟨a1,_⟩:=ymU (key:=key) (p:=toArray (List.range n)) (nrem:=n) h1 (by simp)
 split
 .exact yuw (by omega) _ _ _ (h.of_perm (by omega) a1)
 .trivial
end
end KasS
namespace KasS
open PySem PySem.W PyProof.Rows PySem.Calls
noncomputable def Tps (h:Heap):List Value->List (Int×Tok×Value)->Prop
 | [],[]=>True
 | v::vs,p::ps=>(∃ b o m,v=.ref b/\h.get? b=some o/\o.cls=.type "tuple"/\o.data=.seq #[.int p.1 p.2.1,p.2.2] m)/\Tps h vs ps
 | _,_=>False
theorem Tps.len {h:Heap}:∀ {vs:List Value}{ps:List (Int×Tok×Value)},Tps h vs ps->ps.length=vs.length
 | [],[],_=>rfl
 | _::_,_::_,⟨_,t⟩=>by rw [length_cons,length_cons,Tps.len t]
 | [],_::_,t=>t.elim
 | _::_,[],t=>t.elim
theorem Tps.get {h:Heap}:∀ {vs:List Value}{ps:List (Int×Tok×Value)},Tps h vs ps->∀ i,i<vs.length->∃ p b o m,ps[i]?=some p/\vs.getD i .none=.ref b/\h.get? b=some o/\o.cls=.type "tuple"/\o.data=.seq #[.int p.1 p.2.1,p.2.2] m
 | _::_,p::_,⟨⟨b,o,m,e1,e2,e3,e4⟩,_⟩,0,_=>⟨p,b,o,m,rfl,by rw [e1];rfl,e2,e3,e4⟩
 | _::vs,_::ps,⟨_,t⟩,i+1,hi=>by
  obtain ⟨p,b,o,m,e1,e2,e3⟩:=Tps.get t i (by simpa using hi)
  exact ⟨p,b,o,m,by simpa using e1,by simpa using e2,e3⟩
 | [],[],_,_,hi=>by simp at hi
 | [],_::_,t,_,_=>t.elim
 | _::_,[],t,_,_=>t.elim
theorem Tps.mono {h h':Heap}:∀ {vs:List Value}{ps:List (Int×Tok×Value)},Tps h vs ps->(∀ b o,Value.ref b∈vs->h.get? b=some o->h'.get? b=some o)->Tps h' vs ps
 | [],[],_,_=>trivial
 | _::_,_::_,⟨⟨b,o,m,e1,e2,e3⟩,t⟩,k=>⟨⟨b,o,m,e1,k b o (by rw [e1];exact mem_cons_self) e2,e3⟩,Tps.mono t fun b o hb=>k b o (mem_cons_of_mem _ hb)⟩
 | [],_::_,t,_=>t.elim
 | _::_,[],t,_=>t.elim
theorem Tps.kat {h:Heap}:∀ {vs:List Value}{ps:List (Int×Tok×Value)},Tps h vs ps->KatTups h vs (ps.map fun p=>Value.int p.1 p.2.1)
 | [],[],_=>trivial
 | _::_,p::_,⟨⟨b,o,m,e1,e2,e3,e4⟩,t⟩=>⟨⟨b,o,_,m,e1,e2,e3,e4,rfl⟩,Tps.kat t⟩
 | [],_::_,t=>t.elim
 | _::_,[],t=>t.elim
def yfg (ps:List (Int×Tok×Value)) (i:Nat):Int:=((ps[i]?).map (·.1)).getD 0
theorem yqj {ps:List (Int×Tok×Value)}(hn:(ps.map (·.1)).Nodup) {i j:Nat}(hi:i<ps.length) (hj:j<ps.length) (e:yfg ps i=yfg ps j):i=j:=by
 unfold yfg at e
 rw [List.getElem?_eq_getElem hi,List.getElem?_eq_getElem hj] at e
 have e:ps[i].1=ps[j].1:=e
 have h1:i<(ps.map (·.1)).length:=by simpa using hi
 have h2:j<(ps.map (·.1)).length:=by simpa using hj
 exact (List.getElem_inj (h₀:=h1) (h₁:=h2) hn).mp (by simpa using e)
section
variable {prog:Program}{w:World}{A:Around}{E:Value->Shared->Prop}{s:Shared}
theorem ywx {vs:List Value}{ps:List (Int×Tok×Value)}(tp:Tps s.heap vs ps) (hn:(ps.map (·.1)).Nodup) (i j:Nat) (C:Bool->Shared->Prop) (hi:i<vs.length) (hj:j<vs.length) (hC:C (ltK (yfg ps) i j) s) :
  kas_ask prog w A (tuples' true) vs i j C s:=by
 obtain ⟨p,b,o,m,e1,e2,e3,e4,e5⟩:=tp.get i hi
 obtain ⟨p',b',o',m',f1,f2,f3,f4,f5⟩:=tp.get j hj
 have k1:yfg ps i=p.1:=by unfold yfg;rw [e1];rfl
 have k2:yfg ps j=p'.1:=by unfold yfg;rw [f1];rfl
 unfold ltK at hC
 rw [k1,k2] at hC
 unfold kas_ask
 rw [e2,f2]
 refine kat_lt e3 e5 f3 f5 ?_
 show KatLex prog w A true (decide (2<2)) C [(Value.int p.1 p.2.1,Value.int p'.1 p'.2.1),(p.2.2,p'.2.2)] 0 s
 refine kat_cons (L2.eqAt_V (y:=.int p.1) (x:=.int p'.1) ⟨_,rfl⟩ ⟨_,rfl⟩ rfl rfl prog w _ _ ?_)
 show KatGo prog w A true _ C _ _ _ 0 (p.1 == p'.1) s
 by_cases e:p.1=p'.1
 .rw [beq_iff_eq.mpr e]
  have hij:i=j:=yqj hn (by rw [tp.len];exact hi) (by rw [tp.len];exact hj) (by rw [k1,k2,e])
  subst hij
  rw [e1] at f1
  cases f1
  refine kat_yes (kat_cons (SeqAt.EqAt.same _ prog w _ _ (kat_yes (kat_nil ?_))))
  rw [decide_eq_false (by omega)] at hC
  exact hC
 .rw [beq_eq_false_iff_ne.mpr e]
  exact kat_no (oneLt_int hC)
theorem ysS {a:Addr}{vs:List Value}{ps:List (Int×Tok×Value)}{n:Nat}{P:PySem.Fin->Shared->Prop}(ho:s.heap.get? a=some (seqObj "list" vs.toArray n)) (tp:Tps s.heap vs ps) (na:Value.ref a∉vs) (hn:(ps.map (·.1)).Nodup) (h64:vs.length<64)
  (h:∀ q:Array Nat,q.Perm (toArray (List.range vs.length))->Up (yfg ps) q vs.length->P (.done (.ret .none)) { s with heap:=sortedHeap s.heap a vs (toArray (q.toList.map fun i=>vs.getD i Value.none)) }) :
  wpAny (model prog w) A (Builtin.«list.sort» ⟨[.ref a],[]⟩) P E s:=by
 have ha:a<s.heap.objs.size:=Heap.lt_size ho
 have z64:vs.length<=sizeLine:=by rw [sizeLine_eq];omega
 rw [list_sort_plain]
 obtain ⟨e1,ho1⟩:∃ e1,(s.heap.update a (Obj.mapSeq fun _=>(#[]:Array Value))).get? a=some (seqObj "list" #[] e1):=⟨_,get?_update_seq ho _⟩
 refine wpAny_bind (listItems_at ho rfl (wpAny_bind (listUpdate_at ho rfl (wpAny_bind (seqEpoch_at ho1 rfl (wpAny_bind (wpAny_newTuple (wpAny_bind (wpAny_newList (wpAny_holding ?_) (zero_le _))) (by simpa using z64))))) (by simpa using z64) (zero_le _))))
 generalize hH:((s.heap.update a (Obj.mapSeq fun _=>(#[]:Array Value))).push (seqObj "tuple" vs.toArray 0)).push (seqObj "list" #[] 0)=H6
 have keep:∀ b o,b≠a->s.heap.get? b=some o->H6.get? b=some o:=fun b o hb e=>by
  rw [<- hH]
  exact Heap.get?_push_of_some _ (Heap.get?_push_of_some _ ((Heap.get?_update_other _ _ (Ne.symm hb)).trans e))
 have ho6:H6.get? a=some (seqObj "list" #[] e1):=by rw [<- hH];exact Heap.get?_push_of_some _ (Heap.get?_push_of_some _ ho1)
 have tp6:Tps H6 vs ps:=tp.mono fun b o hb e=>keep b o (fun z=>na (z ▸ hb)) e
 show wpAny (model prog w) A _ P E { s with heap:=H6 }
 dsimp only
 have fin:∀ q:Array Nat,q.Perm (toArray (List.range vs.length))->Up (yfg ps) q vs.length->P (.done (.ret .none)) { s with heap:=H6.update a (Obj.mapSeq fun _=>toArray (q.toList.map fun i=>vs.getD i Value.none)) }:=fun q h1 h2=>by
  have:=h q h1 h2
  unfold sortedHeap at this
  rw [show ((s.heap.update a (Obj.mapSeq fun _=>(#[]:Array Value))).push (seqObj "tuple" vs.toArray 0)).push (seqObj "list" #[] 0)=H6 from hH] at this
  exact this
 by_cases h2:vs.toArray.size<2
 .rw [if_pos h2,if_pos h2]
  refine wpAny_bind (wpAny_pure ?_)
  rw [StateT.run_pure]
  have hz:((arrOf (SortSt.mk' general' (vs.toArray.zip vs.toArray) #[] 7 none)).map (·.2))=toArray ((toArray (List.range vs.length)).toList.map fun i=>vs.getD i Value.none):=by
   show (vs.toArray.zip vs.toArray).map (·.2)=_
   apply Array.toList_inj.mp
   simp only [Array.toList_map,Array.toList_zip,List.map_snd_zip (Nat.le_refl _)]
   apply List.ext_getElem
   .simp
   .intro i h3 h4
    simp
    rw [List.getElem?_eq_getElem (by simpa using h3)];rfl
  refine wpAny_bind (wpAny_pure (wpAny_bind (seqEpoch_at ho6 rfl (wpAny_bind (listUpdate_at ho6 rfl ?_ (zero_le _) ?_)))))
  .dsimp only
   rw [hz]
   simp only [bne_self_eq_false,Bool.false_eq_true,if_false]
   exact wpAny_pure (fin _ (Array.Perm.refl _) fun i j hij hj=>by rw [show i=j by (simp at h2);omega];exact Int.le_refl _)
  .rw [hz];simp;omega
 .rw [if_neg h2,if_neg h2]
  have hv2:2<=vs.length:=by simp at h2;omega
  refine wpAny_bind (kat_kind (s:={ s with heap:=H6 }) (T:=.type "int") tp6.kat (by rw [length_map,tp.len];omega) (fun v hv=>?_) rfl ?_)
  .obtain ⟨p,_,rfl⟩:=List.mem_map.mp hv
   exact .now
  have run1:=kat_run (prog:=prog) (w:=w) (A:=A) (E:=E) (s:={ s with heap:=H6 }) (κ:=tuples' true) (ks:=vs) (vs:=vs)
   (Q:=fun st' s'=>s'={ s with heap:=H6 }/\∃ q:Array Nat,q.Perm (toArray (List.range vs.length))/\Up (yfg ps) q vs.length/\(arrOf st').map (·.2)=toArray (q.toList.map fun i=>vs.getD i Value.none)/\failedOf st'=none)
   (G:=fun q s'=>s'={ s with heap:=H6 }/\q.Perm (toArray (List.range vs.length))/\Up (yfg ps) q vs.length) rfl hv2 h64
   (fun q st' s' z1 z2 z3 z4=>⟨z4.1,q,z4.2.1,z4.2.2,kat_snds rfl z2,z3⟩)
   (yzK (P:=(· < vs.length)) (lt:=ltK (yfg ps)) (fun i j C hi hj hC=>ywx tp6 hn i j C hi hj hC) _ (yww (by omega)) ⟨rfl,(yqh (by omega)).1,(yqh (by omega)).2⟩)
  refine wpAny_bind (wpAny_mono run1 ?_ fun _ _ x=>x)
  rintro ⟨⟨⟩,st'⟩ s' ⟨rfl,q,z1,z2,z3,z4⟩
  refine wpAny_bind (seqEpoch_at ho6 rfl (wpAny_bind (listUpdate_at ho6 rfl ?_ (zero_le _) ?_)))
  .dsimp only
   rw [z3,z4]
   simp only [bne_self_eq_false,Bool.false_eq_true,if_false]
   exact wpAny_pure (fin q z1 z2)
  .dsimp only
   rw [z3]
   have:=z1.size_eq
   simp at this ⊢
   omega
end
end KasS
namespace PXS
open PySem L2 PySem.Spec PyProof.Rows KasS PX
theorem ysT {P:Program}{w:World}{H:Hp}{h:Heap}{a:Addr}{o:HO}(x:ObjOk P w H h a o):∃ u,h.get? a=some u:=by
 cases o with
 | lst xs=>obtain ⟨_,_,_,_,e⟩:=x;exact ⟨_,e⟩
 | tup xs=>obtain ⟨_,_,_,ob,e,_⟩:=x;exact ⟨_,e⟩
 | dK kvs=>obtain ⟨_,_,_,_,o,_,_,e,_⟩:=x;exact ⟨_,e⟩
 | dT kvs=>obtain ⟨_,_,_,_,o,_,_,e,_⟩:=x;exact ⟨_,e⟩
 | set S n=>obtain ⟨o,_,_,_,e,_⟩:=x;exact ⟨_,e⟩
 | ins C dx fs=>obtain ⟨_,_,_,e,_⟩:=x;exact ⟨_,e⟩
 | own y=>obtain ⟨_,e⟩:=x;exact ⟨_,e⟩
 | xd fs=>obtain ⟨_,⟨_,_,_,e,_⟩,_⟩:=x;exact ⟨_,e⟩
 | rng lo hi=>obtain ⟨_,_,_,e⟩:=x;exact ⟨_,e⟩
 | frz ob u=>obtain ⟨e,_⟩:=x;exact ⟨_,e⟩
 | tbl ps=>exact ⟨_,show h.get? a=some _ from x⟩
 | met f y=>exact ⟨_,show h.get? a=some _ from x⟩
 | ext φ=>obtain ⟨_,⟨_,e⟩,_⟩:=x;exact ⟨_,e⟩
section
variable {X:Cx}
theorem ysU:MtM X "dict.items" yup:=by
 intro pins s σ H x vs v us Q I rx rv h
 obtain ⟨d,kvs,rfl,rfl,hH,q⟩:=h
 cases rx
 have hus:=rv.zero
 subst hus
 obtain ⟨z,sy,ws,kv,hD⟩:=I.hok d _ hH
 refine call_meetsIn PySem.F.slot_dict_items hD.typeIs PySem.F.entry_dict_items (PySem.F.args_dict_items_1 _) (meets_dict_items _ d sy) ⟨⟨ws,hD⟩,?_⟩
 refine ⟨.ref _,_,I.laid (t':=s.toks) (o:=ylL s.heap.objs.size d) (fun _ _ q=>Heap.get?_push_of_some _ q) (Nat.le_refl _) ⟨Heap.get?_push_size _ rfl,⟨_,Heap.get?_push_size _ rfl⟩,fun h1 h2 e k=>k _ e⟩,rfl,q _ I.fresh⟩
theorem ywy {pins:List (Addr×Obj)}{σ:L2.St}{H H':Hp}{s:Shared}{h':Heap}{t':Nat}(I:Inv X pins σ H s) (k:∀ b u,s.heap.get? b=some u->h'.get? b=some u) (sub:∀ b o,H b=some o->H' b=some o)
  (nw:∀ b o,H b=none->H' b=some o->s.heap.get? b=none/\ObjOk X.prog X.w H' h' b o):Inv X pins σ H' { s with heap:=h',toks:=t' }:=by
 refine I.un ⟨fun b u q _ _ _=>k b u q,fun b u q _ _ _=>⟨u.slots,k b u q⟩,fun b u q n _=>?_,fun b u q _=>⟨u,k b u q⟩,fun b xs q=>sub _ _ q,fun b u xs q=>sub _ _ q,fun b ps q=>⟨#[],by rw [sub _ _ q];simp⟩⟩ fun b o e=>?_
 .cases e:H' b with
  | none=>rfl
  | some o=>rw [(nw b o n e).1] at q;cases q
 .cases e2:H b with
  | none=>exact (nw b o e2 e).2
  | some u =>
   have:=sub _ _ e2
   rw [e] at this
   cases this
   exact (I.hok b o e2).stay (fun c v _ q=>k c v q) (fun c q=>sub _ _ q) fun c xs q=>sub _ _ q
theorem yux {h:Heap}:∀ (as:List Addr) (ws:List (Key×Value)) (ns:List Int),as.length=ws.length->ws.map (·.1)=ns.map Sum.inl ->
  (∀ (j:Nat) (a:Addr),as[j]?=some a->∃ key k x,ws[j]?=some (k,x)/\ykX k key=true/\h.get? a=some { cls:=.type "tuple",data:=.seq #[key,x] }) ->
  ∃ ps,Tps h (as.map Value.ref) ps/\ps.map (·.1)=ns/\ps.map (·.2.2)=ws.map (·.2)
 | [],[],ns,_,e,_=>⟨[],trivial,by cases ns with|nil=>rfl|cons=>simp at e,rfl⟩
 | [],_::_,_,hl,_,_=>by simp at hl
 | _::_,[],_,hl,_,_=>by simp at hl
 | a::as,(k,x)::ws,ns,hl,e,hp=>by
  cases ns with
  | nil=>simp at e
  | cons n ns =>
   simp only [map_cons,List.cons.injEq] at e
   obtain ⟨ps,t,e1,e2⟩:=yux as ws ns (by simpa using hl) e.2 fun j b hb=>by
    obtain ⟨key,k',x',f1,f2,f3⟩:=hp (j+1) b (by simpa using hb)
    exact ⟨key,k',x',by simpa using f1,f2,f3⟩
   obtain ⟨key,k',x',f1,f2,f3⟩:=hp 0 a rfl
   simp at f1
   obtain ⟨rfl,rfl⟩:=f1
   obtain ⟨j,tk,g1,rfl⟩:∃ j tk,k=Sum.inl j/\key=Value.int j tk:=by
    rcases yW f2 with ⟨j,tk,g1,g2⟩|⟨y,tk,g1,g2⟩
    .exact ⟨j,tk,g1,g2⟩
    .rw [g1] at e;cases e.1
   rw [g1] at e
   obtain rfl:j=n:=by injection e.1
   exact ⟨(j,tk,x)::ps,⟨⟨a,_,_,rfl,f3,rfl,rfl⟩,t⟩,by rw [map_cons,e1],by rw [map_cons,e2];rfl⟩
theorem ydX {α:Type}:∀ {as:List Addr}{ts:List α}{b:Addr}{t:α},(as.zip ts).lookup b=some t->∃ j:Nat,as[j]?=some b/\ts[j]?=some t
 | [],_,_,_,h=>by simp at h
 | _::_,[],_,_,h=>by simp at h
 | a::as,u::ts,b,t,h=>by
  rw [zip_cons_cons,lookup_cons] at h
  split at h
  .rename_i hb
   cases h
   exact ⟨0,by rw [eq_of_beq hb];rfl,rfl⟩
  .obtain ⟨j,h1,h2⟩:=ydX h
   exact ⟨j+1,by simpa using h1,by simpa using h2⟩
theorem ymW:∀ {kvs:List (Key×V)}{ws:List (Key×Value)},KV kvs ws->ws.map (·.1)=kvs.map (·.1)/\∀ i:Nat,i<kvs.length->RelV ((kvs.map (·.2)).getD i .non) ((ws.map (·.2)).getD i .none):=by
 intro kvs ws h
 induction h with
 | nil=>exact ⟨rfl,fun i hi=>by simp at hi⟩
 | @cons p q _ _ h1 _ ih =>
  refine ⟨by rw [map_cons,map_cons,ih.1,h1.1],fun i hi=>?_⟩
  cases i with
  | zero=>exact h1.2
  | succ i=>simpa using ih.2 i (by simpa using hi)
theorem ymX {α:Type}{f:α->V}{g:α->Value}:∀ {l:List α},(∀ i∈l,RelV (f i) (g i))->Vals (l.map f) (l.map g)
 | [],_=>.nil
 | i::l,h=>.cons (h i mem_cons_self) (ymX fun j hj=>h j (mem_cons_of_mem _ hj))
theorem ygp (hc:X.calm=true):yek X (.builtin "sorted") rSI:=by
 intro pins s σ H xs us Q I rr hh
 obtain ⟨r,d,kvs,ns,rfl,hr,hd,hk,h64,q⟩:=hh
 obtain ⟨u,rfl,rx⟩:=vals1 rr
 cases rx
 obtain ⟨hview,_,_⟩:=I.hok r _ hr
 obtain ⟨z,sy,ws,kv,hD⟩:=I.hok d _ hd
 obtain ⟨ep,hat⟩:=hD.dictAt
 obtain ⟨kv1,kv2⟩:=ymW kv
 have lw:ws.length=kvs.length:=by have:=congrArg length kv1;simpa using this
 have ln:ns.length=kvs.length:=by have:=congrArg length hk;simpa using this.symm
 have nd:ns.Nodup:=by
  obtain ⟨_,_,_,_,_,_,_,_,n⟩:=hD
  rw [kv1,hk] at n
  exact (List.pairwise_map.mp n).imp fun h e=>h (by rw [e])
 refine Calls.call_function_entry kind_sorted plain_sorted entry_sorted (args_sorted1 _) ?_
 unfold Builtin.«sorted»
 refine wpAny_bind (m:=checkCount "sorted" 1 1 _) (wpAny_pure ?_)
 refine wpAny_bind (PySem.W.kdx_collect (A:=X.A.in1) (knd:=ybQ X.prog X.w) (kvs:=ws) (ep:=ep) (I.ok.hd hc) ⟨_,hview,rfl,rfl⟩ hat (by rw [lw];exact z) fun h' tk as keep hl hG=>wpAny_bind (wpAny_newList ?_ (by rw [length_map,hl,lw];exact z)))
 obtain ⟨ps,tp,e1,e2⟩:=yux (h:=h') as ws ns hl (by rw [kv1,hk]) fun j a ha=>hG.pairs j a ha
 have la:as.length=ns.length:=by omega
 have above:∀ a∈as,s.heap.objs.size<a:=hG.above
 have there:∀ a∈as,a<h'.objs.size:=fun a ha=>hG.there ha
 generalize hB:h'.objs.size=B at *
 have noB:s.heap.get? B=none:=by
  cases e:s.heap.get? B with
  | none=>rfl
  | some o=>exact absurd (Heap.lt_size (keep B o e)) (by rw [hB];exact lt_irrefl _)
 have noA:∀ a∈as,s.heap.get? a=none:=fun a ha=>Heap.get?_none_of_le (le_of_lt (above a ha))
 have free:∀ b,s.heap.get? b=none->H b=none:=fun b e=>by
  cases e2:H b with
  | none=>rfl
  | some o=>obtain ⟨u,hu⟩:=ysT (I.hok b o e2);rw [e] at hu;cases hu
 have hoL:(h'.push { cls:=.type "list",data:=.seq (as.map Value.ref).toArray }).get? B=some (seqObj "list" (as.map Value.ref).toArray 0):=by rw [<- hB];exact Heap.get?_push_size _ rfl
 refine wpAny_bind (wpAny_holding (wpAny_call_entry PySem.F.slot_list_sort ⟨_,hoL,rfl⟩ PySem.F.entry_list_sort ?body (PySem.F.args_list_sort_1 _)))
 case body =>
  refine ysS (s:={ s with heap:=h'.push { cls:=.type "list",data:=.seq (as.map Value.ref).toArray },toks:=tk }) (ps:=ps) hoL (tp.mono fun b o _ e=>Heap.get?_push_of_some _ e) (fun z=>?_) (by rw [e1];exact nd) (by rw [length_map];omega) fun qa z1 z2=>?_
  .obtain ⟨a,ha,e⟩:=List.mem_map.mp z
   cases e
   exact absurd (there B ha) (lt_irrefl _)
  refine ⟨_,rfl,wpAny_pure ⟨_,rfl,?_⟩⟩
  have lq:qa.toList.length=ns.length:=by have:=z1.size_eq;simpa [la] using this
  have pq:qa.toList.Perm (List.range ns.length):=by have:=Array.perm_iff_toList_perm.mp z1;simpa [la] using this
  have inq:∀ i∈qa.toList,i<ns.length:=fun i hi=>by have:=pq.mem_iff.mp hi;simpa using this
  have nda:as.Nodup:=hG.rise.imp fun h=>ne_of_lt h
  have ndq:qa.toList.Nodup:=pq.nodup_iff.mpr List.nodup_range
  generalize hS:sortedHeap (h'.push { cls:=.type "list",data:=.seq (as.map Value.ref).toArray }) B (as.map Value.ref) (toArray (qa.toList.map fun i=>(as.map Value.ref).getD i Value.none))=S
  have hFa:∀ b o,b≠B->h'.get? b=some o->S.get? b=some o:=fun b o hb e=>by
   rw [<- hS]
   unfold sortedHeap
   exact (Heap.get?_update_other _ _ (Ne.symm hb)).trans (Heap.get?_push_of_some _ (Heap.get?_push_of_some _ ((Heap.get?_update_other _ _ (Ne.symm hb)).trans (Heap.get?_push_of_some _ e))))
  have hFB:∃ c,S.get? B=some (seqObj "list" (toArray (qa.toList.map fun i=>(as.map Value.ref).getD i Value.none)) c):=by
   rw [<- hS]
   unfold sortedHeap
   exact ⟨_,get?_update_seq (Heap.get?_push_of_some _ (Heap.get?_push_of_some _ (get?_update_seq hoL _))) _⟩
  have hF:∀ b o,s.heap.get? b=some o->S.get? b=some o:=fun b o e=>hFa b o (fun z=>by rw [z,noB] at e;cases e) (keep b o e)
  have aget:∀ i,i<ns.length->∃ a,as[i]?=some a/\as.getD i 0=a/\a∈as:=fun i hi=>by
   have h1:i<as.length:=by omega
   exact ⟨as[i],List.getElem?_eq_getElem h1,by simp [getD,List.getElem?_eq_getElem h1],List.getElem_mem h1⟩
  have mem:∀ a∈(qa.toList.map fun i=>as.getD i 0),a∈as:=fun a ha=>by
   obtain ⟨i,hi,rfl⟩:=List.mem_map.mp ha
   obtain ⟨a,_,e,m⟩:=aget i (inq i hi)
   rw [e];exact m
  have neB:∀ a∈as,a≠B:=fun a ha=>ne_of_lt (there a ha)
  have kat:∀ i,yfg ps i=ns.getD i 0:=fun i=>by
   unfold yfg
   rw [<- e1]
   simp [getD]
  refine ⟨.ref B,yBo H B (qa.toList.map fun i=>as.getD i 0) (qa.toList.map fun i=>[V.int (ns.getD i 0),(kvs.map (·.2)).getD i .non]),?_,rfl,q B _ qa.toList pq ?_ nd (by simp) ?_ ?_⟩
  .show L2.Inv X pins σ _ { s with heap:=S,toks:=tk }
   refine ywy I hF (fun b o e=>?_) fun b o e e2=>?_
   .unfold yBo upd ymK
    rw [if_neg fun z=>by rw [z,free _ noB] at e;cases e]
    cases e3:List.lookup b ((qa.toList.map fun i=>as.getD i 0).zip (qa.toList.map fun i=>[V.int (ns.getD i 0),(kvs.map (·.2)).getD i .non])) with
    | none=>exact e
    | some t =>
     obtain ⟨j,g1,_⟩:=ydX e3
     rw [free _ (noA b (mem b (mem_of_getElem? g1)))] at e
     cases e
   .unfold yBo upd ymK at e2
    split at e2
    .rename_i hb
     subst hb
     cases e2
     obtain ⟨c,hc⟩:=hFB
     refine ⟨noB,by simp [lq];rw [ln];exact z,_,c,?_,hc⟩
     rw [map_map]
     refine ymX fun i hi=>?_
     obtain ⟨a,f1,f2,_⟩:=aget i (inq i hi)
     show RelV (V.ref (as.getD i 0)) _
     rw [f2]
     simp [getD,f1]
     rfl
    .split at e2
     .rename_i t e3
      cases e2
      obtain ⟨j,g1,g2⟩:=ydX e3
      rw [getElem?_map] at g1 g2
      cases e4:qa.toList[j]? with
      | none=>rw [e4] at g1;cases g1
      | some i =>
       rw [e4] at g1 g2
       have hi:=inq i (mem_of_getElem? e4)
       obtain ⟨a,f1,f2,f3⟩:=aget i hi
       simp only [map_some,Option.some.injEq] at g1 g2
       rw [f2] at g1
       subst g1
       subst g2
       obtain ⟨key,k,x,w1,w2,w3⟩:=hG.pairs i a f1
       have wk:k=Sum.inl (ns.getD i 0):=by
        have h1:(ws.map (·.1))[i]?=some k:=by rw [getElem?_map,w1];rfl
        rw [kv1,hk,getElem?_map] at h1
        rw [List.getElem?_eq_getElem hi] at h1
        simp [getD,List.getElem?_eq_getElem hi] at h1 ⊢
        exact h1.symm
       obtain ⟨tk2,rfl⟩:∃ tk,key=Value.int (ns.getD i 0) tk:=by
        rcases yW w2 with ⟨j,tk,g1,g2⟩|⟨y,tk,g1,g2⟩
        .rw [wk] at g1;cases g1;exact ⟨tk,g2⟩
        .rw [wk] at g1;cases g1
       have wx:(ws.map (·.2)).getD i .none=x:=by simp [getD,w1]
       refine ⟨noA a f3,by simp [sizeLine_eq],[_,x],.cons ⟨_,rfl⟩ (.cons ?_ .nil),_,hFa a _ (neB a f3) w3,rfl,_,rfl⟩
       rw [<- wx]
       exact kv2 i (by omega)
     .rw [e] at e2;cases e2
  .refine List.pairwise_iff_getElem.mpr fun i j hi hj hij=>?_
   have:=z2 i j (le_of_lt hij) (by simpa [la,lq] using hj)
   unfold Kp at this
   rw [kat,kat] at this
   have hi':i<qa.size:=by simpa using hi
   have hj':j<qa.size:=by simpa using hj
   rw [Array.getElem?_eq_getElem hi',Array.getElem?_eq_getElem hj'] at this
   simpa using this
  .intro a ha
   rcases mem_cons.mp ha with rfl|ha
   .exact free _ noB
   .exact free _ (noA a (mem a ha))
  .refine List.nodup_cons.mpr ⟨fun h=>neB _ (mem _ h) rfl,?_⟩
   refine List.pairwise_map.mpr (ndq.imp_of_mem fun {i j} hi hj hij e=>hij ?_)
   obtain ⟨a,f1,f2,_⟩:=aget i (inq i hi)
   obtain ⟨b,g1,g2,_⟩:=aget j (inq j hj)
   rw [f2,g2] at e
   subst e
   exact (List.getElem?_inj (by have:=inq i hi;omega) nda).mp (f1.trans g1.symm)
variable {A:Nat->Addr}{o:Expr}{xa:XE}{pos p apos cpos:Pos}{x:Str}
theorem z_sortI (ho:ZE X A o xa) (hm:X.mg x=none) (hc:X.calm=true:=by rfl) (m:Nm x:=by exact ⟨by rfl',by rfl',by rfl'⟩) (hg:Gl X x:=by rfl) (hv:bootBuiltins x=some (.builtin "sorted"):=by rfl') (hbase:attributeBase o "items" X.env (eval o X.env)=eval o X.env:=by rfl) (hline:(apos.endLine == cpos.line)=true:=by rfl) (he:starEach [.Call (.Attribute o "items" apos) [] [] cpos] X.env=(false,eval (.Call (.Attribute o "items" apos) [] [] cpos) X.env)::starEach [] X.env:=by rfl) (hpl:(backTo pos (starEach [] X.env)).any (·.1)=false:=by rfl) :
  ZO X A (.Call (.Name x p) [.Call (.Attribute o "items" apos) [] [] cpos] [] pos) (yic xa) :=
 wO (yit (ygp hc) hg hm hv (ydR (yym PySem.F.plainAttrs_dict PySem.F.slot_dict_items PySem.F.type_dict_items ysU ho.of hbase hline) yge he) m.n m.d he hpl) (ypP (K:=ckX X A) sE)
end
end PXS
namespace PX
open PySem L2 PySem.Spec PyProof.Rows
section
theorem ysV {P:Program}{w:World}{K:PySem.W.Frag}{tg:Expr}(a it:Addr) (m:Nat):Turn P w K tg (ItR K a m) [it] it (fun i h=>i<=m/\h.IsRevIter it a ((m:Int)-1-(i:Nat))) where
 mem:=by simp
 obj:=fun i h st b hb=>by
  have e:b=it:=by simpa using hb
  subst e
  obtain ⟨_,o,e,c,d⟩:=st
  exact ⟨o,e,fun v z=>by rw [d] at z;cases z⟩
 keep:=fun i h h' st k=>⟨st.1,st.2.at fun o e=>k it (by simp) o e⟩
 item:=by
  intro X hP hw hK hc i pins s σ H E I hf st hg
  subst hP hw hK
  obtain ⟨hi,xs,x,hq,hx⟩:=hg
  obtain ⟨its,rv,p,hz⟩:=I.list hq
  obtain ⟨u,hu,ru⟩:=rv.get hx
  obtain ⟨f0,f1,f2,f3,f4,f5⟩:=hf it (by simp)
  have e0:(m:Int)-1-(i:Nat)=((m-1-i:Nat):Int):=by omega
  have st2:=st.2
  rw [e0] at st2
  refine wpAny_pyNext_rev_item st2 p.isList (x:=u) (by simpa using hu) fun h' st' sb=>?_
  have I1:Inv X pins σ H { s with heap:=h' }:=I.turned (t':=s.toks) (fun b o hb e=>(sb.2 b hb).trans e) f0 f1 f3 f4 f5
  obtain ⟨o,e,c,d⟩:=id st'
  have e2:((m-1-i:Nat):Int)-1=(m:Int)-1-((i+1:Nat):Int):=by omega
  rw [e2] at st'
  exact ⟨u,rfl,yoA (s:={ s with heap:=h' }) e c d (by decide) ⟨x,H,I1,ru,⟨rfl,fun ys hy=>by rw [I.list_inj hy hq];exact hx⟩,⟨hi,st'⟩,fun b hb=>(hf b hb).1⟩⟩
 done:=by
  intro X hP hw hK hc i pins s σ H E I hf st hg
  subst hP hw hK
  obtain rfl:i=m:=hg
  obtain ⟨f0,f1,f2,f3,f4,f5⟩:=hf it (by simp)
  have st2:=st.2
  rw [show (i:Int)-1-(i:Nat)=-1 by omega] at st2
  exact wpAny_pyNext_rev_end (I.ok.hd hc) st2 fun h' eb=>⟨rfl,I.turned (t':=s.toks) (fun b o hb e=>eb b o hb e) f0 f1 f3 f4 f5⟩
 self:=fun _ _ _ _ _ st h=>wpAny_pyIter_revIter st.2 h
variable {X:Cx}{A:Nat->Addr}{tg a:Expr}{p pos:Pos}{xa:XE}
theorem yzL {ta:TE}(hg:Gl X "reversed") (hm:X.mg "reversed" = none) (ha:PE X a ta) (he:starEach [a] X.env=(false,eval a X.env)::starEach [] X.env) (hs:starEach [a] X.env=[(false,eval a X.env)]):PI X tg (.Call (.Name "reversed" p) [a] [] pos) (yEi X.K ta):=by
 intro pins s σ H R I h
 refine Call_ (yju I hg hm ylP (PyProof.Rows.callWith_type1 (thn (ydR ha yge he pos pins s σ H (fun vs H1=>match vs with|[x]=>∃ b xs,x=.ref b/\SqL X.K H1 b xs/\R (ItR X.K b xs.length) H1|_=>False) I h) fun us s1 ⟨vs,H1,I1,r1,q1⟩=>?_) hs rfl))
 cases r1 with
 | nil=>exact q1.elim
 | cons r rr =>
  cases rr with
  | cons=>exact q1.elim
  | nil =>
  obtain ⟨b,xs,e,hq,q⟩:=q1
  subst e
  cases r
  obtain ⟨its,rv,pp,hz⟩:=I1.list hq
  have hl:=rv.length
  refine call_reversed_list pp.isList (wpAny_pyIter_revIter (s:={ s1 with heap:=s1.heap.push (revObj b ((its.toArray.size:Int)-1)) }) (l:=b) (i:=(its.toArray.size:Int)-1) ⟨_,Heap.get?_push_size _ rfl,rfl,rfl⟩ ?_)
  refine ⟨s1.heap.objs.size,[s1.heap.objs.size],_,_,H1,rfl,I1.kept (t':=s1.toks) fun b o e=>Heap.get?_push_of_some _ e,ysV b _ xs.length,⟨zero_le _,_,Heap.get?_push_size _ rfl,rfl,?_⟩,fun b hb=>?_,q⟩
  .show Data.fields #[.ref b,rawInt ((its.toArray.size:Int)-1)]=Data.fields #[.ref b,rawInt ((xs.length:Int)-1-((0:Nat):Int))]
   rw [hl]
   simp
  .have e:b=s1.heap.objs.size:=by simpa using hb
   subst e
   exact I1.fpOk (Nat.le_refl _) (I1.hok.fresh (Nat.le_refl _))
theorem ywz {rest:List Stmt}{s:XS}{y:XG}(hi:ZE X A a xa) (hg:ZG X A tg y) (hb:ZSs X A rest s) (hp:PassesOwn (model X.prog X.w) X.A X.env X.xe:=by exact PassesOwn.never) (hc:X.calm=true:=by rfl) (hs:∀ x,foldedSetIterable a X.env x=pure x:=by exact fun _=>rfl):ZS X A (.For tg a rest [] pos) (yiO false xa y s) :=
 wS (yoE hp hc (yla hi.of) hg.of hb.of hs) (ysJ (K:=ckX X A) sE sG sS)
theorem ywA {rest:List Stmt}{s:XS}{y:XG}{pos':Pos}(hm:X.mg "reversed" = none) (hi:ZE X A a xa) (hg:ZG X A tg y) (hb:ZSs X A rest s) (hp:PassesOwn (model X.prog X.w) X.A X.env X.xe:=by exact PassesOwn.never) (hc:X.calm=true:=by rfl) (hgl:Gl X "reversed":=by rfl) (he:starEach [a] X.env=(false,eval a X.env)::starEach [] X.env:=by rfl) (hs1:starEach [a] X.env=[(false,eval a X.env)]:=by rfl) (hs:∀ x,foldedSetIterable (.Call (.Name "reversed" p) [a] [] pos') X.env x=pure x:=by exact fun _=>rfl):ZS X A (.For tg (.Call (.Name "reversed" p) [a] [] pos') rest [] pos) (yiO true xa y s) :=
 wS (yoE hp hc (yzL hgl hm hi.of he hs1) hg.of hb.of hs) (ysK (K:=ckX X A) sE sG sS)
end
end PX
namespace PX
open PySem L2 PySem.Spec PyProof.Rows
section
variable {X:Cx}{A:Nat->Addr}{a o:Expr}{xa xb:XE}{pos apos cpos:Pos}
end
end PX
namespace PX
open PySem L2 PySem.Spec PyProof.Rows
variable {X:Cx}{A:Nat->Addr}{x:Str}
end PX
namespace PX
open PySem L2 PySem.Spec PyProof.Rows
variable {X:Cx}{A:Nat->Addr}{x y:Str}{py spos:Pos}{iy:Nat}
theorem ysW {elt iter:Expr}{px:Pos}{scope:Scope}{cpos:Pos}{it:XA}{xe:XE}{ix:List Nat}(fr:List Str) (hi:ZI X A (.Name x px) iter it) (he:∀ (cl:List (Str×Addr)) (C:Addr) (s₃:Shared) (H₃:Hp) (fp:List Addr) (pins:List (Addr×Obj)),ZE (cxC X scope cl C (x::fr) s₃ H₃ fp pins) A elt xe) (hc:X.calm=true:=by rfl) (hfr:FrOk X scope ix fr:=by repeat' first|exact True.intro|exact rfl|refine And.intro ?_ ?_) (hnd:(x::fr).Nodup:=by rfl') (hkind:scope.kind=.function:=by rfl) (hcell:∀ y∈scope.names,y.2≠.cell:=by rfl') (hnames:∀ y∈scope.names,y.2=.local->scope.names.lookup y.1=some .local:=by rfl') (hfree0:∀ y∈scope.names,y.2=.free->y.1∈fr:=by rfl') (hx:scope.names.lookup x=some .local:=by rfl) (hs:∀ v,foldedSetIterable iter X.env v=pure v:=by exact fun _=>rfl) (hN:X.N.Nodup:=by exact nd) (hyi:X.N[iy]?=some y:=by rfl) (hyx:Loc X.env.scope y:=by first|exact Or.inl rfl|exact Or.inr rfl) (hyf:X.fn y=true\/X.env.scope.names.lookup y=some .local:=by exact Or.inl rfl) (hsw:swapsWith (.ListComp elt [⟨.Name x px,iter,[],0⟩] scope cpos) (some (.Name y py)) spos.line X.env=pure true:=by rfl):ZS X A (.Assign [.Name y py] (.ListComp elt [⟨.Name x px,iter,[],0⟩] scope cpos) spos) (yca (xFz (yel it ix xe)) (yy iy)) :=
 wS (yzF (ymP ix fr hc hi.of hfr (te:=cE (ckX X A) xe) (fun cl C s₃ H₃ fp pins=>(he cl C s₃ H₃ fp pins).of) (fun _ _ _ _ _ _=>.nil) hnd hkind hcell hnames hfree0 hx hs hN hyi hyx hyf hsw)) (ylE (ytX (yiF (K:=ckX X A) ix sI sE)) (yft iy))
theorem ysX {elt iter:Expr}{px:Pos}{scope:Scope}{cpos:Pos}{it:XA}{xe:XE}{ix:List Nat}(fr:List Str) (hi:ZI X A (.Name x px) iter it) (he:∀ (cl:List (Str×Addr)) (C:Addr) (s₃:Shared) (H₃:Hp) (fp:List Addr) (pins:List (Addr×Obj)),ZE (cxC X scope cl C (x::fr) s₃ H₃ fp pins) A elt xe) (hc:X.calm=true:=by rfl) (hfr:FrOk X scope ix fr:=by repeat' first|exact True.intro|exact rfl|refine And.intro ?_ ?_) (hnd:(x::fr).Nodup:=by rfl') (hkind:scope.kind=.function:=by rfl) (hcell:∀ y∈scope.names,y.2≠.cell:=by rfl') (hnames:∀ y∈scope.names,y.2=.local->scope.names.lookup y.1=some .local:=by rfl') (hfree0:∀ y∈scope.names,y.2=.free->y.1∈fr:=by rfl') (hx:scope.names.lookup x=some .local:=by rfl) (hs:∀ v,foldedSetIterable iter X.env v=pure v:=by exact fun _=>rfl) (hN:X.N.Nodup:=by exact nd) (hyi:X.N[iy]?=some y:=by rfl) (hyx:Loc X.env.scope y:=by first|exact Or.inl rfl|exact Or.inr rfl) (hyf:X.fn y=true\/X.env.scope.names.lookup y=some .local:=by exact Or.inl rfl) (hsw:swapsWith (.ListComp elt [⟨.Name x px,iter,[],0⟩] scope cpos) (some (.Name y py)) spos.line X.env=pure true:=by rfl):ZS X A (.Assign [.Name y py] (.ListComp elt [⟨.Name x px,iter,[],0⟩] scope cpos) spos) (yca (ygK (yel it ix xe)) (yy iy)) :=
 wS (yzF (ymP ix fr hc hi.of hfr (te:=cE (ckX X A) xe) (fun cl C s₃ H₃ fp pins=>(he cl C s₃ H₃ fp pins).of) (fun _ _ _ _ _ _=>.nil) hnd hkind hcell hnames hfree0 hx hs hN hyi hyx hyf hsw)) (ylE (ypm (yiF (K:=ckX X A) ix sI sE)) (yft iy))
theorem ywB {k lv:Nat}{f:Addr}{fd:FuncData}{ps:List Str}{p pos:Pos}{fi} (M:Mk X.K (A k) f) (F:FnOk X.prog X.w X.K X.mg X.base CX0 lv f fd ps (spI (ckX X A) 0 k fi)) (hm:X.mg x=some (.ref (A k))) (hb:Binds X.K fd ps []) (hr:Room (lv+1) X.A:=by exact hr.mono (by omega)) (m:Nm x:=by exact ⟨by rfl',by rfl',by rfl'⟩) (hg:Gl X x:=by rfl):ZO X A (.Call (.Name x p) [] [] pos) (yhH fi yi) :=
 wO (yrD M F hr hg hm hb .nil yiv m.d) (ymy (K:=ckX X A) (k:=k) yly ylB)
end PX
namespace PX
open PySem L2 PySem.Spec PyProof.Rows KasS PXS
section
variable {X:Cx}{A:Nat->Addr}
theorem ygJ {vs:List Value}{ns:List Int}(h:IntsAre vs ns):Vals (ns.map V.int) vs:=by
 induction h with
 | nil=>exact .nil
 | cons n t _ ih=>exact .cons ⟨t,rfl⟩ ih
variable {a:Expr}{xa:XE}{aa:XA}{pos p:Pos}{x:Str}{n:Nat}
end
end PX
namespace PX
open PySem L2 PySem.Spec PyProof.Rows KasS PXS
section
def NF (X:Cx) (a:Addr):Prop:=∀ o u,X.H₀ a≠some (.frz o u)
theorem yEl {X:Cx}{pins:List (Addr×Obj)}{σ:L2.St}{H:Hp}{s:Shared}{d:Addr}{u0 u1:HO}(I:L2.Inv X pins σ H s) (hd:H d=some u0) (nt:∀ xs,u0≠.tup xs) (no:∀ y,u0≠.own y) (nb:∀ ps,u0≠.tbl ps) (nf:NF X d)
  (ok:ObjOk X.prog X.w H s.heap d u0->ObjOk X.prog X.w H s.heap d u1):L2.Inv X pins σ (upd H d u1) s:=by
 have ne:∀ {b:Addr},H b=none->upd H d u1 b=none:=fun {b} e=>(yu fun z=>by subst z;rw [hd] at e;cases e).trans e
 refine ⟨I.ok,I.os,I.bare,⟨I.base.keep,I.base.slot,fun b o e n hx=>ne (I.base.free b o e n hx),I.base.there,fun b xs e=>?_,fun b o u e=>?_,fun b ps e=>?_⟩,I.loc,I.cell,ne I.free,fun x c e=>ne (I.freeC x c e),fun p hp=>?_,fun b u e=>?_,I.len⟩
 .have:=I.base.tups b xs e
  exact (yu fun z=>by subst z;rw [hd] at this;cases this;exact nt _ rfl).trans this
 .have:=I.base.frzs b o u e
  exact (yu fun z=>by subst z;exact nf o u e).trans this
 .obtain ⟨more,this⟩:=I.base.tbls b ps e
  exact ⟨more,(yu fun z=>by subst z;rw [hd] at this;cases this;exact nb _ rfl).trans this⟩
 .obtain ⟨h1,h2,h3⟩:=I.pin p hp
  exact ⟨h1,ne h2,h3⟩
 .have ho:∀ c y,H c=some (.own y)->upd H d u1 c=some (.own y):=fun c y q=>(yu fun z=>by subst z;rw [hd] at q;cases q;exact no _ rfl).trans q
  have ht:∀ c xs,H c=some (.tup xs)->upd H d u1 c=some (.tup xs):=fun c xs q=>(yu fun z=>by subst z;rw [hd] at q;cases q;exact nt _ rfl).trans q
  by_cases hb:b=d
  .subst hb
   rw [yr] at e
   cases e
   exact (ok (I.hok b u0 hd)).stay (fun _ _ _ q=>q) (fun c q=>ho c b q) ht
  .rw [yu hb] at e
   exact (I.hok b u e).stay (fun _ _ _ q=>q) (fun c q=>ho c b q) ht
theorem yqk {P:Program}{w:World}{K:PySem.W.Frag}{tg:Expr}(d it:Addr) (ob:Obj) (kvs:List (Key×V)) {es:Array DictEntry}{ep:Nat}(hdat:ob.data=.dict es ep):Turn P w K tg (ItD d ob kvs) [it] it (fun i h=>h.IsKeyIter it d i kvs.length ep) where
 mem:=by simp
 obj:=fun i h st b hb=>by
  have e:b=it:=by simpa using hb
  subst e
  obtain ⟨o,e,c,q⟩:=st
  exact ⟨o,e,fun v z=>by rw [q] at z;cases z⟩
 keep:=fun i h h' st k=>st.at fun o e=>k it (by simp) o e
 item:=by
  intro X hP hw hK hc i pins s σ H E I hf st hg
  subst hP hw hK
  obtain ⟨hi,hH⟩:=hg
  obtain ⟨hob,z,sy,ws,kv,hD⟩:=I.hok d _ hH
  obtain ⟨ep',hat⟩:=hD.dictAt
  obtain ⟨o',es',ho',hx1,hx2,hx3⟩:=id hat
  rw [hob] at ho';cases ho'
  rw [hdat] at hx2;cases hx2
  obtain ⟨kv1,kv2⟩:=ymW kv
  have lw:ws.length=kvs.length:=by have:=congrArg length kv1;simpa using this
  have hiw:i<ws.length:=by omega
  obtain ⟨f0,f1,f2,f3,f4,f5⟩:=hf it (by simp)
  rw [<- lw] at st
  refine wpAny_pyNext_dict_item st hat (k:=ws[i].1) (v:=ws[i].2) (List.getElem?_eq_getElem hiw) fun key h' hkey st' sb=>?_
  have I1:L2.Inv X pins σ H { s with heap:=h' }:=I.turned (t':=s.toks) (fun b o hb e=>(sb.2 b hb).trans e) f0 f1 f3 f4 f5
  obtain ⟨o,e,c,q⟩:=id st'
  rw [lw] at st'
  have hk:(kvs[i]'hi).1=ws[i].1:=by
   have h1:(ws.map (·.1))[i]?=(kvs.map (·.1))[i]?:=by rw [kv1]
   rw [getElem?_map,getElem?_map,List.getElem?_eq_getElem hiw,List.getElem?_eq_getElem hi] at h1
   exact (Option.some.inj h1).symm
  have rel:RelV (kV (kvs[i]'hi).1) key:=by
   rw [hk]
   rcases yW hkey with ⟨i,tk,g1,g2⟩|⟨y,tk,g1,g2⟩
   .rw [g1,g2];exact ⟨tk,rfl⟩
   .rw [g1,g2];exact ⟨tk,rfl⟩
  exact ⟨key,rfl,yoA (s:={ s with heap:=h' }) e c q (by decide) ⟨kV (kvs[i]'hi).1,H,I1,rel,⟨rfl,_,List.getElem?_eq_getElem hi,rfl⟩,st',fun b hb=>(hf b hb).1⟩⟩
 done:=by
  intro X hP hw hK hc i pins s σ H E I hf st hg
  subst hP hw hK
  obtain ⟨hi,hH⟩:=hg
  subst hi
  obtain ⟨hob,z,sy,ws,kv,hD⟩:=I.hok d _ hH
  obtain ⟨ep',hat⟩:=hD.dictAt
  obtain ⟨o',es',ho',hx1,hx2,hx3⟩:=id hat
  rw [hob] at ho';cases ho'
  rw [hdat] at hx2;cases hx2
  obtain ⟨kv1,kv2⟩:=ymW kv
  have lw:ws.length=kvs.length:=by have:=congrArg length kv1;simpa using this
  obtain ⟨f0,f1,f2,f3,f4,f5⟩:=hf it (by simp)
  rw [<- lw] at st
  exact wpAny_pyNext_dict_end (I.ok.hd hc) st hat (by simp) fun h' eb=>⟨rfl,I.turned (t':=s.toks) (fun b o hb e=>eb b o hb e) f0 f1 f3 f4 f5⟩
 self:=fun _ _ _ _ _ st h=>wpAny_pyIter_keyiter st h
variable {X:Cx}{A:Nat->Addr}{tg a:Expr}{p pos:Pos}{xa:XE}
theorem ywC {ta:TE}(ha:PE X a ta):PI X tg a (yzA (NF X) ta):=by
 intro pins s σ H R I h
 refine thn (ha pins s σ H _ I h) fun v s1 ⟨x,H1,I1,r1,q1⟩=>?_
 obtain ⟨d,kvs,e,hd,q⟩:=q1
 subst e
 cases r1
 have nf:NF X d:=fun o u z=>by have:=I1.base.frzs d o u z;rw [hd] at this;cases this
 obtain ⟨z,sy,ws,kv,hD⟩:=id (I1.hok d _ hd)
 obtain ⟨ep,hat⟩:=hD.dictAt
 obtain ⟨ob,es,ho,hx1,hx2,hx3⟩:=id hat
 obtain ⟨kv1,kv2⟩:=ymW kv
 have lw:ws.length=kvs.length:=by have:=congrArg length kv1;simpa using this
 have I2:=yEl (u1:=.frz ob (.dK kvs)) I1 hd (fun _ z=>by cases z) (fun _ z=>by cases z) (fun _ z=>by cases z) nf fun x=>⟨ho,x⟩
 refine wpAny_pyIter_dict sy hat ?_
 refine ⟨s1.heap.objs.size,[s1.heap.objs.size],_,_,_,rfl,I2.kept (t':=s1.toks) fun b o e=>Heap.get?_push_of_some _ e,yqk d _ ob kvs hx2,⟨_,Heap.get?_push_size _ rfl,rfl,by rw [lw];rfl⟩,fun b hb=>?_,q ob nf⟩
 have e:b=s1.heap.objs.size:=by simpa using hb
 subst e
 exact I2.fpOk (Nat.le_refl _) (I2.hok.fresh (Nat.le_refl _))
end
end PX
namespace PX
open PySem L2 PySem.Spec PyProof.Rows
section
variable {X:Cx}{A:Nat->Addr}
theorem ywD:MtR X "str.find" ypb:=by
 intro pins s σ H x xs v us Q I rx rv h
 obtain ⟨z,c,rfl,rfl,hz,hm,q⟩:=h
 obtain ⟨t,rfl⟩:=rx
 obtain ⟨u,rfl,tu,rfl⟩:=vals1 rv
 rcases ypc z c with ⟨_,h2⟩|⟨r,h1,_⟩
 .exact absurd hm h2
 .refine SC.find ?_
  have e:(Txt.find z ⟨#[c]⟩:Int)=((z.cps.toList.idxOf c:Nat):Int):=by
   unfold Txt.find
   rw [h1]
  rw [e]
  exact ⟨.int _,H,I.tok _,⟨_,rfl⟩,q⟩
variable {pos p apos:Pos}{x m:Str}{e:Expr}{es:List Expr}{aa:XA}{n:Nat}
structure ysY (K:PySem.W.Frag) (C:Addr) (m:Str) (f:Addr):Prop where
 rd:PySem.W.readsIn K C (.type "type")=true
 fc:PySem.W.findCls K (.ref C) (.type "type") m=some (.val (.ref f))
 sp:PySem.W.specialIn K (.ref C) "__getattribute__" = some (some (.builtin "type.__getattribute__"))
 kp:keepIn K (.ref f)=true
theorem ywE {C f:Addr}{k:Nat}{fd:FuncData}{ps:List Str}{sp:Sp}{E:XK}{t:TA}{pl:Sem Bool}{CX:CXT}(c:ysY X.K C m f) (hg:Gl X x) (hm:X.mg x=some (.ref C)) (F:FnOk X.prog X.w X.K X.mg X.base CX k f fd ps sp) (hr:Room k X.A) (hb:Binds X.K fd ps []) (hx:yeh CX X E) (ha:PA X (e::es) t)
  (hd:(x == ("__debug__":Str))=false)
  (hst:starEach (e::es) X.env=(false,eval e X.env)::starEach es X.env) (hpl:(backTo pos (starEach es X.env)).any (·.1)=false)
  (ht:eval (.Call (.Attribute (.Name x p) m apos) (e::es) [] pos) X.env=(do
   let ov <- eval (.Name x p) X.env
   standAt apos.atName
   let (f,first) <- holding [ov] (getMethod ov m pl)
   callWith pos f first (backTo pos (starEach (e::es) X.env)) (backToKw pos (keywordEach [] X.env)))) :
  PE X (.Call (.Attribute (.Name x p) m apos) (e::es) [] pos) (yrB sp [] E t):=by
 intro pins s σ H Q I h
 refine PySem.W.methodCall_KW (pl:=pl) (thn (ype (X:=X) hg hm hd pins s σ H (fun v H1=>v=.ref C/\H1=H) I ⟨rfl,rfl⟩) fun u s1 ⟨v,H1,I1,rx,ex,eh⟩=>?_) ht
 subst ex eh
 obtain rfl:u=Value.ref C:=rx
 refine PySem.W.method_cls I1.kIn c.sp (PySem.W.cls_value I1.kIn c.rd c.fc rfl ?_)
 have I1:=I1.tok (s1.toks+1)
 refine PySem.W.callWith_K (first:=[]) (h₀:=X.base) I.ok.mod.kin c.kp (thn (ha pos pins _ σ H1 _ I1 h) fun us s2 ⟨vs,H2,I2,r,q2⟩=>⟨I2.kIn,?_⟩) hst hpl
 exact yjy (us:=us) (vs:=vs) F hr hb .nil hx I2 r q2
theorem ywF {C f:Addr}{lv k:Nat}{fd:FuncData}{ps:List Str}{fi} {pl:Sem Bool}{o:Expr}{sp:Pos}(c:ysY X.K C m f) (hm:X.mg x=some (.ref C)) (F:FnOk X.prog X.w X.K X.mg X.base CX0 lv f fd ps (spJ (ckX X A) n k fi)) (hb:Binds X.K fd ps []) (ha:ZA X A es n aa) (nm:Nm x:=by exact ⟨by rfl',by rfl',by rfl'⟩) (hg:Gl X x:=by rfl) (hr:Room lv X.A:=by exact hr.mono (by omega)) (ho:PE X o (yol 0):=by exact yhR rfl (by first|exact Or.inl rfl|exact Or.inr (Or.inl rfl)) (by rfl') (by rfl')) (hst:starEach (o::es) X.env=(false,eval o X.env)::starEach es X.env:=by rfl) (hpl:(backTo pos (starEach es X.env)).any (·.1)=false:=by rfl) (ht:eval (.Call (.Attribute (.Name x p) m apos) (o::es) [] pos) X.env=(do
   let ov <- eval (.Name x p) X.env
   standAt apos.atName
   let (f,first) <- holding [ov] (getMethod ov m pl)
   callWith pos f first (backTo pos (starEach (o::es) X.env)) (backToKw pos (keywordEach [] X.env))):=by rfl) (hq:swapsWith (.Call (.Attribute (.Name x p) m apos) (o::es) [] pos) none sp.line X.env=pure false:=by rfl):ZF X A (.Expr (.Call (.Attribute (.Name x p) m apos) (o::es) [] pos) sp) (xBI k fi aa) :=
 wF (yiq (ywE (E:=fun _ _ _=>False) c hg hm F hr hb yiv (ydR ho ha.of hst) nm.d hst hpl ht) hq) (ywn (K:=ckX X A) sA ha.len)
end
section
variable {P:Program}{w:World}{K:PySem.W.Frag}{mg:Str->Option Value}{base:Heap}{A:Nat->Addr}
theorem yEI {x qual:Str}{st:Stmt}{f:Addr}{fd:FuncData}{N ps:List Str}{k kc n:Nat}{s:XS}(F:Fun K x qual st f fd) (S:ydC N ps (yT st)) (hn:ps.length=n+1) (hN:n+1<=N.length)
  (h:∀ (cdv:Value) (Ar:Around) (outer:List Env) (sh:Shared) (H:Hp) (E:XK),Room k (Ar.deeper (envOfC qual (yT st) sh.heap.objs.size f cdv))->ZFs (ylc CX0 P w K mg base N qual (yT st) f cdv Ar outer sh H E).nox A (yeq st) s) :
  FnOk P w K mg base CX0 (k+1) f fd ps (spJ ⟨K,A⟩ n kc (ypz N.length kc s)) :=
 F.ok S (fun _ _ _ _ h=>(ywm h).trans hn.symm) fun cdv Ar outer sh H vs Q E hr hq=>⟨_,(h cdv Ar outer sh H E hr).of,ypR (K:=⟨K,A⟩) hN sF hq⟩
end
end PX
namespace PX
open PySem L2 PySem.Spec PyProof.Rows
section
variable {X:Cx}{A:Nat->Addr}
end
end PX
namespace PX
open PySem L2 PySem.Spec PyProof.Rows
section
variable {prog:Program}{w:World}{A:Around}{E:Value->Shared->Prop}{s:Shared}
end
section
variable {X:Cx}{A:Nat->Addr}
end
end PX
namespace PX
open PySem L2 PySem.Spec PyProof.Rows
open Builtin Builtin.Str in
section
variable {prog:Program}{w:World}{A:Around}{E:Value->Shared->Prop}{s:Shared}
theorem ynS {x y:Str}{t u:Tok}{Q:Value->Shared->Prop}(hy:(y.length == 0)=false) (hz:x.length+2<=sizeLine)
  (h:∀ (l:List (Str×Tok)) (k:Nat),l.map (·.1)=Txt.split x y->Q (.ref s.heap.objs.size) { s with heap:=s.heap.push { cls:=.type "list",data:=.seq (strValues l).toArray },toks:=k }) :
  wpAny (model prog w) A (call (.builtin "str.split") [.str x t,.str y u]) Q E s:=by
 have h2:(partsBetween x (occurrences x y 0 x.length (x.length+1)) y.length).length<=sizeLine:=by
  have:=StrLaws.occ_length_le x y 0 x.length (x.length+1)
  rw [length_partsBetween]
  omega
 by_cases c1:(decide (x.length<y.length) || decide (strKind x<strKind y))=true
 .exact call_meets F.slot_str_split (typeIs_str _ _ _) F.entry_str_split (F.args_str_split_2 _ _) (meets_str_split_cannot_occur x y t u c1) (h [(x,t)] s.toks (if_pos c1).symm)
 .have c1':(decide (x.length<y.length) || decide (strKind x<strKind y))=false:=by simpa using c1
  by_cases c2:(occurrences x y 0 x.length (x.length+1)).isEmpty=true
  .exact call_meets F.slot_str_split (typeIs_str _ _ _) F.entry_str_split (F.args_str_split_2 _ _) (meets_str_split_not_found x y t u c1' hy c2) (h [(x,t)] s.toks ((if_neg c1).trans (if_pos c2)).symm)
  .refine call_meets F.slot_str_split (typeIs_str _ _ _) F.entry_str_split (F.args_str_split_2 _ _) (meets_str_split_sep x y t u c1' hy (by simpa using c2) (by omega) h2) ?_
   show wants Q E _ { s with toks:=_,heap:=s.heap.push { cls:=.type "list",data:=.seq (strsFrom s.toks (partsBetween x (occurrences x y 0 x.length (x.length+1)) y.length)).toArray } }
   rw [strsFrom_eq]
   exact h _ _ ((numbered_texts _ _).trans ((if_neg c1).trans (if_neg c2)).symm)
end
theorem ymY (z:Str):Txt.split z " " = ypT z:=by
 have e:(" ":Str)=⟨#[32]⟩:=by rfl'
 have h:=ygV (Txt.split z " ") (fun q=>by have:=split_pos z " ";rw [q] at this;simp at this) (by rw [e];exact StrLaws.split_free z 32)
 rw [StrLaws.join_split] at h
 exact h.symm
theorem yks:∀ (l:List (Str×Tok)),Vals ((l.map (·.1)).map V.str) (strValues l)
 | []=>.nil
 | (_,t)::l=>.cons ⟨t,rfl⟩ (yks l)
section
variable {X:Cx}{A:Nat->Addr}
theorem ysZ:MtR X "str.split" yuq:=by
 intro pins s σ H x xs v us Q I rx rv h
 obtain ⟨z,rfl,rfl,hz,q⟩:=h
 obtain ⟨t,rfl⟩:=rx
 obtain ⟨u,rfl,ru⟩:=vals1 rv
 obtain ⟨t',rfl⟩:=ru
 have hs:z.length+2<=sizeLine:=by simp only [PySem.sizeLine_eq];omega
 refine ynS (by decide) hs fun l k e=>?_
 have e2:l.map (·.1)=ypT z:=e.trans (ymY z)
 have e3:=split_le z " "
 rw [ymY] at e3
 refine ⟨.ref s.heap.objs.size,_,I.laid (t':=k) (o:=.lst ((ypT z).map V.str)) (fun b o e=>Heap.get?_push_of_some _ e) (Nat.le_refl _) ?_,rfl,q _ (I.hok.fresh (Nat.le_refl _))⟩
 exact ⟨by rw [length_map];exact Nat.le_trans e3 hs,strValues l,0,e2 ▸ yks l,Heap.get?_push_size _ rfl⟩
end
section
variable {X:Cx}{pins:List (Addr×Obj)}{σ:L2.St}{H:Hp}{s:Shared}{h':Heap}
end
section
variable {X:Cx}{A:Nat->Addr}{elts:List Expr}{x1:Nat}{tp p pos:Pos}{a b:Expr}{aa:XA}{n:Nat}
end
section
variable {X:Cx}{A:Nat->Addr}{pos:Pos}
end
end PX
namespace PX
open PySem L2 PySem.Spec PyProof.Rows
section
variable {X:Cx}{A:Nat->Addr}{a:Expr}{es:List Expr}{p pos:Pos}{x:Str}{aa:XA}{n lv:Nat}{f:Addr}{fd:FuncData}{ps:List Str}{fn:Fn}
end
end PX
namespace PX
open PySem L2 PySem.Spec PyProof.Rows
section
variable {X:Cx}{A:Nat->Addr}{tg a b c:Expr}{p pos:Pos}{aa:XA}{n:Nat}
end
end PX
namespace PX
open PySem L2 PySem.Spec PyProof.Rows
section
variable {X:Cx}{A:Nat->Addr}{tg a:Expr}{p pos:Pos}{xa:XE}{x:Str}{es:List Expr}{aa:XA}{n:Nat}
theorem yql {f:Addr}{fd:FuncData}{ps:List Str}{lv k:Nat}{fn:Fn}(M:Mk X.K (A k) f) (F:FnOk X.prog X.w X.K X.mg X.base CX0 lv f fd ps (spE (ckX X A) (n+1+1) fn)) (hm:X.mg x=some (.ref (A k))) (hb:Binds X.K fd ps []) (ha:ZA X A (a::es) (n+1) aa) (hr:Room (lv+1) X.A:=by exact hr.mono (by omega)) (m:Nm x:=by exact ⟨by rfl',by rfl',by rfl'⟩) (hg:Gl X x:=by rfl) (he:starEach (a::es) X.env=(false,eval a X.env)::starEach es X.env:=by rfl) (hpl:(backTo pos (starEach es X.env)).any (·.1)=false:=by rfl):ZE X A (.Call (.Name x p) (a::es) [] pos) (ygW k fn aa) :=
 wE (yoR M F hr hg hm hb .nil yiv ha.of m.d he hpl) (ypW (K:=ckX X A) (k:=k) sA ha.len)
theorem ymZ (hc:X.calm=true):yek X (.builtin "any") yEj:=by
 intro pins s σ H xs us Q I r h
 obtain ⟨p,bs,rfl,hp,q⟩:=h
 obtain ⟨u,rfl,rx⟩:=vals1 r
 cases rx
 obtain ⟨its,n,rv,e,hz⟩:=I.lst hp
 have eb:=yiw rv
 subst eb
 have hl:s.heap.IsList p (bs.map Value.bool).toArray:=⟨_,e,rfl,n,rfl⟩
 have hlt:p<s.heap.objs.size:=Heap.lt_size e
 refine call_any_walk (wpAny_pyIter_list hl ?_)
 refine ⟨s.heap.objs.size,[s.heap.objs.size,p],[s.heap.objs.size],(bs.map Value.bool).toArray.size,_,_,fun i=>(bs[i]?).getD false,rfl,Walks.list (A:=X.A.in1) (I.ok.hd hc) _ p (ne_of_lt hlt) _,
  ⟨⟨_,Heap.get?_push_size _ rfl,rfl,rfl⟩,hl.push _⟩,fun i v s' Q' E' hP hQ=>?_,fun h' tk hk=>?_⟩
 .have hP:(bs.map Value.bool)[i]?=some v:=by simpa using hP
  rw [getElem?_map] at hP
  cases eb:bs[i]? with
  | none=>rw [eb] at hP;cases hP
  | some b =>
   rw [eb] at hP
   cases hP
   simp only [eb,Option.getD_some] at hQ
   exact wpAny_truthy_bool hQ
 .have ea:((List.range (bs.map Value.bool).toArray.size).any fun i=>(bs[i]?).getD false)=bs.any id:=by
   rw [size_toArray,length_map]
   exact LSm.range_any bs
  rw [ea]
  exact ⟨.bl _,H,I.kept (t':=tk) fun b o eo=>hk b o (fun hm=>by rw [List.mem_singleton.mp hm] at eo;exact absurd (Heap.lt_size eo) (lt_irrefl _)) (Heap.get?_push_of_some _ eo),rfl,q⟩
theorem ywG {elt iter:Expr}{px:Pos}{scope:Scope}{cpos:Pos}{xe:XE}{ix:List Nat}(fr:List Str) (hi:ZE X A iter xa) (he:∀ (cl:List (Str×Addr)) (C:Addr) (s₃:Shared) (H₃:Hp) (fp:List Addr) (pins:List (Addr×Obj)),ZE (cxC X scope cl C (x::fr) s₃ H₃ fp pins) A elt xe) (hc:X.calm=true:=by rfl) (hfr:FrOk X scope ix fr:=by repeat' first|exact True.intro|exact rfl|refine And.intro ?_ ?_) (hnd:(x::fr).Nodup:=by rfl') (hkind:scope.kind=.function:=by rfl) (hcell:∀ y∈scope.names,y.2≠.cell:=by rfl') (hnames:∀ y∈scope.names,y.2=.local->scope.names.lookup y.1=some .local:=by rfl') (hfree0:∀ y∈scope.names,y.2=.free->y.1∈fr:=by rfl') (hx:scope.names.lookup x=some .local:=by rfl) (hs:∀ v,foldedSetIterable iter X.env v=pure v:=by exact fun _=>rfl):ZO X A (.ListComp elt [⟨.Name x px,iter,[],0⟩] scope cpos) (yko xa ix xe) :=
 wO (ywp (yiQ ix fr hc (yla hi.of) hfr (te:=cE (ckX X A) xe) (fun cl C s₃ H₃ fp pins=>(he cl C s₃ H₃ fp pins).of) (fun _ _ _ _ _ _=>.nil) hnd hkind hcell hnames hfree0 hx hs)) (ypX (K:=ckX X A) ix sE sE)
end
end PX
namespace PX
open PySem L2 PySem.Spec PyProof.Rows KasS PXS
section
variable {X:Cx}{A:Nat->Addr}{xa:XE}{x:Str}
theorem ywH {elt iter:Expr}{px:Pos}{scope:Scope}{cpos:Pos}{xe:XE}{ix:List Nat}(fr:List Str) (hi:ZE X A iter xa) (he:∀ (cl:List (Str×Addr)) (C:Addr) (s₃:Shared) (H₃:Hp) (fp:List Addr) (pins:List (Addr×Obj)),ZE (cxC X scope cl C (x::fr) s₃ H₃ fp pins) A elt xe) (hc:X.calm=true:=by rfl) (hfr:FrOk X scope ix fr:=by repeat' first|exact True.intro|exact rfl|refine And.intro ?_ ?_) (hnd:(x::fr).Nodup:=by rfl') (hkind:scope.kind=.function:=by rfl) (hcell:∀ y∈scope.names,y.2≠.cell:=by rfl') (hnames:∀ y∈scope.names,y.2=.local->scope.names.lookup y.1=some .local:=by rfl') (hfree0:∀ y∈scope.names,y.2=.free->y.1∈fr:=by rfl') (hx:scope.names.lookup x=some .local:=by rfl) (hs:∀ v,foldedSetIterable iter X.env v=pure v:=by exact fun _=>rfl):ZO X A (.ListComp elt [⟨.Name x px,iter,[],0⟩] scope cpos) (yid xa ix xe):=by
 have pe:PE X (.ListComp elt [⟨.Name x px,iter,[],0⟩] scope cpos) (yur (NF X) (cE (ckX X A) xa) ix (cE (ckX X A) xe)):=by
  intro pins s σ H Q I h
  refine thn (ywp (yiQ ix fr hc (ywC hi.of) hfr (te:=cE (ckX X A) xe) (fun cl C s₃ H₃ fp pins=>(he cl C s₃ H₃ fp pins).of) (fun _ _ _ _ _ _=>.nil) hnd hkind hcell hnames hfree0 hx hs) pins s σ H _ I h) fun v s1 ⟨y,H1,I1,r1,d,ob,kvs,nf,hd,q⟩=>?_
  exact ⟨y,_,yEl (u1:=.dK kvs) I1 hd (fun _ z=>by cases z) (fun _ z=>by cases z) (fun _ z=>by cases z) nf fun x=>x.2,r1,q⟩
 exact wO pe (ypY (K:=ckX X A) ix sE sE)
end
end PX
namespace PX
open PySem L2 PySem.Spec PyProof.Rows KasS PXS
section
variable {X:Cx}{A:Nat->Addr}{elts:List Expr}{x1:Nat}{tp pos apos cpos:Pos}{a:Expr}{xa:XE}
end
end PX
namespace PX
open PySem L2 PySem.Spec PyProof.Rows
section
variable (K:Ck) (E:XK)
noncomputable def cR (r:XR):TE:=fun σ H _=>∃ (W0 W:Wd) (ρ:PSt) (c:Str) (h':AH),W.H=H/\Good K W0 W ρ σ/\r ρ W.h=some (c,h')/\∀ W' a,W'.h=h'->Le K W W'->W'.H a=none->E (.ref (xAd K.K c)) (some a) W'.H
noncomputable def cRS (r:XR):TS:=fun _ σ H=>∃ (W0 W:Wd) (ρ:PSt) (c:Str) (h':AH),W.H=H/\Good K W0 W ρ σ/\r ρ W.h=some (c,h')/\∀ W' a,W'.h=h'->Le K W0 W'->W'.H a=none->E (.ref (xAd K.K c)) (some a) W'.H
end
noncomputable def spR (K:Ck) (n:Nat) (f:FnR):Sp:=fun vs H _ E=>∃ (W:Wd) (xs:List PV) (c:Str) (h':AH),W.H=H/\WOk K W/\ycj K W xs vs/\xs.length=n/\f xs W.h=some (c,h')/\∀ W' a,W'.h=h'->Le K W W'->W'.H a=none->E (.ref (xAd K.K c)) (some a) W'.H
theorem ywI {K:Ck}{n:Nat}{f:FnR}{vs:List V}{H:Hp}{Q:VK}{E:XK}(h:spR K n f vs H Q E):vs.length=n:=by
 obtain ⟨W,xs,c,h',rfl,w,r,hn,_⟩:=h
 rw [r.len,hn]
structure YE (X:Cx) (A:Nat->Addr) (E:XK) (e:Expr) (r:XR):Prop where of:PE X e (cR (ckX X A) E r)
structure YS (X:Cx) (A:Nat->Addr) (E:XK) (e:Stmt) (r:XR):Prop where of:PS X e (cRS (ckX X A) E r)
structure YSs (X:Cx) (A:Nat->Addr) (E:XK) (e:List Stmt) (r:XR):Prop where of:PSs X e (cRS (ckX X A) E r)
section
variable {X:Cx}{A:Nat->Addr}{E:XK}{o e a:Expr}{es:List Expr}{xa xb:XE}{aa:XA}{pos apos pos' p:Pos}{m f x:Str}{n k kc:Nat}{c:Str}{pl:Sem Bool}{fa:Addr}{fd:FuncData}{ps:List Str}{r r':XR}{rf:FnR}{lv:Nat}{st:Stmt}{rest:List Stmt}{s:XS}{xc:XT}
theorem yqm (ho:YE X A E o r) (hb:attributeBase o f X.env (eval o X.env)=eval o X.env:=by rfl):YE X A E (.Attribute o f pos) r:=⟨fun pins s σ H Q I h=>ytO ho.of hb pins s σ H Q I h⟩
theorem ydD (ho:ZE X A o xa) (hm:Meth X.K (A kc) m fa) (F:FnOk X.prog X.w X.K X.mg X.base (CXr X.prog X.w) k fa fd ps (spR (ckX X A) (n+1) rf)) (hb:Binds X.K fd ps []) (ha:ZA X A (e::es) n aa) (hp:yeh (CXr X.prog X.w) X E:=by exact ywJ) (c:Cls X.K (A kc):=by exact T.cl _) (hr:Room k X.A:=by exact hr.mono (by omega)) (hst:starEach (e::es) X.env=(false,eval e X.env)::starEach es X.env:=by rfl) (hpl:(backTo pos (starEach es X.env)).any (·.1)=false:=by rfl) (ht:eval (.Call (.Attribute o m apos) (e::es) [] pos) X.env=(do
   let ov <- eval o X.env
   standAt apos.atName
   let (f,first) <- holding [ov] (getMethod ov m pl)
   callWith pos f first (backTo pos (starEach (e::es) X.env)) (backToKw pos (keywordEach [] X.env))):=by rfl) :
  YE X A E (.Call (.Attribute o m apos) (e::es) [] pos) (ydl kc m rf xa aa):=⟨fun pins s σ H Q I h=>by
 refine yoQ ho.of c hm F hr hb .nil hp ha.of hst hpl ht pins s σ H Q I ?_
 obtain ⟨W0,W,ρ,c,h',rfl,g,er,q⟩:=h
 obtain ⟨x,h1,e1,f1⟩:=yg er
 refine ⟨W0,W,ρ,x,h1,rfl,g,e1,fun v W1 w1 l1 r1=>?_⟩
 subst w1
 split at f1
 .rename_i k' ns xs hi
  split at f1
  .rename_i hc
   obtain ⟨ys,h2,e2,f2⟩:=yg f1
   obtain ⟨p,dx,vs,ev,hp,hl,rs⟩:=yes l1.ok hi r1
   rw [hc.1] at hp
   refine ⟨p,dx,_,ev,hp,ycn hc.2,?_⟩
   refine ⟨W0,W1,ρ,ys,h2,rfl,g.step l1,e2,fun us W2 w2 l2 r2=>?_⟩
   subst w2
   rw [append_nil]
   exact ⟨W2,x::ys,c,h',rfl,l2.ok,⟨v,us,rfl,l2.rep r1,r2⟩,by rw [length_cons,ha.len _ _ _ _ e2],f2,fun W' a w3 l3 n=>q W' a w3 ((l1.trans l2).trans l3) n⟩
  .cases f1
 .cases f1⟩
theorem yqn {sp:Sp}(ho:YE X A E o r) (hm:Meth X.K (A kc) m fa) (F:FnOk X.prog X.w X.K X.mg X.base CX0 k fa fd ps sp) (hb:Binds X.K fd ps []) (c:Cls X.K (A kc):=by exact T.cl _) (hr:Room k X.A:=by exact hr.mono (by omega)) (ht:eval (.Call (.Attribute o m apos) [] [] pos) X.env=(do
   let ov <- eval o X.env
   standAt apos.atName
   let (f,first) <- holding [ov] (getMethod ov m pl)
   callWith pos f first (backTo pos (starEach [] X.env)) (backToKw pos (keywordEach [] X.env))):=by rfl) :
  YE X A E (.Call (.Attribute o m apos) [] [] pos) r:=⟨fun pins s σ H Q I h=>ymo ho.of c hm F hr hb .nil yiv ht pins s σ H Q I h⟩
theorem yzM {K:Ck}{σ:L2.St}{H:Hp}{D:Ends}{Q:VK}(h:cRS K E r D σ H):cR K E r σ H Q:=by
 obtain ⟨W0,W,ρ,c,h',rfl,g,er,q⟩:=h
 exact ⟨W0,W,ρ,c,h',rfl,g,er,fun W' a w l n=>q W' a w (g.le.trans l) n⟩
theorem yfC (h:YE X A E e r):YS X A E (.Return (some e) pos) r:=⟨fun pins s σ H D I q=>ytI h.of pins s σ H D I (yzM q)⟩
theorem yzN {i:Nat}(h:YE X A E e r) (hi:X.N[i]?=some x:=by rfl) (hN:X.N.Nodup:=by exact nd) (hx:Loc X.env.scope x:=by first|exact Or.inl rfl|exact Or.inr rfl) (hs:swapsWith e (some (.Name x pos')) pos.line X.env=pure false:=by rfl) (hf:X.fn x=true\/X.env.scope.names.lookup x=some .local:=by exact Or.inl rfl):YS X A E (.Assign [.Name x pos'] e pos) r:=⟨fun pins s σ H D I q=>yoy hN hi hx h.of hs hf pins s σ H D I (yzM q)⟩
theorem yta (c':XCls X.K (xAd X.K x)) (hm:X.mg x=some (.ref (xAd X.K x))) (ha:ZE X A e xa) (hE:XEs X E:=by exact yzO) (hx:X.ex=[]:=by rfl) (hc:X.calm=true:=by rfl) (hg:Gl X x:=by rfl) (hst:starEach [e] X.env=[(false,eval e X.env)]:=by rfl) (hd:(x == ("__debug__":Str))=false:=by decide) {np cpos:Pos} :
  YS X A E (.Raise (some (.Call (.Name x np) [e] [] cpos)) none pos) (yus x xa):=⟨fun pins s σ H D I h=>by
 refine yrK c' hE hx hc hg hm ha.of hst hd pins s σ H D I ?_
 obtain ⟨W0,W,ρ,c,h',rfl,g,er,q⟩:=h
 obtain ⟨y,h1,e1,f1⟩:=yg er
 cases f1
 exact ⟨W0,W,ρ,y,_,rfl,g,e1,fun v W' w l rv=>⟨rfl,fun a na=>q W' a w (g.le.trans l) na⟩⟩⟩
theorem yzP:YSs X A E rest rNo:=⟨fun pins s σ H D I h=>by
 obtain ⟨W0,W,ρ,c,h',rfl,g,er,q⟩:=h
 cases er⟩
theorem yDc {T:String}{rr} (hc:yek X (.type T) rr) (hm:X.mg x=none) (ha:YE X A E a r) (m:Nm x:=by exact ⟨by rfl',by rfl',by rfl'⟩) (hg:Gl X x:=by rfl) (hv:bootBuiltins x=some (.type T):=by rfl') (he:starEach [a] X.env=(false,eval a X.env)::starEach [] X.env:=by rfl) (hpl:(backTo pos (starEach [] X.env)).any (·.1)=false:=by rfl):YE X A E (.Call (.Name x p) [a] [] pos) r:=⟨fun pins s σ H Q I h=>by
 exact ygH hc hg hm hv (ydR ha.of yge he) m.n m.d he hpl pins s σ H Q I h⟩
theorem ykt {tt:List Stmt}{cc:Expr}(hc:ZT X A cc xc) (ha:YSs X A E tt r) (hb:YSs X A E rest r'):YSs X A E (.If cc tt [] pos::rest) (rIf xc r r'):=⟨fun pins s σ H D I h=>by
 refine ygA (yya hc.of ha.of yot) hb.of pins s σ H D I ?_
 obtain ⟨W0,W,ρ,c,h',rfl,g,er,q⟩:=h
 obtain ⟨b,h1,e1,f1⟩:=yg er
 refine ⟨W0,W,ρ,b,h1,rfl,g,e1,fun W1 w1 l1=>?_⟩
 subst w1
 cases b with
 | true=>exact ⟨W0,W1,ρ,c,h',rfl,g.step l1,f1,q⟩
 | false=>exact ⟨W0,W1,ρ,c,h',rfl,g.step l1,f1,q⟩⟩
theorem ycq (h:YS X A E st r):YSs X A E (st::rest) r:=⟨fun pins s σ H D I q=>ygA h.of yox pins s σ H D I q⟩
end
section
variable {P:Program}{w:World}{K:PySem.W.Frag}{mg:Str->Option Value}{base:Heap}{A:Nat->Addr}
theorem yfn {x qual:Str}{st:Stmt}{f:Addr}{fd:FuncData}{N ps:List Str}{k:Nat}{r:XR}(F:Fun K x qual st f fd) (S:ydC N ps (yT st))
  (h:∀ (cdv:Value) (Ar:Around) (outer:List Env) (sh:Shared) (H:Hp) (E:XK),Room k (Ar.deeper (envOfC qual (yT st) sh.heap.objs.size f cdv))->YSs (ylc (CXr P w) P w K mg base N qual (yT st) f cdv Ar outer sh H E) A E (yeq st) r) :
  FnOk P w K mg base (CXr P w) (k+1) f fd ps (spR ⟨K,A⟩ ps.length (ysO N.length r)):=by
 obtain ⟨oc,od,kV,doc,pm,an,cdv,ct,osl,rfl,lk,hcd⟩:=F.ex
 refine yyh lk hcd S (fun _ _ _ _ h=>ywI h) fun Ar outer s H vs Q E hr hsp=>?_
 refine ⟨_,(h cdv Ar outer s H E hr).of,?_⟩
 obtain ⟨W,xs,c,h',rfl,wo,rp,_,er,q⟩:=hsp
 exact ⟨W,W,_,c,h',rfl,yeF wo rp,er,q⟩
theorem yzO {N:List Str}{qual:Str}{scope:Scope}{f:Addr}{cd:Value}{Ar:Around}{outer:List Env}{s:Shared}{H:Hp}{E:XK}:XEs (ylc (CXr P w) P w K mg base N qual scope f cd Ar outer s H E) E:=fun _ _ _ _ _ F q=>ytU F q
theorem ywJ {N:List Str}{qual:Str}{scope:Scope}{f:Addr}{cd:Value}{Ar:Around}{outer:List Env}{s:Shared}{H:Hp}{E:XK}:yeh (CXr P w) (ylc (CXr P w) P w K mg base N qual scope f cd Ar outer s H E) E:=yyt fun _ _ _ q=>q
end
end PX
namespace L2
open PySem PySem.Spec PyProof.Rows
section
variable {X:Cx}{CX:CXT}{k:Nat}{f:Addr}{fd:FuncData}{ps:List Str}{sp:Sp}{dvs:List V}{ds:List Value}{E:XK}
theorem ywK {pins:List (Addr×Obj)}{σ:St}{H:Hp}{s:Shared}{Q:VK}{us:List Value}{vs:List V}{XE:Value->Shared->Prop}(F:FnOk X.prog X.w X.K X.mg X.base CX k f fd ps sp) (hr:Room k X.A) (hb:Binds X.K fd ps ds) (hd:Vals dvs ds)
  (I:Inv X pins σ H s) (r:Vals vs us) (h:sp (vs++dvs) H Q E) (hx:∀ e s',CX X.stack H s E e s'->XE e s'):wpAny (model X.prog X.w) X.A (call (.ref f) us) (EP X pins σ Q) XE s:=by
 have r2:Vals (vs++dvs) (us++ds):=r.append hd
 have hl:(us++ds).length=ps.length:=by rw [<- r2.length];exact F.len _ _ _ _ h
 refine wpAny_call (codeAny_mono (F.run X.A X.stack s H ⟨us,[]⟩ (us++ds) (vs++dvs) Q E hr I.env0 (hb s us I.kIn hl) r2 h) fun r s' hq=>?_)
 cases r with
 | error e=>exact hx e s' hq
 | ok fl =>
  cases fl with
  | ret u=>exact I.after hq
  | next=>exact False.elim hq
  | brk=>exact False.elim hq
  | cont=>exact False.elim hq
end
end L2
namespace PX
open PySem L2 PySem.Spec PyProof.Rows
structure YB (X:Cx) (A:Nat->Addr) (b:List Stmt) (r:XR):Prop where of:BX X b (fun E σ H=>cR (ckX X A) E r σ H fun _ _=>False)
section
variable {X:Cx}{A:Nat->Addr}{e a:Expr}{es:List Expr}{aa:XA}{pos epos p:Pos}{x n:Str}{N lv i:Nat}{fa:Addr}{fd:FuncData}{ps:List Str}{r:XR}{rf:FnR}{s:XS}{body suite:List Stmt}{b₀:Stmt}
theorem ywL (F:FnOk X.prog X.w X.K X.mg X.base (CXr X.prog X.w) lv fa fd ps (spR (ckX X A) (N+1) rf)) (hm:X.mg x=some (.ref fa)) (hk:keepIn X.K (.ref fa)=true) (hb:Binds X.K fd ps [])
  (ha:∀ xe,ZA (X.wX xe) A (a::es) (N+1) aa) (hr:Room lv X.A:=by exact hr.mono (by omega)) (m:Nm x:=by exact ⟨by rfl',by rfl',by rfl'⟩) (hg:Gl X x:=by rfl) (he:starEach (a::es) X.env=(false,eval a X.env)::starEach es X.env:=by rfl) (hpl:(backTo pos (starEach es X.env)).any (·.1)=false:=by rfl) (hs:swapsWith (.Call (.Name x p) (a::es) [] pos) none epos.line X.env=pure false:=by rfl) :
  YB X A [.Expr (.Call (.Name x p) (a::es) [] pos) epos] (ysN rf aa):=⟨fun pins s σ H E XE I h hx=>by
 obtain ⟨W0,W,ρ,c,h',rfl,g,er,q⟩:=h
 obtain ⟨xs,h1,e1,e2⟩:=yg er
 refine wpAny_execs_cons (thn (wpAny_Expr_any (Q:=fun _ _=>False) ?_ I.quiet hs) fun _ _ z=>z.elim)
 refine wpAny_Call_Name_kw (yeo I hg hm ?_ m.d)
 refine PySem.W.callWith_K (h₀:=X.base) I.ok.mod.kin hk (thn ((ha XE).of pos pins s σ W.H (fun vs H1=>spR (ckX X A) (N+1) rf (vs++[]) H1 (fun _ _=>False) E) I.wX ⟨W0,W,ρ,xs,h1,rfl,g,e1,fun vs W1 w1 l1 r1=>?_⟩) fun us s1 ⟨vs,H1,I1,r,q⟩=>⟨I1.kIn,?_⟩) he hpl
 .subst w1
  rw [append_nil]
  exact ⟨W1,xs,c,h',rfl,l1.ok,r1,(ha XE).len _ _ _ _ e1,e2,fun W' a w2 l2 n=>q W' a w2 (l1.trans l2) n⟩
 .have I2:=I1.unX I.ok
  exact thn (ywK F hr hb .nil I2 r q fun e s' z=>hx _ _ e s' I2 z) fun _ _ ⟨_,_,_,_,z⟩=>z.elim⟩
theorem Good.unset {K:Ck}{W0 W:Wd}{ρ:PSt}{σ:L2.St}(g:Good K W0 W ρ σ) (i:Nat):Good K W0 W (ρ.set i .no) (σ.set i none) where
 le:=g.le
 len:=by rw [length_set,length_set];exact g.len
 val:=fun j x e=>by
  by_cases q:i=j
  .subst q
   rw [List.getElem?_set] at e
   simp at e
  .rw [getElem?_set_ne q] at e
   obtain ⟨v,h1,h2⟩:=g.val j x e
   exact ⟨v,by rw [getElem?_set_ne q];exact h1,h2⟩
 own:=fun j d e=>by
  by_cases q:i=j
  .subst q
   rw [List.getElem?_set] at e
   simp at e
  .rw [getElem?_set_ne q] at e
   obtain ⟨p,h1,h2⟩:=g.own j d e
   exact ⟨p,by rw [getElem?_set_ne q];exact h1,h2⟩
 ne:=fun j k d d' hjk e1 e2=>by
  by_cases q:i=j
  .subst q
   rw [List.getElem?_set] at e1
   simp at e1
  .by_cases q':i=k
   .subst q'
    rw [List.getElem?_set] at e2
    simp at e2
   .rw [getElem?_set_ne q] at e1
    rw [getElem?_set_ne q'] at e2
    rw [getElem?_set_ne q,getElem?_set_ne q']
    exact g.ne j k d d' hjk e1 e2
theorem yzQ {cs:List Str}{np hpos:Pos}(hb:YB X A body r) (hs:∀ a xe,ZSs (X.inX a xe) A (b₀::suite) s) (hc:∀ k∈cs,XSub X.K (xAd X.K k) (xAd X.K x)) (hm:X.mg x=some (.ref (xAd X.K x))) (hg:Gl X x:=by rfl) (hN:X.N.Nodup:=by exact nd) (hi:X.N[i]?=some n:=by rfl) (hk:X.env.scope.names.lookup n=some .local:=by rfl)
  (hst:X.stack=X.env::X.outer:=by rfl) (hL:X.env.frame=some X.env.locals:=by rfl) (hd:(x == ("__debug__":Str))=false:=by decide) :
  ZS X A (.Try body [.ExceptHandler (some (.Name x np)) (some n) (b₀::suite) hpos] [] [] pos) (yxA cs i r s):=⟨fun pins sh σ H D I h=>by
 refine yyx (t:=fun E σ H=>cR (ckX X A) E r σ H fun _ _=>False) (ts:=cS (ckX X A) s) hb.of (fun a xe=>(hs a xe).of) hg hm hN hi hk hst hL hd pins sh σ H D I ?_
 obtain ⟨W0,W,ρ,o,h',rfl,g,er,q⟩:=h
 unfold yxA at er
 split at er
 .rename_i c' h1 e1
  split at er
  .rename_i hc'
   split at er
   .rename_i ρ' h2 e2
    cases er
    refine ⟨W0,W,ρ,c',h1,rfl,g,e1,fun W' a w l na=>⟨xAd X.K c',a,rfl,rfl,hc c' hc',?_⟩⟩
    subst w
    have l2:=ylz (o:=ExO (xAd X.K c') a) l.ok na
    refine ⟨W0,ytW W' a (ExO (xAd X.K c') a),ρ.set i (.val (.exc c')),.nx ρ',h',rfl,((g.step l).step l2).set i ⟨a,rfl,yr⟩,e2,fun W2 σ2 w2 f2 g2=>?_⟩
    exact q W2 _ w2 ((l.trans l2).lf.trans f2) (g2.unset i)
   .cases er
  .cases er
 .cases er⟩
theorem yif {K:Ck}{tb:List (Nat×Nat×Bool)}{xc:List (Str×Str×Bool)}{xy:List (Str×String×Bool)}(ht:∀ r∈tb,∀ (H:Hp) (a dx:Addr) (fs:List (Str×V)),H a=some (.ins (K.A r.1) dx fs)->IsI K.K H (.ref a) (.ref (K.A r.2.1)) r.2.2)
  (hx:∀ r∈xc,(∀ a,PySem.W.KitX K.K (.ref a) (.ref (xAd K.K r.1)) (fun h=>∃ ox,PySem.W.InstAt h a ox (xAd K.K r.1) none))/\PySem.W.kitOne K.K (.ref (xAd K.K r.1)) (.ref (xAd K.K r.2.1))=some r.2.2)
  (hy:∀ r∈xy,(∀ a,PySem.W.KitX K.K (.ref a) (.ref (xAd K.K r.1)) (fun h=>∃ ox,PySem.W.InstAt h a ox (xAd K.K r.1) none))/\PySem.W.kitOne K.K (.ref (xAd K.K r.1)) (.type r.2.1)=some r.2.2):yfR K (yyw K.K) (yfz tb xc xy):=by
 intro W xs vs Q z h' w r e q
 unfold yfz at e
 split at e
 .rename_i k c
  split at e
  .rename_i b hb
   cases e
   obtain ⟨v,u,rfl,⟨a,rfl,ha⟩,ru⟩:=yEb r
   refine .inr ⟨a,xAd K.K k,u,?_⟩
   unfold yzE at hb
   split at hb
   .rename_i c'
    obtain ⟨⟨k1,c1,b1⟩,hf,rfl⟩:=Option.map_eq_some_iff.mp hb
    have hm:=List.mem_of_find?_eq_some hf
    have hp:=List.find?_some hf
    simp only [and_eq_true,beq_iff_eq] at hp
    obtain ⟨rfl,rfl⟩:=hp
    obtain ⟨g1,g2⟩:=hx _ hm
    obtain rfl:u=.ref (xAd K.K c1):=ru
    exact ⟨_,_,rfl,w.le _ _ ha,g1 a,rfl,g2,q _ W rfl (.refl w) rfl⟩
   .rename_i n'
    obtain ⟨⟨k1,c1,b1⟩,hf,rfl⟩:=Option.map_eq_some_iff.mp hb
    have hm:=List.mem_of_find?_eq_some hf
    have hp:=List.find?_some hf
    simp only [and_eq_true,beq_iff_eq] at hp
    obtain ⟨rfl,rfl⟩:=hp
    obtain ⟨g1,g2⟩:=hy _ hm
    obtain rfl:u=.ty c1:=ru
    exact ⟨_,_,rfl,w.le _ _ ha,g1 a,rfl,g2,q _ W rfl (.refl w) rfl⟩
   .cases hb
  .cases e
 .exact .inl (yfa ht W xs vs Q z h' w r e q)
theorem yku (hm:X.mg x=some (.ref (xAd X.K x))) (m:Nm x:=by exact ⟨by rfl',by rfl',by rfl'⟩) (hg:Gl X x:=by rfl):ZE X A (.Name x pos) (xC (.xcl x)):=wE (yip (v:=.ref (xAd X.K x)) hg hm rfl m.d) (fun W0 W ρ σ Q y h' g e q=>by cases e;exact q _ W rfl (.refl g.ok) rfl)
end
end PX
namespace PX
open PySem L2 PySem.Spec PyProof.Rows
theorem ymA {kvs:List (Key×V)}{k:Key}{v:V}(h:k∉kvs.map (·.1)):putK kvs k v=kvs++[(k,v)]:=by
 unfold putK
 rw [if_neg]
 intro z
 obtain ⟨p,hp,e⟩:=List.any_eq_true.mp z
 exact h (List.mem_map.mpr ⟨p,hp,of_decide_eq_true e⟩)
theorem yig:∀ (more kvs:List (Key×V)),((kvs++more).map (·.1)).Nodup->ygO kvs more=kvs++more
 | [],kvs,_=>by rw [append_nil];rfl
 | (k,v)::r,kvs,h=>by
  have hk:k∉kvs.map (·.1):=by
   rw [map_append,map_cons] at h
   exact fun z=>(List.nodup_append.mp h).2.2 _ z _ mem_cons_self rfl
  show ygO (putK kvs k v) r=_
  rw [ymA hk,yig r (kvs++[(k,v)]) (by rw [append_assoc];exact h),append_assoc]
  rfl
def yDd (K:Ck) (t:List (TE×TE)) (ks:List Str) (a:XA):Prop:=∀ (W0 W:Wd) (ρ:PSt) (σ:L2.St) (Q:List (V×V)->Hp->Prop) (xs:List PV) (h':AH),Good K W0 W ρ σ->a ρ W.h=some (xs,h') ->
 (∀ us W',W'.h=h'->Le K W W'->ycj K W' xs us->us.length=ks.length->Q ((ks.zip us).map fun p=>(.str p.1,p.2)) W'.H)->ymD t σ W.H Q
structure ZPs (X:Cx) (A:Nat->Addr) (pos:Pos) (keys:List (Option Expr)) (values:List Expr) (ks:List Str) (a:XA):Prop where
 of:∃ trs,PPs X pos keys values trs/\yDd (ckX X A) trs ks a
section
variable {X:Cx}{A:Nat->Addr}{pos kpos:Pos}{keys:List (Option Expr)}{values:List Expr}{ks:List Str}{a:XA}{v:Expr}{xv:XE}{k:Str}{j}
theorem ylQ:ZPs X A pos [] [] [] yi:=⟨[],ywa,fun W0 W ρ σ Q xs h' g e q=>by
 cases e
 exact q [] W rfl (.refl g.ok) rfl rfl⟩
theorem ybh (hv:ZE X A v xv) (hr:ZPs X A pos keys values ks a):ZPs X A pos (some (.Constant (.str k) j kpos)::keys) (v::values) (k::ks) (yb xv a):=by
 obtain ⟨trs,h1,h2⟩:=hr.of
 refine ⟨_,yss (ytH (X:=X)) hv.of h1,fun W0 W ρ σ Q xs h' g e q=>?_⟩
 obtain ⟨x,h3,e1,e2⟩:=yg e
 obtain ⟨ys,h4,e3,e4⟩:=yg e2
 cases e4
 refine ⟨W0,W,ρ,x,h3,rfl,g,e1,fun u W1 w1 l1 r1=>?_⟩
 subst w1
 refine h2 W0 W1 ρ σ _ ys h' (g.step l1) e3 fun us W2 w2 l2 r2 hl=>?_
 exact q (u::us) W2 w2 (l1.trans l2) ⟨u,us,rfl,l2.rep r1,r2⟩ (by rw [length_cons,length_cons,hl])
theorem ylR (h:ZPs X A pos keys values ks a) (hall:keys.all (·.isSome)=true:=by rfl) (hl:keys.length=values.length:=by rfl) (h0:keys≠[]:=by exact fun z=>nomatch z) (h15:keys.length<=15:=by decide):ZO X A (.Dict keys values pos) (ykp ks a):=by
 obtain ⟨trs,h1,h2⟩:=h.of
 refine wO (ywb h1 hall hl h0 h15) fun W0 W ρ σ Q d h' g e q=>?_
 obtain ⟨xs,h3,e1,f1⟩:=yg e
 split at f1
 .rename_i c
  cases f1
  intro p hp
  have l1:=ycc (o:=.dK []) g.ok hp
  refine h2 W0 (yfo W p (.dK [])) ρ σ _ xs _ (g.step l1) e1 fun us W2 w2 l2 r2 hl2=>?_
  have hpm:p∉(yfo W p (.dK [])).m:=g.ok.out hp
  have hp1:(yfo W p (.dK [])).H p=some (.dK []):=yr
  have hp2:=l2.keep p _ hp1 hpm
  have hm2:p∉W2.m:=fun z=>by rw [l2.mn p z hpm] at hp1;cases hp1
  have hf2:W2.F p=none:=l2.new p _ hp1 hpm (g.ok.ff hp)
  refine ⟨hp2,((ks.map .inr).zip us),?_,?_,?_⟩
  .rw [List.zip_map_left,map_map]
   rfl
  .rw [length_zip,length_map,hl2,Nat.min_self];exact c.2.2
  .have hz:(((ks.map (Sum.inr:Str->Key)).zip us).map (·.1))=ks.map .inr:=map_fst_zip (by rw [length_map,hl2];exact Nat.le_refl _)
   rw [yig _ [] (by rw [List.nil_append,hz];exact List.Pairwise.map (S:=fun a b:Key=>a≠b) Sum.inr (fun _ _ h z=>h (Sum.inr.inj z)) c.1),List.nil_append]
   exact q p (ypp W2 p (.dK ((ks.map (Sum.inr:Str->Key)).zip us))) w2 (ygL (l1.trans l2) hm2 hf2 hp) hm2 hp (fun z=>by cases z) ⟨hf2,us,yr,by rw [length_map,hl2],r2⟩
 .cases f1
end
end PX
namespace L2
open PySem PySem.Spec PyProof.Rows
abbrev ExB:List Value:=[.type "ValueError",.type "Exception",.type "BaseException",.type "object"]
structure XKit (K:PySem.W.Frag) (D:Addr):Prop where
 ex:PySem.W.excIn K D ExB "ValueError.__new__" = true
 mb:mroIn K D (.type "BaseException")=some true
 ga:findIn K (.ref D) "__getattribute__" = some (some (.builtin "BaseException.__getattribute__"))
 gn:findIn K (.ref D) "__getattr__" = some none
 cl:findIn K (.ref D) "__class__" = some (some (.builtin "object.__class__"))
 mo:mroIn K D (.type "object")=some true
 ty:typeIn K (.ref D)=some (.type "type")
theorem XKit.cls {K:PySem.W.Frag}{D:Addr}(x:XKit K D):XCls K D:=XCls.of x.ex
theorem XKit.kit {K:PySem.W.Frag}{D:Addr}(x:XKit K D) (hn:PySem.W.specialIn K (.builtin "object.__class__") "__get__" = some (some (.builtin "getset_descriptor.__get__"))) (htk:PySem.W.takesIn K (.builtin "object.__class__")=some true) (a:Addr) :
  PySem.W.KitX K (.ref a) (.ref D) (fun h=>∃ ox,PySem.W.InstAt h a ox D none):=by
 have hc:∃ c0 dd cd sl,K.lookup D=some ⟨c0,dd,.cls cd,sl⟩:=by
  have:=x.mo
  unfold mroIn PySem.W.clsIn at this
  split at this
  .rename_i c0 dd cd sl e
   exact ⟨_,_,_,_,e⟩
  .cases this
 obtain ⟨c0,dd,cd,sl,lk⟩:=hc
 refine yrN lk (fun {prog w s A E Q} X q=>PySem.W.looks_mroIn X x.mb A Q E s (fun _ _ e=>e) q) x.ga x.gn ?_ x.mo
 unfold PySem.W.findObj PySem.W.clsIn
 rw [lk,x.cl]
 simp only [bind_some,hn,htk]
theorem yzR {K:PySem.W.Frag}{D:Addr}{T:String}{b:Bool}(hm:PySem.W.kitMeta T=true) (h:mroIn K D (.type T)=some b):PySem.W.kitOne K (.ref D) (.type T)=some b:=by
 unfold PySem.W.kitOne
 rw [if_neg (by intro z;cases eq_of_beq z)]
 show (if _ then _ else _)=_
 rw [if_pos hm]
 exact h
theorem ycr {K:PySem.W.Frag}{n:Str}{D:Addr}(h:nsIn K mainGlobals n=some (some (.ref D))):xAd K n=D:=by
 unfold xAd
 rw [h]
end L2
namespace My
open PySem L2 PX
theorem yEm:("":Str).length=0:=by rfl'
theorem yzS:(" ; ":Str).length=3:=by rfl'
theorem yzT:(" ; put a b":Str).length=10:=by rfl'
theorem yzU:("abcdefgh":Str).length=8:=by rfl'
theorem ywM:("let a ":Str).length=6:=by rfl'
theorem ywN:("let b ":Str).length=6:=by rfl'
theorem ywO:("take b a ; wait":Str).length=15:=by rfl'
theorem yuy {f:Nat->Fn}{h:AH}:ykc "long" f (.ins 9 [] []) h=f 9 [.ins 9 [] []] h:=yfv (by rfl')
theorem ywP {v0 v1:PV}{f:Nat->Fn}{h:AH}:ykc "long" f (.ins 1 ["slot","number"] [v0,v1]) h=f 1 [.ins 1 ["slot","number"] [v0,v1]] h:=yfv (by rfl')
theorem yuz {v0 v1:PV}{f:Nat->Fn}{h:AH}:ykc "long" f (.ins 3 ["slot","place"] [v0,v1]) h=f 3 [.ins 3 ["slot","place"] [v0,v1]] h:=yfv (by rfl')
theorem ywQ {v0 v1:PV}{f:Nat->Fn}{h:AH}:ykc "long" f (.ins 4 ["place","slot"] [v0,v1]) h=f 4 [.ins 4 ["place","slot"] [v0,v1]] h:=yfv (by rfl')
theorem yqo {v0 v1:PV}{h:AH}:yen [10] "words" (.ins 10 ["words","at"] [v0,v1]) h=some (v0,h):=ypE (by decide) (by rfl') (by rw [show idxOf ("words":Str) ["words","at"]=0 by rfl'];rfl)
theorem yuA {v0 v1:PV}{h:AH}:yen [10,12] "at" (.ins 10 ["words","at"] [v0,v1]) h=some (v1,h):=ypE (by decide) (by rfl') (by rw [show idxOf ("at":Str) ["words","at"]=1 by rfl'];rfl)
section
def sl_ (s:String):Array (Lean.TSyntax `Lean.Parser.Tactic.simpLemma):=(s.splitOn " ").toArray.map fun s=>⟨Lean.mkNode `Lean.Parser.Tactic.simpLemma #[Lean.mkNullNode,Lean.mkNullNode,Lean.mkIdent s.toName]⟩
local macro_rules | `(tactic| simp_all? only [$ls,*])=>`(tactic| simp only [$(sl_ "yce yCg yyT yuf yyU x_c yEc yCi yEA yEd yvS yug yyV yyW yCj yEB yCk yEC yCl yyX yCm yCn yBn yCo yCp yCq x_call yED yCr yEE yvT yyY yvU yuh yvV yyZ yCs yza ypC yzb yzc yzd yze yCt yCu yCv yCw yCx yCy yCz x_i yEF ypD yui ykd yzg yCA yCB yCC yCD yCE yCF yzh yzi yCG yzj yCH yCI yCJ yCK yCL yCM yCN yzk yso yzl yzm yzn yvW yuj yuk yCh bind_some Option.bind_none List.set_cons_zero List.set_cons_succ length_cons length_nil decide_eq_true_eq Bool.not_eq_true' decide_eq_false_iff_not if_true if_false ite_true ite_false and_self Int.reducePow Int.reduceToNat Int.reduceLT Int.reduceLE Int.reduceNeg Int.reduceAdd Int.reduceSub Nat.reduceLT Nat.reduceLeDiff Nat.reduceAdd true_and and_true reduceIte Nat.reduceEqDiff eq_self yCV yCR yCS yCT yCU Int.reduceEq Bool.not_true Bool.not_false yzS yzT yzU ywM ywN ywO"),*,$ls,*])
local macro_rules | `(tactic| symm)=>`(tactic| simp_all? only [yce])
def tbO (cs:List Nat):List (Nat×Nat×Bool):=cs.flatMap fun i=>cs.map fun j=>(i,j,i == j)
def ybG:List (Nat×Nat×Bool):=tbO [1,2,3,4,5,6,7,8,9]
noncomputable def ynT:List (Str×Str×Bool):=[("NoHand","NoHand",true),("NoHand","NoHands",false),("NoHand","NoBoxes",false),("NoHand","NoDeed",false),("NoHand","NoRow",false)]
def ynU:List (Str×String×Bool):=[("NoHand","ValueError",true)]
def yeU:List PV->AH->Option (Nd×AH):=ypz 1 11 (yo (ydV [11] 0 "stack" (ygK (yfs (yb (ygK (ypK)) (yi))))) (ydV [11] 0 "last_seen" (ygK (ypK))))
def ydY:Fn:=ybw 4 (yo (yca (xOp (ycC) (ybi [11] "stack" (yf 0)) (xUn yBk (xC (.int 1)))) (yy 3)) (yfx (yf 3) (yf 1) (yf 2)))
def yew:Fn:=ybw 3 (yo (yiO true (ybi [11] "stack" (yf 0)) (yy 2) (ybx (ym (yxx false (yf 1) (yf 2))) (yN (ybn (yf 2) (yf 1))) (yG))) (yN (xC .non)))
def yfD:Fn:=ybw 3 (yfx (ybi [11] "last_seen" (yf 0)) (yf 1) (yf 2))
def yex:Fn:=ybw 1 (yN (xFz (yic (ybi [11] "last_seen" (yf 0)))))
def ydZ:Fn:=ybw 2 (yo (yca (xOp (ycC) (ybi [11] "stack" (yf 0)) (xC (.int 0))) (yy 1)) (yN (xFz (yic (yf 1)))))
def ybt:Fn:=ybw 1 (yN (ygm (xCB (yfT ybG) (yb (yf 0) (yb (xC (.ty "int")) (yi)))) (ylx (xCB (yfT ybG) (yb (yf 0) (yb (xC (.ty "bool")) (yi)))))))
def ycH:Fn:=ybw 1 (yN (ygm (yba ybt (yb (yf 0) (yi))) (yer (oLe) (oLt) (xC (.int 0)) (yf 0) (xC (.int 18446744073709551616)))))
def ydw:Fn:=ybw 2 (yN (xCB (yue) (yb (xFz (yel (xIS (yf 0)) [1] (xOp (yyL) (yf 0) (yf 1)))) (yi))))
def yea:Fn:=ybw 2 (yo (ybx (xOr (yhF (ym (yer (oLe) (oLe) (xC (.int 1)) (xCB (ynI) (yb (yf 0) (yi))) (xC (.int 20))))) (yhF (ym (yba ydw (yb (yf 0) (yb (xC (.str "0123456789")) (yi))))))) (yN (xC .non)) (yG)) (yo (ybx (ynz (ym (xOp (oEq) (xOp (yyN) (yf 0) (xC (.int 0))) (xC (.str "0")))) (ym (xOp (oNe) (yf 0) (xC (.str "0"))))) (yN (xC .non)) (yG)) (yo (yca (xCB (ypy) (yb (yf 0) (yi))) (yy 1)) (yN (xIf (ym (xOp (oLt) (yf 1) (xC (.int 18446744073709551616)))) (yf 1) (xC .non))))))
def yfE:Fn:=ybw 1 (yN (ygm (xOp (oEq) (xCB (ynI) (yb (yf 0) (yi))) (xC (.int 1))) (xOp (yyL) (yf 0) (xC (.str "abcdefgh")))))
def ydx:Fn:=ybw 1 (yN (xBM isStr (ylH) (xC (.str "abcdefgh")) (yb (yf 0) (yi))))
def yey:List PV->AH->Option (Nd×AH):=ypz 3 12 (yo (ydV [12] 0 "held" (ygK (yjY (ybd) (yb (yf 1) (yi))))) (yo (ydV [12,14] 0 "width" (yf 2)) (ydV [12] 0 "log" (ygK (yhH yeU (yi))))))
def ybW:Fn:=ybw 2 (yN (xOp (ycC) (ybi [12] "held" (yf 0)) (yba ydx (yb (yf 1) (yi)))))
def ycI:Fn:=ybw 3 (yfc (ybi [12] "held" (yf 0)) (yba ydx (yb (yf 1) (yi))) (yf 2))
def ybB:Fn:=ybw 2 (yN (xOp oMod (yk 12 "held_in" ybW (yf 0) (yb (yf 1) (yi))) (ybi [12,14] "width" (yf 0))))
def ycs:Fn:=ybw 3 (ycV (yk 11 "write" ydY (ybi [12] "log" (yf 0)) (yb (yk 12 "box_at" ybB (yf 0) (yb (yf 1) (yi))) (yb (yk 12 "held_in" ybW (yf 0) (yb (yf 2) (yi))) (yi)))))
def ycK:Fn:=ybw 2 (yN (xOp (yvO) (yk 11 "own" yew (ybi [12] "log" (yf 0)) (yb (yk 12 "box_at" ybB (yf 0) (yb (yf 1) (yi))) (yi))) (xC .non)))
def ycb:Fn:=ybw 5 (yo (yca (yk 12 "box_at" ybB (yf 0) (yb (yf 2) (yi))) (yy 4)) (yo (ycV (yk 11 "see" yfD (ybi [12] "log" (yf 0)) (yb (yf 4) (yb (xOp (ycC) (yf 3) (yf 4)) (yi))))) (ycV (yk 12 "hold" ycI (yf 0) (yb (yf 1) (yb (xOp (ycC) (yf 3) (yf 4)) (yi)))))))
def ydE:List PV->AH->Option (Nd×AH):=ypz 4 12 (yo (xBI 12 yey (yb (yf 2) (yb (yf 3) (yi)))) (yo (ydV [12] 0 "rows" (yf 1)) (yo (ydV [10,12] 0 "at" (xC (.int 0))) (yo (ydV [12] 0 "seen_stamps" (ygK (ypK))) (ydV [12] 0 "sides" (ygK (yfs (yi))))))))
def ydn:Fn:=ybw 1 (yN (xOp (ycC) (ybi [12] "rows" (yf 0)) (ybi [10,12] "at" (yf 0))))
def ybX:Fn:=ybw 2 (yN (xCB (ysL) (yb (xFz (yid (ybi [12] "seen_stamps" (yf 0)) [1,0] (xOp (oNe) (xOp (ycC) (yf 1) (yf 0)) (ybn (ybi [12] "seen_stamps" (yf 2)) (yf 0))))) (yi))))
def yqp:Fn:=ybw 2 (yo (ybx (ym (xOp (oEq) (xOp (yck) (yf 1) (xC (.int 0))) (xC (.str "wait")))) (yN (xOp (oEq) (xOp (yck) (yf 0) (xC (.int 0))) (xC (.str "either")))) (yG)) (yN (ygm (xOp (oEq) (xOp (yck) (yf 0) (xC (.int 0))) (xC (.str "guard"))) (xOp (oEq) (xOp (yck) (yf 0) (xC (.int 1))) (xOp (yck) (yf 1) (xC (.int 1)))))))
def ybP:Fn:=ybw 3 (yo (yca (xCB (ycD) (yb (ybi [12] "sides" (yf 0)) (yi))) (yy 2)) (yo (yhW 1000 (ynz (ym (xOp (oGt) (yf 2) (xC (.int 0)))) (yhF (ym (yba yqp (yb (xOp (yck) (xOp (ycC) (ybi [12] "sides" (yf 0)) (xOp yvM (yf 2) (xC (.int 1)))) (xC (.int 0))) (yb (yf 1) (yi))))))) (yca (xOp yvM (yf 2) (xC (.int 1))) (yy 2))) (yN (yf 2))))
def loB:XS:=(yo (ybx (ym (xOp (oEq) (xOp (yck) (yf 1) (xC (.int 0))) (xC (.str "take")))) (yN (yk 12 "sees_at" ycK (yf 0) (yb (xOp (yck) (yf 1) (xC (.int 2))) (yi)))) (yG)) (yo (ybx (xOr (ym (xOp (oEq) (xOp (yck) (yf 1) (xC (.int 0))) (xC (.str "wait")))) (ym (xOp (oEq) (xOp (yck) (yf 1) (xC (.int 0))) (xC (.str "throw"))))) (yN (xOp (oEq) (yk 12 "taker_layer" ybP (yf 0) (yb (yf 1) (yi))) (xC (.int 0)))) (yG)) (yN (xOp (oEq) (xOp (yck) (yf 1) (xC (.int 0))) (xC (.str "lay"))))))
def yY:Fn:=ybw 2 (yo (yca (yk 12 "row" ydn (yf 0) (yi)) (yy 1)) loB)
def ycL:Fn:=ybw 5 (yo (yca (yk 12 "row" ydn (yf 0) (yi)) (yy 3)) (yo (yca (yk 12 "box_at" ybB (yf 0) (yb (xOp (yck) (yf 3) (xC (.int 2))) (yi))) (yy 4)) (yo (yfx (ybi [12] "seen_stamps" (yf 0)) (yf 4) (xOp (ycC) (yf 2) (yf 4))) (yo (ycV (yk 12 "take_seen" ycb (yf 0) (yb (xOp (yck) (yf 3) (xC (.int 1))) (yb (xOp (yck) (yf 3) (xC (.int 2))) (yb (yf 1) (yi)))))) (yo (ycW [10,12] "at" (yf 0) (xOp yjr (ybi [10,12] "at" (yf 0)) (xC (.int 1)))) (yN (yf 4)))))))
def yO:Fn:=ybw 2 (ybx (ym (xOp (oEq) (xOp (yck) (yf 1) (xC (.int 0))) (xC (.str "let")))) (ycV (yk 12 "hold" ycI (yf 0) (yb (xOp (yck) (yf 1) (xC (.int 1))) (yb (xOp (yck) (yf 1) (xC (.int 2))) (yi))))) (ybx (ym (xOp (oEq) (xOp (yck) (yf 1) (xC (.int 0))) (xC (.str "take")))) (ybK) (ybx (ym (xOp (oEq) (xOp (yck) (yf 1) (xC (.int 0))) (xC (.str "put")))) (ycV (yk 12 "do_put" ycs (yf 0) (yb (xOp (yck) (yf 1) (xC (.int 1))) (yb (xOp (yck) (yf 1) (xC (.int 2))) (yi))))) (ybK))))
def goB:XS:=(ybx (ym (xOp (oEq) (xOp (yck) (yf 1) (xC (.int 0))) (xC (.str "wait")))) (ybK) (ybx (ym (xOp (oEq) (xOp (yck) (yf 1) (xC (.int 0))) (xC (.str "throw")))) (ybK) (ybx (xOr (ym (xOp (oEq) (xOp (yck) (yf 1) (xC (.int 0))) (xC (.str "jump")))) (ym (xOp (oEq) (xOp (yck) (yf 1) (xC (.int 0))) (xC (.str "unless"))))) (ybK) (ybx (xOr (ym (xOp (oEq) (xOp (yck) (yf 1) (xC (.int 0))) (xC (.str "either")))) (ym (xOp (oEq) (xOp (yck) (yf 1) (xC (.int 0))) (xC (.str "guard"))))) (yo (ybK) (ybK)) (ybx (ym (xOp (oEq) (xOp (yck) (yf 1) (xC (.int 0))) (xC (.str "settle")))) (yo (ybK) (ybK)) (ycV (yk 12 "go_plain" yO (yf 0) (yb (yf 1) (yi)))))))))
def yeb:Fn:=ybw 2 (yo (yca (yk 12 "row" ydn (yf 0) (yi)) (yy 1)) (yo (ycW [10,12] "at" (yf 0) (xOp yjr (ybi [10,12] "at" (yf 0)) (xC (.int 1)))) goB))
def ybL:Fn:=ybw 1 (yo (ybx (ym (xOp (oEq) (ybi [14] "nth" (yf 0)) (xCB (ycD) (yb (ybi [14] "deeds" (yf 0)) (yi))))) (yN (xC (.str "ended"))) (yG)) (yN (xIf (ym (ybi [14] "sleeps" (yf 0))) (xC (.str "asleep")) (xC (.str "awake")))))
def ybF:Fn:=ybw 2 (yo (yca (xIf (ym (xOp (oLt) (ybi [14] "nth" (yf 0)) (xCB (ycD) (yb (ybi [14] "deeds" (yf 0)) (yi))))) (xOp (ycC) (ybi [14] "deeds" (yf 0)) (ybi [14] "nth" (yf 0))) (xFz (yfs (yi)))) (yy 1)) (yN (ygK (yhH ydE (yb (yf 1) (yb (ybi [14] "before" (yf 0)) (yb (ybi [12,14] "width" (yf 0)) (yi))))))))
def ybu:Fn:=ybw 1 (yo (ycW [14] "sleeps" (yf 0) (xC (.bl false))) (ycW [14] "run" (yf 0) (yk 14 "new_run" ybF (yf 0) (yi))))
def ybI:Fn:=ybw 1 (ycW [14] "sleeps" (yf 0) (xC (.bl true)))
def ydy:Fn:=ybw 2 (yo (ycW [14] "nth" (yf 0) (xOp yjr (ybi [14] "nth" (yf 0)) (xC (.int 1)))) (yo (ycW [14] "before" (yf 0) (xFz (yjY (ybd) (yb (yf 1) (yi))))) (ycW [14] "run" (yf 0) (yk 14 "new_run" ybF (yf 0) (yi)))))
def ybe:Fn:=ybw 3 (yo (ycW [14] "deeds" (yf 0) (xFz (yjY (ybd) (yb (yf 1) (yi))))) (yo (ycW [12,14] "width" (yf 0) (yf 2)) (yo (ycW [14] "nth" (yf 0) (xC (.int 0))) (yo (ycW [14] "sleeps" (yf 0) (xC (.bl false))) (yo (ycW [14] "before" (yf 0) (xFz (ytV yxw (xFz (yfs (yb (xC (.int 0)) (yi)))) (xCB (ynI) (yb (xC (.str "abcdefgh")) (yi)))))) (ycW [14] "run" (yf 0) (yk 14 "new_run" ybF (yf 0) (yi))))))))
def ydF:List PV->AH->Option (Nd×AH):=ypz 3 1 (yo (ydV [1,3,4] 0 "slot" (yf 1)) (ydV [1] 0 "number" (yf 2)))
def ydo:List PV->AH->Option (Nd×AH):=ypz 3 3 (yo (ydV [1,3,4] 0 "slot" (yf 1)) (ydV [3,4] 0 "place" (yf 2)))
def ydG:List PV->AH->Option (Nd×AH):=ypz 3 4 (yo (ydV [3,4] 0 "place" (yf 1)) (ydV [1,3,4] 0 "slot" (yf 2)))
def yih:Fn:=ybw 1 (yN (xC (.int 1)))
def yhd:Fn:=ybw 1 (yN (xC (.int 1)))
def yii:Fn:=ybw 1 (yN (xC (.int 1)))
def yhe:Fn:=ybw 1 (yN (xC (.int 1)))
mutual
noncomputable def yqq:Nat->Nat->Fn
 | 0,_=>fun _ _=>none
 | n+1,k=>match k with|1=>yih|3=>yhd|4=>yii|9=>yhe|_=>fun _ _=>none
noncomputable def yec:Nat->Fn
 | 0=>fun _ _=>none
 | n+1=>ybw 1 (yN (xCB (yyQ) (yb (xFz (yel (xIL (yf 0)) [] (ypB "long" (yqq n) (yf 0)))) (yi))))
end
def ygh:Fn:=ybw 1 (yo (ybx (ym (xCB (yfT ybG) (yb (yf 0) (yb (xC (.cls 1)) (yi))))) (yN (xFz (yfs (yb (yfr (yb (xC (.str "let")) (yb (ybi [1,3,4] "slot" (yf 0)) (yb (ybi [1] "number" (yf 0)) (yi))))) (yi))))) (yG)) (yo (ybx (ym (xCB (yfT ybG) (yb (yf 0) (yb (xC (.cls 2)) (yi))))) (ybK) (yG)) (yo (ybx (ym (xCB (yfT ybG) (yb (yf 0) (yb (xC (.cls 3)) (yi))))) (yN (xFz (yfs (yb (yfr (yb (xC (.str "take")) (yb (ybi [1,3,4] "slot" (yf 0)) (yb (ybi [3,4] "place" (yf 0)) (yi))))) (yi))))) (yG)) (yo (ybx (ym (xCB (yfT ybG) (yb (yf 0) (yb (xC (.cls 4)) (yi))))) (yN (xFz (yfs (yb (yfr (yb (xC (.str "put")) (yb (ybi [3,4] "place" (yf 0)) (yb (ybi [1,3,4] "slot" (yf 0)) (yi))))) (yi))))) (yG)) (yo (ybx (ym (xCB (yfT ybG) (yb (yf 0) (yb (xC (.cls 8)) (yi))))) (ybK) (yG)) (yo (ybx (ym (xCB (yfT ybG) (yb (yf 0) (yb (xC (.cls 9)) (yi))))) (yN (xFz (yfs (yb (yfr (yb (xC (.str "wait")) (yi))) (yi))))) (yG)) (yN (xFz (yfs (yi))))))))))
def yfh:Fn:=ybw 2 (yo (ybx (xOr (ym (xCB (yfT ybG) (yb (yf 0) (yb (xC (.cls 5)) (yi))))) (xOr (ym (xCB (yfT ybG) (yb (yf 0) (yb (xC (.cls 6)) (yi))))) (ym (xCB (yfT ybG) (yb (yf 0) (yb (xC (.cls 7)) (yi))))))) (ybK) (yG)) (yN (yba ygh (yb (yf 0) (yi)))))
def yed:Fn:=ybw 4 (yo (ynD (yfs (yi)) 2) (yo (ynE (xIL (yf 0)) (yy 3) (ynP 2 (yba yfh (yb (yf 3) (yb (xOp yjr (yf 1) (ypM 2)) (yi)))))) (yxu 2 (yN (yf 2)))))
def ydM:Fn:=ybw 1 (yN (xFz (ytV yBm (yba yed (yb (yf 0) (yb (xC (.int 0)) (yi)))) (xFz (yfs (yb (yfr (yb (xC (.str "lay")) (yi))) (yi)))))))
def ycJ:List PV->AH->Option (Nd×AH):=ypz 2 10 (yo (ydV [10] 0 "words" (xFz (yjY (ybd) (yb (yf 1) (yi))))) (ydV [10,12] 0 "at" (xC (.int 0))))
def yeJ:Fn:=ybw 1 (yo (ybx (ym (xOp (oEq) (yf 0) (xC (.str "")))) (yN (xFz (yfs (yi)))) (yG)) (yN (xBM isStr (ykn) (yf 0) (yb (xC (.str " ")) (yi)))))
def yP:Fn:=ybw 1 (yo (ybx (ym (xOp (oLt) (ybi [10,12] "at" (yf 0)) (xCB (ycD) (yb (ybi [10] "words" (yf 0)) (yi))))) (yN (xOp (ycC) (ybi [10] "words" (yf 0)) (ybi [10,12] "at" (yf 0)))) (yG)) (yN (xC .non)))
def ybo:Fn:=ybw 2 (yo (yca (yk 10 "ahead" yP (yf 0) (yi)) (yy 1)) (yo (ybx (ym (xOp (yvO) (yf 1) (xC .non))) (ybK) (yG)) (yo (ycW [10,12] "at" (yf 0) (xOp yjr (ybi [10,12] "at" (yf 0)) (xC (.int 1)))) (yN (yf 1)))))
def ybJ:Fn:=ybw 3 (yo (yca (yk 10 "taken" ybo (yf 0) (yi)) (yy 2)) (ybx (ym (xOp (oNe) (yf 2) (yf 1))) (ybK) (yG)))
def yF:Fn:=ybw 2 (yo (yca (yk 10 "taken" ybo (yf 0) (yi)) (yy 1)) (yo (ybx (yhF (ym (yba yfE (yb (yf 1) (yi))))) (ybK) (yG)) (yN (yf 1))))
def ybl:Fn:=ybw 3 (yo (yca (yk 10 "taken" ybo (yf 0) (yi)) (yy 1)) (yo (yca (yba yea (yb (yf 1) (yi))) (yy 2)) (yo (ybx (ym (xOp (yvO) (yf 2) (xC .non))) (ybK) (yG)) (yN (yf 2)))))
def ybq:Fn:=ybw 5 (yo (ybx (ym (xOp (oEq) (yf 1) (xC (.str "let")))) (yo (yca (yk 10 "slot_taken" yF (yf 0) (yi)) (yy 2)) (yN (xFz (yhH ydF (yb (yf 2) (yb (yk 10 "number_taken" ybl (yf 0) (yi)) (yi))))))) (yG)) (yo (ybx (ym (xOp (oEq) (yf 1) (xC (.str "take")))) (yo (yca (yk 10 "slot_taken" yF (yf 0) (yi)) (yy 2)) (yN (xFz (yhH ydo (yb (yf 2) (yb (yk 10 "slot_taken" yF (yf 0) (yi)) (yi))))))) (yG)) (yo (ybx (ym (xOp (oEq) (yf 1) (xC (.str "put")))) (yo (yca (yk 10 "slot_taken" yF (yf 0) (yi)) (yy 3)) (yN (xFz (yhH ydG (yb (yf 3) (yb (yk 10 "slot_taken" yF (yf 0) (yi)) (yi))))))) (yG)) (yo (ybx (ym (xOp (oEq) (yf 1) (xC (.str "throw")))) (yo (ybK) (ybK)) (yG)) (yo (ybx (ym (xOp (oEq) (yf 1) (xC (.str "wait")))) (yN (xFz (ymz 9))) (yG)) (yo (ybK) (ybK)))))))
def ybf:Fn:=ybw 3 (yo (ybx (ym (xOp (oGt) (yf 1) (xC (.int 8)))) (ybK) (yG)) (yo (yca (yk 10 "taken" ybo (yf 0) (yi)) (yy 2)) (yo (ybx (ym (xOp (oEq) (yf 2) (xC (.str "if")))) (ybK) (yG)) (yo (ybx (ym (xOp (oEq) (yf 2) (xC (.str "either")))) (ybK) (yG)) (yo (ybx (ym (xOp (oEq) (yf 2) (xC (.str "try")))) (ybK) (yG)) (yN (yk 10 "plain_taken" ybq (yf 0) (yb (yf 2) (yi)))))))))
def yhI:XT:=ym (xOp (oEq) (yk 10 "ahead" yP (yf 0) (yi)) (xC (.str ";")))
def ykv:XS:=yo (ycV (yk 10 "pass_over" ybJ (yf 0) (yb (xC (.str ";")) (yi)))) (ylD 2 (yk 10 "part_taken" ybf (yf 0) (yb (yf 1) (yi))))
def ybC:Fn:=ybw 3 (yo (ybx (xOr (ym (xOp (yvO) (yk 10 "ahead" yP (yf 0) (yi)) (xC .non))) (ym (xOp (oEq) (yk 10 "ahead" yP (yf 0) (yi)) (xC (.str ")"))))) (yN (xFz (yfs (yi)))) (yG)) (yo (ynD (yfs (yb (yk 10 "part_taken" ybf (yf 0) (yb (yf 1) (yi))) (yi))) 2) (yo (yhW 100 (yhI) (ykv)) (yxu 2 (yN (yf 2))))))
def yij:Fn:=ybw 3 (yo (yca (ygK (yhH ycJ (yb (yba yeJ (yb (yf 0) (yi))) (yi)))) (yy 1)) (yo (yca (yk 10 "list_taken" ybC (yf 1) (yb (xC (.int 0)) (yi))) (yy 2)) (yo (ybx (ym (xOp (ysf) (yk 10 "ahead" yP (yf 1) (yi)) (xC .non))) (ybK) (yG)) (yo (ybx (ym (xOp (oGt) (xOp yjr (yba (yec 45) (yb (yf 2) (yi))) (xC (.int 1))) (xC (.int 80)))) (ybK) (yG)) (yN (yf 2))))))
def yde:Fn:=ybw 1 (yo (ybx (yhF (ym (yer (oLe) (oLe) (xC (.int 1)) (xCB (ycD) (yb (yf 0) (yi))) (xC (.int 16))))) (ybK) (yG)) (ybx (yhF (ym (xCB (yue) (yb (xFz (yel (xIL (yf 0)) [] (yba ycH (yb (yf 0) (yi))))) (yi))))) (ybK) (yG)))
def ybg:Fn:=ybw 1 (yN (xFz (yel (xIL (yf 0)) [] (yba ydM (yb (yba yij (yb (yf 0) (yi))) (yi))))))
def ybM:Fn:=ybw 1 (yo (ybx (yhF (ym (yer (oLe) (oLe) (xC (.int 1)) (xCB (ycD) (yb (yf 0) (yi))) (xC (.int 8))))) (ybK) (yG)) (yo (ybx (ym (xCB (ysL) (yb (xFz (yel (xIL (yf 0)) [] (xOp (oGt) (xCB (ycD) (yb (yf 0) (yi))) (xC (.int 6))))) (yi)))) (ybK) (yG)) (yN (xFz (yel (xIL (yf 0)) [] (yba ybg (yb (yf 0) (yi))))))))
def yct:Fn:=ybw 3 (yo (ycV (yba yde (yb (yf 1) (yi)))) (yo (ycW [15] "numbers" (yf 0) (ygK (yjY (ybd) (yb (yf 1) (yi))))) (yo (ycW [15] "marks" (yf 0) (ygK (ytV yxw (xFz (yfs (yb (xC (.int 0)) (yi)))) (xCB (ycD) (yb (yf 1) (yi)))))) (yo (ycW [15] "crew" (yf 0) (ygK (yel (xIL (yba ybM (yb (yf 2) (yi)))) [1] (ygW 14 ybe (yb (yf 0) (yb (xCB (ycD) (yb (yf 1) (yi))) (yi))))))) (ycW [15] "entries" (yf 0) (ygK (yfs (yi))))))))
def ycS:Fn:=ybw 1 (yN (xFz (yjY (ybd) (yb (ybi [15] "numbers" (yf 0)) (yi)))))
def ycu:Fn:=ybw 1 (yN (xFz (yjY (ybd) (yb (ybi [15] "marks" (yf 0)) (yi)))))
def yU:Fn:=ybw 2 (yo (ybx (xOr (yhF (ym (yba ybt (yb (yf 1) (yi))))) (yhF (ym (yer (oLe) (oLt) (xC (.int 0)) (yf 1) (xCB (ycD) (yb (ybi [15] "crew" (yf 0)) (yi))))))) (ybK) (yG)) (yN (xOp (ycC) (ybi [15] "crew" (yf 0)) (yf 1))))
def ych:Fn:=ybw 2 (yN (yk 14 "state" ybL (yk 15 "hand_at" yU (yf 0) (yb (yf 1) (yi))) (yi)))
def yci:Fn:=ybw 2 (yN (ybi [14] "nth" (yk 15 "hand_at" yU (yf 0) (yb (yf 1) (yi)))))
def ycT:Fn:=ybw 2 (yN (xFz (yjY (ybd) (yb (ybi [12] "held" (ybi [14] "run" (yk 15 "hand_at" yU (yf 0) (yb (yf 1) (yi))))) (yi)))))
def ydN:Fn:=ybw 2 (yN (yk 11 "saw" yex (ybi [12] "log" (ybi [14] "run" (yk 15 "hand_at" yU (yf 0) (yb (yf 1) (yi))))) (yi)))
def ydz:Fn:=ybw 1 (yN (xCB (ycD) (yb (ybi [15] "crew" (yf 0)) (yi))))
def ycM:Fn:=ybw 1 (yN (xFz (yko (ybi [15] "entries" (yf 0)) [] (yfr (yb (xOp (yck) (yf 0) (xC (.int 0))) (yb (xOp (yck) (yf 0) (xC (.int 1))) (yb (xOp (yck) (yf 0) (xC (.int 2))) (yb (xFz (yjY (ybd) (yb (xOp (yck) (yf 0) (xC (.int 3))) (yi)))) (yb (xFz (yjY (ybd) (yb (xOp (yck) (yf 0) (xC (.int 4))) (yi)))) (yb (xFz (yjY (ybd) (yb (xOp (yck) (yf 0) (xC (.int 5))) (yi)))) (yi)))))))))))
def wkB:XS:=(ybx (ynz (ym (xOp (oEq) (yk 14 "state" ybL (yf 1) (yi)) (xC (.str "asleep")))) (ym (yk 12 "is_stale" ybX (ybi [14] "run" (yf 1)) (yb (ybi [15] "marks" (yf 0)) (yi))))) (ycV (yk 14 "begin_anew" ybu (yf 1) (yi))) (yG))
def ybc:Fn:=ybw 2 (yiO false (ybi [15] "crew" (yf 0)) (yy 1) wkB)
def ycv:Fn:=ybw 6 (yo (yca (xOp (ycC) (ybi [15] "crew" (yf 0)) (yf 1)) (yy 5)) (yo (ycV (xBM ynL (ynM) (ybi [15] "entries" (yf 0)) (yb (yfr (yb (yf 1) (yb (ybi [14] "nth" (yf 5)) (yb (yf 2) (yb (yk 11 "saw" yex (ybi [12] "log" (ybi [14] "run" (yf 5))) (yi)) (yb (yf 3) (yb (xFz (yjY (ybd) (yb (yf 4) (yi)))) (yi)))))))) (yi)))) (ycV (yk 14 "go_on" ydy (yf 5) (yb (yf 4) (yi))))))
def ldB:XS:=(yo (yca (xOp (yck) (yf 4) (xC (.int 0))) (yy 5)) (yo (yfc (ybi [15] "numbers" (yf 0)) (yf 5) (xOp (yck) (yf 4) (xC (.int 1)))) (yfc (ybi [15] "marks" (yf 0)) (yf 5) (xOp yjr (xOp (ycC) (ybi [15] "marks" (yf 0)) (yf 5)) (xC (.int 1))))))
def ycw:Fn:=ybw 6 (yo (yca (ybi [14] "run" (xOp (ycC) (ybi [15] "crew" (yf 0)) (yf 1))) (yy 2)) (yo (yca (yk 11 "wrote" ydZ (ybi [12] "log" (yf 2)) (yi)) (yy 3)) (yo (ynE (xIL (yf 3)) (yy 4) ldB) (yo (ycV (yk 15 "end_deed" ycv (yf 0) (yb (yf 1) (yb (yfr (yb (xC (.str "done")) (yi))) (yb (yf 3) (yb (ybi [12] "held" (yf 2)) (yi))))))) (ycV (yk 15 "wake_stale" ybc (yf 0) (yi)))))))
def yH:Fn:=ybw 6 (yo (yca (xOp (ycC) (ybi [15] "crew" (yf 0)) (yf 1)) (yy 3)) (yo (yca (yk 12 "row" ydn (ybi [14] "run" (yf 3)) (yi)) (yy 4)) (yo (ybx (ym (xOp (oEq) (xOp (yck) (yf 4) (xC (.int 0))) (xC (.str "take")))) (yo (yca (yk 12 "see_next" ycL (ybi [14] "run" (yf 3)) (yb (ybi [15] "numbers" (yf 0)) (yb (ybi [15] "marks" (yf 0)) (yi)))) (yy 5)) (yN (yfr (yb (xC (.str "seen")) (yb (yf 2) (yb (yf 5) (yb (xOp (ycC) (ybi [15] "numbers" (yf 0)) (yf 5)) (yi)))))))) (yG)) (yo (ybx (ym (xOp (oEq) (xOp (yck) (yf 4) (xC (.int 0))) (xC (.str "wait")))) (yo (ycV (yk 14 "fall_asleep" ybI (yf 3) (yi))) (yN (yfr (yb (xC (.str "asleep")) (yb (yf 2) (yi)))))) (yG)) (yo (ybx (ym (xOp (oEq) (xOp (yck) (yf 4) (xC (.int 0))) (xC (.str "throw")))) (yo (ybK) (ybK)) (yG)) (yo (ycV (yk 15 "lay_down" ycw (yf 0) (yb (yf 1) (yi)))) (yN (yfr (yb (xC (.str "done")) (yb (yf 2) (yi)))))))))))
def yv:Fn:=ybw 4 (yo (yca (yk 15 "hand_at" yU (yf 0) (yb (yf 1) (yi))) (yy 2)) (yo (ybx (ym (xOp (oNe) (yk 14 "state" ybL (yf 2) (yi)) (xC (.str "awake")))) (yN (yfr (yb (xC (.str "idle")) (yi)))) (yG)) (yo (yca (ybi [10,12] "at" (ybi [14] "run" (yf 2))) (yy 3)) (yo (ybx (yhF (ym (yk 12 "is_looked_over" yY (ybi [14] "run" (yf 2)) (yi)))) (yo (ycV (yk 12 "go" yeb (ybi [14] "run" (yf 2)) (yi))) (yN (yfr (yb (xC (.str "gone")) (yb (yf 3) (yi)))))) (yG)) (yo (ybx (ym (yk 12 "is_stale" ybX (ybi [14] "run" (yf 2)) (yb (ybi [15] "marks" (yf 0)) (yi)))) (yo (ycV (yk 14 "begin_anew" ybu (yf 2) (yi))) (yN (yfr (yb (xC (.str "anew")) (yb (yf 3) (yi)))))) (yG)) (yN (yk 15 "looked_over_told" yH (yf 0) (yb (yf 1) (yb (yf 3) (yi))))))))))
def yK:FnR:=ysO 2 (rIf (xOr (yhF (ym (yba ybt (yb (yf 1) (yi))))) (yhF (ym (yer (oLe) (oLt) (xC (.int 0)) (yf 1) (xCB (ycD) (yb (ybi [15] "crew" (yf 0)) (yi))))))) (yus "NoHand" (xC (.str "there is no such hand"))) (rNo))
def yee:FnR:=ysO 4 (ydl 15 "hand_at" yK (yf 0) (yb (yf 1) (yi)))
def ydH:FnR:=ysO 2 (ydl 15 "hand_at" yK (yf 0) (yb (yf 1) (yi)))
def ydI:FnR:=ysO 2 (ydl 15 "hand_at" yK (yf 0) (yb (yf 1) (yi)))
def ydJ:FnR:=ysO 2 (ydl 15 "hand_at" yK (yf 0) (yb (yf 1) (yi)))
def yez:FnR:=ysO 2 (ydl 15 "hand_at" yK (yf 0) (yb (yf 1) (yi)))
def ybY:FnR:=ysO 3 (rIf (ym (xOp (oEq) (yf 1) (xC (.int 0)))) (ydl 15 "turn" yee (yf 0) (yb (yf 2) (yi))) (rIf (ym (xOp (oEq) (yf 1) (xC (.int 1)))) (ydl 15 "state" ydH (yf 0) (yb (yf 2) (yi))) (rIf (ym (xOp (oEq) (yf 1) (xC (.int 2)))) (ydl 15 "which" ydI (yf 0) (yb (yf 2) (yi))) (rIf (ym (xOp (oEq) (yf 1) (xC (.int 3)))) (ydl 15 "slots" ydJ (yf 0) (yb (yf 2) (yi))) (ydl 15 "saw" yez (yf 0) (yb (yf 2) (yi)))))))
def yV:Fn:=ybw 2 (yo (ybx (ym (xOp (oLt) (yf 1) (xCB (ycD) (yb (yf 0) (yi))))) (yN (xOp (ycC) (yf 0) (yf 1))) (yG)) (yN (xC (.int 0))))
def ybE:Fn:=ybw 2 (yo (yca (xOp oDiv (yf 0) (xC (.int 3))) (yy 1)) (yo (ybx (ym (xOp (oEq) (xOp oMod (yf 0) (xC (.int 3))) (xC (.int 1)))) (yN (xOp oMod (yf 1) (xC (.int 5)))) (yG)) (yo (ybx (ym (xOp (oEq) (xOp oMod (yf 0) (xC (.int 3))) (xC (.int 2)))) (yN (xOp yvM (xOp yvM (xOp yBj (xC (.int 2)) (xC (.int 64))) (xC (.int 1))) (xOp oMod (yf 1) (xC (.int 5))))) (yG)) (yN (xOp oMod (yf 1) (xOp yBj (xC (.int 2)) (xC (.int 64))))))))
def yef:Fn:=ybw 6 (yo (yca (xOp oMod (xOp oDiv (yf 0) (xC (.int 4))) (xC (.int 16))) (yy 2)) (yo (ybx (ym (xOp (oEq) (xOp oMod (yf 0) (xC (.int 4))) (xC (.int 0)))) (yN (ygK (ykp ["deeds","kind","at","box","number","stamp"] (yb (xFz (yfs (yi))) (yb (xC (.str "none")) (yb (xC (.int 0)) (yb (xC (.int 0)) (yb (xC (.int 0)) (yb (xC (.int 0)) (yi)))))))))) (yG)) (yo (yca (xOp yiG (xOp yiG (xC (.str "let a ")) (xCB (ynJ) (yb (yf 2) (yi)))) (xC (.str " ; "))) (yy 3)) (yo (ybx (ym (xOp (oEq) (xOp oMod (yf 0) (xC (.int 4))) (xC (.int 1)))) (yo (yca (xOp yiG (yf 3) (xC (.str "take b a ; wait"))) (yy 4)) (yN (ygK (ykp ["deeds","kind","at","box","number","stamp"] (yb (xFz (yfs (yb (yf 4) (yi)))) (yb (xC (.str "sleeper")) (yb (xC (.int 0)) (yb (xOp oMod (yf 2) (yf 1)) (yb (xC (.int 0)) (yb (xC (.int 0)) (yi))))))))))) (yG)) (yo (yca (yba ybE (yb (yf 0) (yi))) (yy 5)) (yo (yca (xOp yiG (xOp yiG (xOp yiG (yf 3) (xC (.str "let b "))) (xCB (ynJ) (yb (yf 5) (yi)))) (xC (.str " ; put a b"))) (yy 4)) (yN (ygK (ykp ["deeds","kind","at","box","number","stamp"] (yb (xFz (yfs (yb (yf 4) (yi)))) (yb (xC (.str "layer")) (yb (xC (.int 0)) (yb (xOp oMod (yf 2) (yf 1)) (yb (yf 5) (yb (xC (.int 0)) (yi))))))))))))))))
def ycN:Fn:=ybw 5 (yo (yca (xC .non) (yy 3)) (yo (yxA ["NoHand"] 4 (ysN ybY (yb (yf 0) (yb (yf 1) (yb (yf 2) (yi))))) (yca (yf 4) (yy 3))) (yo (ybx (xOr (yhF (ym (xCB (yfz ybG ynT ynU) (yb (yf 3) (yb (xC (.xcl "NoHand")) (yi)))))) (xOr (yhF (ym (xCB (yfz ybG ynT ynU) (yb (yf 3) (yb (xC (.ty "ValueError")) (yi)))))) (ym (xCB (yfz ybG ynT ynU) (yb (yf 3) (yb (xC (.xcl "NoHands")) (yi))))))) (yN (xC (.bl false))) (yG)) (yN (ygm (ylx (xCB (yfz ybG ynT ynU) (yb (yf 3) (yb (xC (.xcl "NoBoxes")) (yi))))) (ygm (ylx (xCB (yfz ybG ynT ynU) (yb (yf 3) (yb (xC (.xcl "NoDeed")) (yi))))) (ylx (xCB (yfz ybG ynT ynU) (yb (yf 3) (yb (xC (.xcl "NoRow")) (yi)))))))))))
def lkB:XS:=(ylD 2 (xFz (yfs (yb (yk 15 "state" ych (yf 0) (yb (yf 3) (yi))) (yb (yk 15 "which" yci (yf 0) (yb (yf 3) (yi))) (yb (yk 15 "slots" ycT (yf 0) (yb (yf 3) (yi))) (yb (yk 15 "saw" ydN (yf 0) (yb (yf 3) (yi))) (yi))))))))
def ycf:Fn:=ybw 4 (yo (ynD (yfs (yb (yk 15 "boxes" ycS (yf 0) (yi)) (yb (yk 15 "stamps" ycu (yf 0) (yi)) (yb (yk 15 "journal" ycM (yf 0) (yi)) (yb (yk 15 "hands" ydz (yf 0) (yi)) (yi)))))) 2) (yo (ynE (ynF (yb (yf 1) (yi))) (yy 3) lkB) (yxu 2 (yN (yf 2)))))
def yeK:Fn:=ybw 3 (yo (ybx (xOr (ym (xOp (oEq) (ybn (yf 0) (xC (.str "kind"))) (xC (.str "none")))) (ym (xOp (oGt) (ybn (yf 0) (xC (.str "at"))) (xC (.int 3))))) (yN (yfr (yb (xC (.str "idle")) (yi)))) (yG)) (yo (ybx (ym (xOp (oEq) (ybn (yf 0) (xC (.str "kind"))) (xC (.str "layer")))) (yN (xOp (ycC) (xFz (yfs (yb (yfr (yb (xC (.str "gone")) (yb (xC (.int 0)) (yi)))) (yb (yfr (yb (xC (.str "gone")) (yb (xC (.int 1)) (yi)))) (yb (yfr (yb (xC (.str "gone")) (yb (xC (.int 2)) (yi)))) (yb (yfr (yb (xC (.str "done")) (yb (xC (.int 3)) (yi)))) (yi))))))) (ybn (yf 0) (xC (.str "at"))))) (yG)) (yo (ybx (ym (xOp (oEq) (ybn (yf 0) (xC (.str "at"))) (xC (.int 1)))) (yN (yfr (yb (xC (.str "seen")) (yb (xC (.int 1)) (yb (ybn (yf 0) (xC (.str "box"))) (yb (xOp (ycC) (yf 1) (ybn (yf 0) (xC (.str "box")))) (yi))))))) (yG)) (yo (ybx (ynz (ym (xOp (oEq) (ybn (yf 0) (xC (.str "at"))) (xC (.int 2)))) (ym (xOp (oNe) (ybn (yf 0) (xC (.str "stamp"))) (xOp (ycC) (yf 2) (ybn (yf 0) (xC (.str "box"))))))) (yN (yfr (yb (xC (.str "anew")) (yb (xC (.int 2)) (yi))))) (yG)) (yN (xOp (ycC) (xFz (yfs (yb (yfr (yb (xC (.str "gone")) (yb (xC (.int 0)) (yi)))) (yb (yfr (yb (xC (.str "gone")) (yb (xC (.int 1)) (yi)))) (yb (yfr (yb (xC (.str "asleep")) (yb (xC (.int 2)) (yi)))) (yb (yfr (yb (xC (.str "idle")) (yi))) (yi))))))) (ybn (yf 0) (xC (.str "at")))))))))
def gnB:XS:=(ybx (ynz (ym (xOp (oEq) (ybn (yf 5) (xC (.str "kind"))) (xC (.str "sleeper")))) (ynz (ym (xOp (oEq) (ybn (yf 5) (xC (.str "at"))) (xC (.int 3)))) (ym (xOp (oEq) (ybn (yf 5) (xC (.str "box"))) (ybn (yf 1) (xC (.str "box"))))))) (yfx (yf 5) (xC (.str "at")) (xC (.int 0))) (yG))
def yS:Fn:=ybw 6 (yo (ybx (ym (xOp (oEq) (xOp (yck) (yf 2) (xC (.int 0))) (xC (.str "anew")))) (yfx (yf 1) (xC (.str "at")) (xC (.int 0))) (ybx (ym (xOp (oNe) (xOp (yck) (yf 2) (xC (.int 0))) (xC (.str "idle")))) (yfx (yf 1) (xC (.str "at")) (xOp yjr (ybn (yf 1) (xC (.str "at"))) (xC (.int 1)))) (yG))) (yo (ybx (ym (xOp (oEq) (xOp (yck) (yf 2) (xC (.int 0))) (xC (.str "seen")))) (yfx (yf 1) (xC (.str "stamp")) (xOp (ycC) (yf 4) (ybn (yf 1) (xC (.str "box"))))) (yG)) (ybx (ym (xOp (oEq) (xOp (yck) (yf 2) (xC (.int 0))) (xC (.str "done")))) (yo (yfc (yf 3) (ybn (yf 1) (xC (.str "box"))) (ybn (yf 1) (xC (.str "number")))) (yo (yfc (yf 4) (ybn (yf 1) (xC (.str "box"))) (xOp yjr (xOp (ycC) (yf 4) (ybn (yf 1) (xC (.str "box")))) (xC (.int 1)))) (ynE (xIL (yf 0)) (yy 5) gnB))) (yG))))
def ssB:XS:=(yo (yca (xC (.str "awake")) (yy 3)) (yo (ybx (xOr (ym (xOp (oEq) (ybn (xOp (ycC) (yf 1) (yf 2)) (xC (.str "kind"))) (xC (.str "none")))) (ym (xOp (oEq) (ybn (xOp (ycC) (yf 1) (yf 2)) (xC (.str "at"))) (xC (.int 4))))) (yca (xC (.str "ended")) (yy 3)) (ybx (ynz (ym (xOp (oEq) (ybn (xOp (ycC) (yf 1) (yf 2)) (xC (.str "kind"))) (xC (.str "sleeper")))) (ym (xOp (oEq) (ybn (xOp (ycC) (yf 1) (yf 2)) (xC (.str "at"))) (xC (.int 3))))) (yca (xC (.str "asleep")) (yy 3)) (yG))) (ybx (xOr (ym (xOp (oNe) (yk 15 "state" ych (yf 0) (yb (yf 2) (yi))) (yf 3))) (ym (xOp (oNe) (yk 15 "which" yci (yf 0) (yb (yf 2) (yi))) (xCB (ysi) (yb (ygm (xOp (oEq) (ybn (xOp (ycC) (yf 1) (yf 2)) (xC (.str "kind"))) (xC (.str "layer"))) (xOp (oEq) (yf 3) (xC (.str "ended")))) (yi)))))) (yN (xC (.bl false))) (yG))))
def ycx:Fn:=ybw 4 (yo (ynE (ynF (yb (xCB (ycD) (yb (yf 1) (yi))) (yi))) (yy 2) ssB) (yN (xC (.bl true))))
def ydf:Fn:=ybw 8 (yo (yca (yba ycf (yb (yf 0) (yb (xCB (ycD) (yb (yf 1) (yi))) (yi)))) (yy 5)) (yo (yca (yba yeK (yb (xOp (ycC) (yf 1) (yf 2)) (yb (yf 3) (yb (yf 4) (yi))))) (yy 6)) (yo (yca (yk 15 "turn" yv (yf 0) (yb (yf 2) (yi))) (yy 7)) (yo (ybx (xOr (yhF (ym (xCB (yfT ybG) (yb (yf 7) (yb (xC (.ty "tuple")) (yi)))))) (ym (xOp (ysF) (yf 7) (yf 6)))) (yN (xC (.bl false))) (yG)) (yo (ybx (ynz (ym (xOp (oEq) (xOp (yck) (yf 6) (xC (.int 0))) (xC (.str "idle")))) (ym (xOp (ysF) (yba ycf (yb (yf 0) (yb (xCB (ycD) (yb (yf 1) (yi))) (yi)))) (yf 5)))) (yN (xC (.bl false))) (yG)) (yo (ycV (yba yS (yb (yf 1) (yb (xOp (ycC) (yf 1) (yf 2)) (yb (yf 6) (yb (yf 3) (yb (yf 4) (yi)))))))) (yN (ygm (yba ycx (yb (yf 0) (yb (yf 1) (yi)))) (ygm (xOp (yxy) (yk 15 "boxes" ycS (yf 0) (yi)) (yf 3)) (xOp (yxy) (yk 15 "stamps" ycu (yf 0) (yi)) (yf 4)))))))))))
def dsE:XE:=(xFz (yjY (ybd) (yb (ybn (yf 0) (xC (.str "deeds"))) (yi))))
def bxE:XE:=(yba ybE (yb (xOp yjr (yba yV (yb (yf 1) (yb (xC (.int 1)) (yi)))) (xOp yyG (xOp yyG (xC (.int 31)) (yf 0)) (yf 0))) (yi)))
def heE:XE:=(yba yef (yb (xOp oMod (xOp yyG (yba yV (yb (yf 2) (yb (xOp yjr (xC (.int 2)) (yf 0)) (yi)))) (xC (.int 48271))) (xC (.int 2147483647))) (yb (yf 1) (yi))))
def csE:XE:=(xFz (ytV ysD (xFz (yBi yBl (yf 0) (yiC) (yrO (xC (.int 200))))) (xFz (yfs (yb (xC (.int 0)) (yb (xC (.int 1)) (yb (xC (.int 5)) (yb (xC (.int 7)) (yb (xC (.int 9)) (yb (xC (.int 10)) (yb (xC (.int 13)) (yi))))))))))))
def lwT:XS:=(ybx (ynz (ym (xCB (yfT ybG) (yb (yf 9) (yb (xC (.ty "int")) (yi))))) (ynz (yhF (ym (xCB (yfT ybG) (yb (yf 9) (yb (xC (.ty "bool")) (yi)))))) (ym (yer (oLe) (oLt) (xC (.int 0)) (yf 9) (yf 4))))) (ybx (yhF (ym (yba ydf (yb (yf 6) (yb (yf 5) (yb (yf 9) (yb (yf 2) (yb (yf 3) (yi))))))))) (yN (xC (.bl false))) (yG)) (yo (yca (yba ycf (yb (yf 6) (yb (yf 4) (yi)))) (yy 11)) (ybx (xOr (yhF (ym (yba ycN (yb (yf 6) (yb (xOp oMod (xOp oDiv (yf 8) (xC (.int 2000))) (xC (.int 5))) (yb (yf 9) (yi))))))) (ym (xOp (ysF) (yba ycf (yb (yf 6) (yb (yf 4) (yi)))) (yf 11)))) (yN (xC (.bl false))) (yG))))
def lwB:XS:=(yo (yca (xOp oMod (xOp yyG (yf 7) (xC (.int 69621))) (xC (.int 2147483629))) (yy 8)) (yo (yca (xOp yvM (xOp oMod (yf 8) (xOp yjr (yf 4) (xC (.int 4)))) (xC (.int 2))) (yy 9)) (yo (ybx (ym (xOp (oEq) (xOp oMod (xOp oDiv (yf 8) (xC (.int 12))) (xC (.int 30))) (xC (.int 0)))) (yo (yca (xFz (yfs (yb (xOp yvM (xUn yBk (xC (.int 1))) (yf 8)) (yb (xOp yjr (yf 4) (yf 8)) (yb (xC (.int 8)) (yb (xOp yBj (xC (.int 2)) (xC (.int 64))) (yb (xC (.bl true)) (yb (xC (.bl false)) (yb (xC .non) (yb (xC (.str "0")) (yb (yfr (yb (xC (.int 0)) (yi))) (yi)))))))))))) (yy 10)) (yca (xOp (ycC) (yf 10) (xOp oMod (xOp oDiv (yf 8) (xC (.int 360))) (xC (.int 9)))) (yy 9))) (yG)) lwT)))
def lwG:XS:=(yo (yca (ygW 15 yct (yb (xFz (yjY (ybd) (yb (yf 2) (yi)))) (yb (xFz (yel (xIL (yf 5)) [] dsE)) (yi)))) (yy 6)) (yo (ynE (xIL csE) (yy 7) lwB) (yN (yba ycx (yb (yf 6) (yb (yf 5) (yi)))))))
def ytb:Fn:=ybw 12 (yo (yca (xOp yjr (xC (.int 1)) (xOp oMod (yba yV (yb (yf 0) (yb (xC (.int 0)) (yi)))) (xC (.int 16)))) (yy 1)) (yo (yca (ygK (yel (ynF (yb (yf 1) (yi))) [0] bxE)) (yy 2)) (yo (yca (ygK (ytV yxw (xFz (yfs (yb (xC (.int 0)) (yi)))) (yf 1))) (yy 3)) (yo (yca (xOp yjr (xC (.int 1)) (xOp oMod (xOp oDiv (yba yV (yb (yf 0) (yb (xC (.int 0)) (yi)))) (xC (.int 16))) (xC (.int 8)))) (yy 4)) (yo (yca (xFz (yel (ynF (yb (yf 4) (yi))) [1,0] heE)) (yy 5)) lwG)))))
abbrev B64:Int:=18446744073709551616
inductive T where
 | let_ (r:Str) (n:Int)
 | take (r s:Str)
 | put (s t:Str)
 | wait
noncomputable def ybZ:T->PV
 | .let_ r n=>.ins 1 ["slot","number"] [.str r,.int n]
 | .take r s=>.ins 3 ["slot","place"] [.str r,.str s]
 | .put s t=>.ins 4 ["place","slot"] [.str s,.str t]
 | .wait=>.ins 9 [] []
noncomputable def wdT:T->List Str
 | .let_ r n=>["let",r,(toString n:String)]
 | .take r s=>["take",r,s]
 | .put s t=>["put",s,t]
 | .wait=>["wait"]
def wdR:List T->List Str
 | []=>[]
 | t::r=>";"::(wdT t++wdR r)
def wdL:List T->List Str
 | []=>[]
 | t::r=>wdT t++wdR r
theorem yuB:("":Str).length=0:=by rfl'
theorem yfX (a b:Str):(a++b).length=a.length+b.length:=by
 show (a.cps++b.cps).size=_
 simp [Str.length]
theorem ykw (a b c:Str):a++b++c=a++(b++c):=by
 show (⟨(a.cps++b.cps)++c.cps⟩:Str)=⟨a.cps++(b.cps++c.cps)⟩
 rw [Array.append_assoc]
theorem yna (a:Int) {b:Int}(h:0<b):0<=a%b/\a%b<b:=⟨Int.emod_nonneg a (by omega),Int.emod_lt_of_pos a h⟩
theorem yqr:B64<10 ^ 20:=by decide
theorem ytc (sep x:Str) (r:List Str) (h:1<=x.length):1<=(Str.join sep (x::r)).length:=by
 cases r with
 | nil=>exact h
 | cons y r =>
  show 1<=(x++sep++Str.join sep (y::r)).length
  rw [yfX,yfX];omega
def yon (m:Nat):List Nat:=(Nat.toDigits 10 m).map Char.toNat
theorem yzV:∀ d:Nat,d<10->(Nat.digitChar d).toNat=48+d:=by
 intro d h
 have:d=0\/d=1\/d=2\/d=3\/d=4\/d=5\/d=6\/d=7\/d=8\/d=9:=by omega
 rcases this with rfl|rfl|rfl|rfl|rfl|rfl|rfl|rfl|rfl|rfl
 all_goals decide
theorem ytd (cs:List Nat) (c:Nat):yvm (cs++[c])=yvm cs*10+((c:Int)-48):=by
 unfold yvm
 rw [List.foldl_append];rfl
theorem yqs:∀ m:Nat,yon m≠[]/\(∀ c∈yon m,48<=c/\c<=57)/\yvm (yon m)=m/\(m≠0->(yon m)[0]?≠some 48)/\(m=0->yon m=[48]):=by
 intro m
 induction m using Nat.strongRecOn with
 | ind m ih =>
  unfold yon at *
  by_cases h:m<10
  .rw [Nat.toDigits_of_lt_base h,List.map_singleton,yzV m h]
   refine ⟨by simp,fun c hc=>?_,?_,fun hm e=>?_,fun e=>by subst e;rfl⟩
   .rw [List.mem_singleton.mp hc];omega
   .show (0:Int)*10+(((48+m:Nat):Int)-48)=m
    omega
   .have:48+m=48:=by simpa using e
    omega
  .rw [Nat.toDigits_of_base_le (by decide) (by omega),map_append,List.map_singleton,yzV (m%10) (by omega)]
   obtain ⟨h1,h2,h3,h4,h5⟩:=ih (m/10) (by omega)
   refine ⟨by simp,fun c hc=>?_,?_,fun _ e=>?_,fun e=>by omega⟩
   .rcases List.mem_append.mp hc with hc|hc
    .exact h2 c hc
    .rw [List.mem_singleton.mp hc];omega
   .rw [ytd,h3];omega
   .refine h4 (by omega) ?_
    generalize (Nat.toDigits 10 (m/10)).map Char.toNat=l at *
    cases l with
    | nil=>exact absurd rfl h1
    | cons a l=>simpa using e
theorem yqt {n:Int}(h:0<=n):(Str.ofString (toString n)).cps.toList=yon n.toNat:=by
 obtain ⟨m,rfl⟩:∃ m:Nat,n=m:=⟨n.toNat,by omega⟩
 rw [Str.ofString_eq_toList]
 show (toString m).toList.map Char.toNat=_
 rw [Int.toNat_natCast,show (toString m)=m.repr from rfl,Nat.toList_repr];rfl
def yeV (r:Str):Prop:=∃ c:Nat,97<=c/\c<=104/\r=⟨#[c]⟩
def gdT:T->Prop
 | .let_ r n=>yeV r/\0<=n/\n<B64
 | .take r s=>yeV r/\yeV s
 | .put r s=>yeV r/\yeV s
 | .wait=>True
def gdL (ts:List T):Prop:=∀ t∈ts,gdT t
theorem ywR (t:T):wdT t≠[]:=by cases t<;>exact fun z=>by cases z
theorem yiX {sep:Str}:∀ {a b:List Str},a≠[]->b≠[]->Str.join sep (a++b)=Str.join sep a++sep++Str.join sep b
 | [],_,h,_=>absurd rfl h
 | [x],[],_,h=>absurd rfl h
 | [x],y::b,_,_=>rfl
 | x::y::a,b,_,hb=>by
  have ih:=yiX (sep:=sep) (a:=y::a) (b:=b) (fun z=>by cases z) hb
  show x++sep++Str.join sep ((y::a)++b)=x++sep++Str.join sep (y::a)++sep++Str.join sep b
  rw [ih];simp only [ykw]
theorem yqu {sep x:Str}{b:List Str}(h:b≠[]):Str.join sep (x::b)=x++sep++Str.join sep b:=yiX (a:=[x]) (fun z=>by cases z) h
theorem yzW:(" ; ":Str) = " "++";"++" ":=by rfl'
def fr (w:Str):Prop:=32∉w.cps.toList/\w.length≠0/\w.length<=20
theorem yhf {r:Str}(h:yeV r):fr r:=by
 obtain ⟨c,h1,h2,rfl⟩:=h
 refine ⟨fun z=>?_,(fun z:1=0=>by cases z),(show 1<=20 by decide)⟩
 have:32=c:=by simpa using z
 omega
theorem yuC {n:Int}(h:0<=n) (h2:n<B64):fr (toString n:String):=by
 have e:=yqt h
 obtain ⟨h3,h4,_⟩:=yqs n.toNat
 refine ⟨fun z=>?_,fun z=>h3 ?_,str_len h (by decide) (Int.lt_trans h2 yqr)⟩
 .rw [e] at z
  have:=h4 _ z
  omega
 .rw [<- e]
  have:(Str.ofString (toString n)).cps.size=0:=z
  exact List.eq_nil_of_length_eq_zero (by simpa using this)
theorem yzX (s:Str) (h:decide (32∉s.cps.toList/\s.length≠0/\s.length<=20)=true):fr s:=(show 32∉s.cps.toList/\s.length≠0/\s.length<=20 from of_decide_eq_true h)
def frs (l:List Str):Prop:=∀ w∈l,fr w
theorem yfY:frs []:=fun _ h=>by cases h
theorem ycy {w:Str}{l:List Str}(h:fr w) (k:frs l):frs (w::l):=fun x hx=>(mem_cons.mp hx).elim (fun e=>e ▸ h) (k x)
theorem yqv {a b:List Str}(h:frs a) (k:frs b):frs (a++b):=fun x hx=>(List.mem_append.mp hx).elim (h x) (k x)
theorem yDe:fr "let":=yzX _ (by rfl')
theorem yzY:fr "take":=yzX _ (by rfl')
theorem yDf:fr "put":=yzX _ (by rfl')
theorem yzZ:fr "wait":=yzX _ (by rfl')
theorem yEJ:fr ";":=yzX _ (by rfl')
theorem yAa {t:T}(g:gdT t):frs (wdT t):=by
 cases t with
 | let_ r n=>exact ycy yDe (ycy (yhf g.1) (ycy (yuC g.2.1 g.2.2) yfY))
 | take r s=>exact ycy yzY (ycy (yhf g.1) (ycy (yhf g.2) yfY))
 | put r s=>exact ycy yDf (ycy (yhf g.1) (ycy (yhf g.2) yfY))
 | wait=>exact ycy yzZ yfY
theorem yAb:∀ {ts:List T},gdL ts->frs (wdR ts)
 | [],_=>yfY
 | _::_,g=>ycy yEJ (yqv (yAa (g _ mem_cons_self)) (yAb fun t ht=>g t (mem_cons_of_mem _ ht)))
theorem ywS:∀ {ts:List T},gdL ts->frs (wdL ts)
 | [],_=>yfY
 | _::_,g=>yqv (yAa (g _ mem_cons_self)) (yAb fun t ht=>g t (mem_cons_of_mem _ ht))
def shT (t:T):Str:=Str.join " " (wdT t)
theorem ynb:∀ (t:T) (r:List T),Str.join " ; " ((t::r).map shT)=Str.join " " (wdT t++wdR r)
 | t,[]=>by
  show shT t=Str.join " " (wdT t++[])
  rw [append_nil];rfl
 | t,u::r=>by
  have ih:=ynb u r
  show shT t++" ; "++Str.join " ; " ((u::r).map shT)=Str.join " " (wdT t++(";":Str)::(wdT u++wdR r))
  have ne:wdT u++wdR r≠[]:=fun z=>ywR u (List.append_eq_nil_iff.mp z).1
  rw [ih,yiX (ywR t) (fun z=>by cases z),yqu ne,yzW,shT]
  simp only [ykw]
theorem yiY:∀ ts:List T,Str.join " ; " (ts.map shT)=Str.join " " (wdL ts)
 | []=>rfl
 | t::r=>ynb t r
theorem ywT {sep:Str}{l:List Str}(h:frs l) (hl:l≠[]):Str.join sep l≠"":=by
 cases l with
 | nil=>exact absurd rfl hl
 | cons x r =>
  intro e
  have h1:=(h x mem_cons_self).2.1
  have:=ytc sep x r (by omega)
  rw [e,yuB] at this
  omega
theorem ynV:(("wait":Str) = "let")=False:=eq_false (by rfl')
theorem yfi:(("wait":Str) = "take")=False:=eq_false (by rfl')
theorem ynW:(("wait":Str) = "put")=False:=eq_false (by rfl')
theorem ykx:(("wait":Str) = "throw")=False:=eq_false (by rfl')
theorem yAc:(("wait":Str) = "if")=False:=eq_false (by rfl')
theorem yte:(("wait":Str) = "either")=False:=eq_false (by rfl')
theorem yxB:(("wait":Str) = "try")=False:=eq_false (by rfl')
theorem yBq:(("let":Str) = "if")=False:=eq_false (by rfl')
theorem yuD:(("let":Str) = "either")=False:=eq_false (by rfl')
theorem yAd:(("let":Str) = "try")=False:=eq_false (by rfl')
theorem ynX:(("take":Str) = "let")=False:=eq_false (by rfl')
theorem yAe:(("take":Str) = "if")=False:=eq_false (by rfl')
theorem ytf:(("take":Str) = "either")=False:=eq_false (by rfl')
theorem yxC:(("take":Str) = "try")=False:=eq_false (by rfl')
theorem yqw:(("put":Str) = "let")=False:=eq_false (by rfl')
theorem ynY:(("put":Str) = "take")=False:=eq_false (by rfl')
theorem yBr:(("put":Str) = "if")=False:=eq_false (by rfl')
theorem yuE:(("put":Str) = "either")=False:=eq_false (by rfl')
theorem yAf:(("put":Str) = "try")=False:=eq_false (by rfl')
section
variable {h:AH}
theorem yDg {z:Str}{i:Nat}{ρ:PSt}(e:yf i ρ h=some (.str z,h)) (hl:z.length<=100000):xIS (yf i) ρ h=some (z.cps.toList.map sgn,h):=by
 unfold xIS
 rw [e,yce]
 exact if_pos hl
theorem ynZ {x y:Str}(hl:x.length<=1000):ydw [.str x,.str y] h=some (.bl (x.cps.toList.all fun c=>decide (c∈y.cps.toList)),h):=by
 unfold ydw
 rw [yp]
 show ob (yN _ [.val (.str x),.val (.str y)] h) fnK=_
 have hz:x.cps.toList.length=x.length:=by simp [Str.length]
 symm
 rw [yDg rfl (by omega),yce]
 rw [if_pos (by rw [length_map];omega)]
 rw [yfU (f:=sgn) (g:=fun c=>.bl (decide (c∈y.cps.toList))) fun c _=>rfl]
 symm
 show ob (yue [.lst (x.cps.toList.map fun c=>PV.bl (decide (c∈y.cps.toList)))] h) _=_
 unfold yue ybs
 rw [show (x.cps.toList.map fun c=>PV.bl (decide (c∈y.cps.toList)))=(x.cps.toList.map fun c=>decide (c∈y.cps.toList)).map PV.bl by rw [map_map];rfl]
 simp only [ykb,List.all_map]
 rfl
theorem yqx {c:Nat}(h1:97<=c) (h2:c<=104):c∈("abcdefgh":Str).cps.toList:=by
 rw [show ("abcdefgh":Str).cps.toList=[97,98,99,100,101,102,103,104] by rfl']
 have:c=97\/c=98\/c=99\/c=100\/c=101\/c=102\/c=103\/c=104:=by omega
 rcases this with rfl|rfl|rfl|rfl|rfl|rfl|rfl|rfl
 all_goals decide
theorem ytg {c:Nat}(h1:48<=c) (h2:c<=57):c∈("0123456789":Str).cps.toList:=by
 rw [show ("0123456789":Str).cps.toList=(List.range 10).map (· + 48) by rfl']
 exact List.mem_map.mpr ⟨c-48,List.mem_range.mpr (by omega),by omega⟩
theorem yoa {r:Str}(g:yeV r):yfE [.str r] h=some (.bl true,h):=by
 obtain ⟨c,h1,h2,rfl⟩:=g
 unfold yfE
 rw [yp]
 show ob (yN _ [.val (.str ⟨#[c]⟩)] h) fnK=_
 symm
 rw [show (⟨#[c]⟩:Str).length=1 from rfl]
 symm
 simp only [yqx h1 h2]
 rfl
theorem yky {n:Int}(h0:0<=n) (h1:n<B64):yea [.str (toString n:String)] h=some (.int n,h):=by
 obtain ⟨d1,d2,d3,d4,d5⟩:=yqs n.toNat
 have hl:=str_len h0 (k:=20) (by decide) (Int.lt_trans h1 yqr)
 have hn:(Str.ofString (toString n)).length≠0:=(yuC h0 h1).2.1
 have e:=yqt h0
 have hz:n=0->Str.ofString (toString n) = "0":=fun z=>by subst z;rfl'
 have hat:atI (Str.ofString (toString n)).cps.toList 0=some ((yon n.toNat).headD 0):=by
  rw [e]
  cases q:yon n.toNat with
  | nil=>exact absurd q d1
  | cons a l=>exact yCV
 have hh:(yon n.toNat).headD 0=48->n=0:=fun q=>Classical.byContradiction fun z=>d4 (by omega) (by
  cases q2:yon n.toNat with
  | nil=>exact absurd q2 d1
  | cons a l=>rw [q2] at q;simpa using q)
 generalize hs:Str.ofString (toString n)=z at *
 unfold yea
 rw [yp]
 show ob (yo _ _ [.val (.str z),.no] h) fnK=_
 have ml:z.cps.toList.all (fun c=>decide (c∈("0123456789":Str).cps.toList))=true:=List.all_eq_true.mpr fun c hc=>decide_eq_true (ytg (d2 c (e ▸ hc)).1 (d2 c (e ▸ hc)).2)
 symm
 rw [if_pos (by omega:z.length<=100000)]
 simp only [show (1:Int)<=z.length by omega,show (z.length:Int)<=20 by omega]
 symm
 rw [ynZ (by omega),ml]
 symm
 rw [hat]
 symm
 have hb:∀ h:AH,ypy [.str z] h=some (.int n,h):=fun h=>by
  unfold ypy
  show (if _ then _ else _)=_
  rw [if_pos ⟨by rw [e];exact d1,by rw [e];exact d2,by omega⟩,e,d3,Int.toNat_of_nonneg h0]
 rw [if_neg (not_not_intro trivial),if_pos (by omega)]
 simp only [sgn,hb]
 symm
 rw [if_pos h1]
 split
 .rename_i q
  have q:(yon n.toNat).headD 0=48:=by
   have q2:=congrArg (fun s:Str=>s.cps.toList) q
   rw [show ("0":Str).cps.toList=[48] by rfl'] at q2
   simpa using q2
  rw [if_neg (not_not_intro (hz (hh q)))]
 .rfl
end
local macro_rules | `(tactic| walk_at "qq")=>`(tactic| simp_all? only [$(sl_ "ynV yfi ynW ykx ynX yqw ynY"),*])
section
def rdr (ws:List Str) (k:Nat):Nd:=.ins 10 ["words","at"] [.lst (ws.map .str),.int k]
def hR (h:AH) (o:Nat) (ws:List Str) (k:Nat):AH:=h.set o (rdr ws k)
variable {h:AH}{o:Nat}{ws:List Str}{k:Nat}
theorem yth (ho:o<h.length):(hR h o ws k)[o]?=some (.ins 10 ["words","at"] [.lst (ws.map .str),.int k]):=getElem?_set_self ho
theorem yAg {j:Nat}:(hR h o ws k).set o (.ins 10 ["words","at"] [.lst (ws.map .str),.int j])=hR h o ws j:=by unfold hR rdr;rw [List.set_set]
theorem ync (ho:o<h.length):yen [10] "words" (.loc o) (hR h o ws k)=some (.lst (ws.map .str),hR h o ws k):=by
 unfold yen ydL
 simp only [yth ho]
 rw [if_pos (by rfl'),show idxOf ("words":Str) ["words","at"]=0 by rfl']
 rfl
theorem ywU (ho:o<h.length):yen [10,12] "at" (.loc o) (hR h o ws k)=some (.int k,hR h o ws k):=by
 unfold yen ydL
 simp only [yth ho]
 rw [if_pos (by rfl'),show idxOf ("at":Str) ["words","at"]=1 by rfl']
 rfl
theorem mR {m:Str}{f:Fn}{ys:List PV}{a:XE}{aa:XA}{ρ:PSt}{h0 h2:AH}(ho:o<h.length) (hm:m∉(["words","at"]:List Str)) (ea:a ρ h0=some (.loc o,hR h o ws k)) (eb:aa ρ (hR h o ws k)=some (ys,h2)):yk 10 m f a aa ρ h0=f (.loc o::ys) h2:=by
 unfold yk ydL
 rw [ea,yce]
 simp only [yth ho]
 rw [if_pos ⟨trivial,hm⟩,eb];rfl
theorem pR (ho:o<h.length) {j:Nat}{eo ev:XE}{ρ:PSt}(e1:ev ρ (hR h o ws k)=some (.int (j:Int),hR h o ws k)) (e2:eo ρ (hR h o ws k)=some (.loc o,hR h o ws k)):ycW [10,12] "at" eo ev ρ (hR h o ws k)=some (.nx ρ,hR h o ws j):=by
 unfold ycW
 rw [e1,yce,e2,yce]
 simp only [yth ho]
 rw [if_pos ⟨by decide,by decide⟩]
 show some (Out.nx ρ,(hR h o ws k).set o (.ins 10 (putN "at" (.int j) ["words","at"] [.lst (ws.map .str),.int k]).1 (putN "at" (.int j) ["words","at"] [.lst (ws.map .str),.int k]).2))=_
 rw [show putN "at" (.int j) ["words","at"] [.lst (ws.map .str),.int k]=(([("words":Str),"at"]:List Str),[PV.lst (ws.map .str),.int j]) from rfl,yAg]
theorem yxD {w:Str}{r:List Str}(e:ws.drop k=w::r):ws[k]?=some w/\k<ws.length/\ws.drop (k+1)=r:=by
 have hk:k<ws.length:=Classical.byContradiction fun z=>by rw [List.drop_of_length_le (by omega)] at e;cases e
 rw [List.drop_eq_getElem_cons hk] at e
 cases e
 exact ⟨List.getElem?_eq_getElem hk,hk,rfl⟩
theorem yDh (e:ws.drop k=[]):ws.length<=k:=List.drop_eq_nil_iff.mp e
theorem ygC {w:Str}{r:List Str}(ho:o<h.length) (hl:ws.length<=100000) (e:ws.drop k=w::r):yP [.loc o] (hR h o ws k)=some (.str w,hR h o ws k):=by
 obtain ⟨e1,e2,_⟩:=yxD e
 unfold yP
 rw [yp]
 show ob (yo _ _ [.val (.loc o)] (hR h o ws k)) fnK=_
 have e3:atI (ws.map PV.str) (k:Int)=some (.str w):=ydS (by rw [getElem?_map,e1];rfl)
 simp_all? only [ync ho,ywU ho,length_map,Int.ofNat_lt,e2,e3,↓reduceIte]
theorem yiZ (ho:o<h.length) (hl:ws.length<=100000) (e:ws.drop k=[]):yP [.loc o] (hR h o ws k)=some (.non,hR h o ws k):=by
 have e2:=yDh e
 unfold yP
 rw [yp]
 show ob (yo _ _ [.val (.loc o)] (hR h o ws k)) fnK=_
 simp_all? only [ync ho,ywU ho,length_map,Int.ofNat_lt,show ¬ k<ws.length by omega,↓reduceIte]
theorem ygD {w:Str}{r:List Str}(ho:o<h.length) (hl:ws.length<=100000) (e:ws.drop k=w::r):ybo [.loc o] (hR h o ws k)=some (.str w,hR h o ws (k+1)):=by
 unfold ybo
 rw [yp]
 show ob (yo _ _ [.val (.loc o),.no] (hR h o ws k)) fnK=_
 symm
 rw [mR ho (by rfl') rfl rfl,ygC ho hl e]
 symm
 rw [if_neg (by intro z;cases z),pR (j:=k+1) ho (by symm;simp only [ywU ho];symm;rfl) rfl]
 symm
theorem ywV {w:Str}{r:List Str}(ho:o<h.length) (hl:ws.length<=100000) (e:ws.drop k=w::r):ybJ [.loc o,.str w] (hR h o ws k)=some (.non,hR h o ws (k+1)):=by
 unfold ybJ
 rw [yp]
 show ob (yo _ _ [.val (.loc o),.val (.str w),.no] (hR h o ws k)) fnK=_
 symm
 rw [mR ho (by rfl') rfl rfl,ygD ho hl e]
 symm
theorem ycz {w:Str}{r:List Str}(g:yeV w) (ho:o<h.length) (hl:ws.length<=100000) (e:ws.drop k=w::r):yF [.loc o] (hR h o ws k)=some (.str w,hR h o ws (k+1)):=by
 unfold yF
 rw [yp]
 show ob (yo _ _ [.val (.loc o),.no] (hR h o ws k)) fnK=_
 symm
 rw [mR ho (by rfl') rfl rfl,ygD ho hl e]
 simp_all? only [yoa g]
theorem yhg {n:Int}{r:List Str}(h0:0<=n) (h1:n<B64) (ho:o<h.length) (hl:ws.length<=100000) (e:ws.drop k=Str.ofString (toString n)::r):ybl [.loc o] (hR h o ws k)=some (.int n,hR h o ws (k+1)):=by
 unfold ybl
 rw [yp]
 show ob (yo _ _ [.val (.loc o),.no,.no] (hR h o ws k)) fnK=_
 symm
 rw [mR ho (by rfl') rfl rfl,ygD ho hl e]
 simp_all? only [yky h0 h1]
 rw [if_neg (by intro z;cases z)]
theorem yDi {r:Str}{n:Int}{h:AH}:ydF [.str r,.int n] h=some (.ins 1 ["slot","number"] [.str r,.int n],h):=rfl
theorem yAh {r s:Str}{h:AH}:ydo [.str r,.str s] h=some (.ins 3 ["slot","place"] [.str r,.str s],h):=rfl
theorem yDj {r s:Str}{h:AH}:ydG [.str r,.str s] h=some (.ins 4 ["place","slot"] [.str r,.str s],h):=rfl
theorem yhJ {t:T}{w:Str}{tl rest:List Str}(g:gdT t) (ew:wdT t=w::tl) (ho:o<h.length) (hl:ws.length<=100000) (e:ws.drop k=tl++rest):ybq [.loc o,.str w] (hR h o ws k)=some (ybZ t,hR h o ws (k+tl.length)):=by
 unfold ybq
 rw [yp]
 show ob (yo _ _ [.val (.loc o),.val (.str w),.no,.no,.no] (hR h o ws k)) fnK=_
 cases t with
 | let_ r n =>
  cases ew
  have e1:=(yxD e).2.2
  walk_at "qq"
  rw [mR ho (by rfl') rfl rfl,ycz g.1 ho hl e]
  symm
  rw [mR ho (by rfl') rfl rfl,yhg g.2.1 g.2.2 ho hl e1]
  simp_all? only [yDi]
  rfl
 | take r s =>
  cases ew
  have e1:=(yxD e).2.2
  walk_at "qq"
  rw [mR ho (by rfl') rfl rfl,ycz g.1 ho hl e]
  symm
  rw [mR ho (by rfl') rfl rfl,ycz g.2 ho hl e1]
  simp_all? only [yAh]
  rfl
 | put r s =>
  cases ew
  have e1:=(yxD e).2.2
  walk_at "qq"
  rw [mR ho (by rfl') rfl rfl,ycz g.1 ho hl e]
  symm
  rw [mR ho (by rfl') rfl rfl,ycz g.2 ho hl e1]
  simp_all? only [yDj]
  rfl
 | wait =>
  cases ew
  walk_at "qq"
  rfl
end
section
variable {h:AH}{o:Nat}{ws:List Str}{k:Nat}
theorem fw {t:T}(g:gdT t):∃ w tl,wdT t=w::tl/\w≠")"/\(w = "if")=False/\(w = "either")=False/\(w = "try")=False:=by
 cases t with
 | _=>exact ⟨_,_,rfl,by rfl',eq_false (by rfl'),eq_false (by rfl'),eq_false (by rfl')⟩
theorem ynd {ws a b:List Str}{k:Nat}(e:ws.drop k=a++b):ws.drop (k+a.length)=b:=by
 rw [<- List.drop_drop,e,List.drop_left]
theorem yqy {t:T}{rest:List Str}(g:gdT t) (ho:o<h.length) (hl:ws.length<=100000) (e:ws.drop k=wdT t++rest):ybf [.loc o,.int 0] (hR h o ws k)=some (ybZ t,hR h o ws (k+(wdT t).length)):=by
 obtain ⟨w,tl,ew,_,n1,n2,n3⟩:=fw g
 rw [ew] at e
 have e1:=(yxD e).2.2
 unfold ybf
 rw [yp]
 show ob (yo _ _ [.val (.loc o),.val (.int 0),.no] (hR h o ws k)) fnK=_
 symm
 rw [mR ho (by rfl') rfl rfl,ygD ho hl e]
 simp_all? only [n1,n2,n3,↓reduceIte]
 rw [mR ho (by rfl') rfl rfl,yhJ g ew ho hl e1,ew]
 symm
 rw [show k+1+tl.length=k+(tl.length+1) by omega]
theorem yqz (ho:o<h.length) (hl:ws.length<=100000):∀ (r:List T) (acc:List PV) (k fu:Nat),gdL r->r.length<fu->acc.length+r.length<=1000->ws.drop k=wdR r ->
  whl yhI ykv fu [.val (.loc o),.val (.int 0),.own (.lst acc)] (hR h o ws k)=some (.nx [.val (.loc o),.val (.int 0),.own (.lst (acc++r.map ybZ))],hR h o ws (k+(wdR r).length))
 | [],acc,k,fu+1,_,_,_,e=>by
  rw [ymG]
  have c:yhI [.val (.loc o),.val (.int 0),.own (.lst acc)] (hR h o ws k)=some (false,hR h o ws k):=by
   unfold yhI
   symm
   rw [mR ho (by rfl') rfl rfl,yiZ ho hl e]
   symm
   rfl
  rw [c,yce,if_neg (by intro z;cases z)]
  show _=some (Out.nx [.val (.loc o),.val (.int 0),.own (.lst (acc++[]))],hR h o ws (k+0))
  rw [append_nil];rfl
 | t::r,acc,k,fu+1,g,hu,ha,e=>by
  rw [ymG]
  have e:ws.drop k=(";":Str)::(wdT t++wdR r):=e
  have e1:=(yxD e).2.2
  have hu:r.length+1<fu+1:=hu
  have ha:acc.length+(r.length+1)<=1000:=ha
  have c:yhI [.val (.loc o),.val (.int 0),.own (.lst acc)] (hR h o ws k)=some (true,hR h o ws k):=by
   unfold yhI
   symm
   rw [mR ho (by rfl') rfl rfl,ygC ho hl e]
   symm
  have b:ykv [.val (.loc o),.val (.int 0),.own (.lst acc)] (hR h o ws k)=some (.nx [.val (.loc o),.val (.int 0),.own (.lst (acc++[ybZ t]))],hR h o ws (k+1+(wdT t).length)):=by
   unfold ykv
   symm
   rw [mR ho (by rfl') rfl rfl,ywV ho hl e]
   symm
   rw [yun rfl,mR ho (by rfl') rfl rfl,yqy (g t mem_cons_self) ho hl e1]
   symm
   rw [if_pos (by omega)]
  rw [c,yce,if_pos rfl,b,yce]
  show whl yhI ykv fu _ _=_
  rw [yqz ho hl r (acc++[ybZ t]) (k+1+(wdT t).length) fu (fun t ht=>g t (mem_cons_of_mem _ ht)) (by omega) (by rw [length_append,List.length_singleton];omega) (ynd e1)]
  show _=some (Out.nx [.val (.loc o),.val (.int 0),.own (.lst (acc++(ybZ t::r.map ybZ)))],hR h o ws (k+((wdT t++wdR r).length+1)))
  rw [append_assoc,length_append,List.singleton_append,show k+1+(wdT t).length+(wdR r).length=k+((wdT t).length+(wdR r).length+1) by omega]
theorem list_eq (ho:o<h.length) (hl:ws.length<=100000) {ts:List T}(g:gdL ts) (hc:ts.length<=90) (e:ws.drop 0=wdL ts) :
  ybC [.loc o,.int 0] (hR h o ws 0)=some (.lst (ts.map ybZ),hR h o ws (0+(wdL ts).length)):=by
 unfold ybC
 rw [yp]
 show ob (yo _ (yo _ (yo (yhW 100 yhI ykv) _)) [.val (.loc o),.val (.int 0),.no] (hR h o ws 0)) fnK=_
 cases ts with
 | nil =>
  symm
  rw [mR ho (by rfl') rfl rfl,yiZ ho hl e]
  symm
  rw [if_pos (show isN PV.non=true from rfl)];rfl
 | cons t r =>
  have e:ws.drop 0=wdT t++wdR r:=e
  have hc:r.length+1<=90:=hc
  have gt:=g t mem_cons_self
  obtain ⟨w,tl,ew,nw,_⟩:=fw gt
  have e0:ws.drop 0=w::(tl++wdR r):=by rw [e,ew];rfl
  symm
  rw [mR ho (by rfl') rfl rfl,ygC ho hl e0]
  symm
  rw [if_neg (by intro z;cases z),mR ho (by rfl') rfl rfl,ygC ho hl e0]
  simp_all? only [nw,↓reduceIte]
  rw [mR ho (by rfl') rfl rfl,yqy gt ho hl e]
  symm
  rw [show yhW 100 yhI ykv [PVar.val (PV.loc o),PVar.val (PV.int 0),PVar.own (Nd.lst [ybZ t])] (hR h o ws (0+(wdT t).length))=whl yhI ykv 100 [PVar.val (PV.loc o),PVar.val (PV.int 0),PVar.own (Nd.lst [ybZ t])] (hR h o ws (0+(wdT t).length)) from rfl,
   yqz ho hl r [ybZ t] (0+(wdT t).length) 100 (fun t ht=>g t (mem_cons_of_mem _ ht)) (by omega) (by rw [List.length_singleton];omega) (ynd e)]
  symm
  show some (PV.lst ([ybZ t]++r.map ybZ),_)=some (PV.lst (ybZ t::r.map ybZ),hR h o ws (0+(wdT t++wdR r).length))
  rw [length_append,<- Nat.add_assoc];rfl
end
theorem yuF (t:T):(wdT t).length<=4:=by cases t<;>simp [wdT]
theorem yqA:∀ ts:List T,(wdR ts).length<=5*ts.length
 | []=>Nat.le_refl _
 | t::r=>by
  have h1:=yuF t
  have h2:=yqA r
  show (wdT t++wdR r).length+1<=5*(r.length+1)
  rw [length_append]
  omega
theorem yqB:∀ ts:List T,(wdL ts).length<=5*ts.length
 | []=>Nat.le_refl _
 | t::r=>by
  have h1:=yuF t
  have h2:=yqA r
  show (wdT t++wdR r).length<=5*(r.length+1)
  rw [length_append]
  omega
def yti (ts:List T):Str:=Str.join " ; " (ts.map shT)
theorem yne (sep:Str) (hs:sep.length<=3):∀ l:List Str,frs l->(Str.join sep l).length<=23*l.length
 | [],_=>by show ("":Str).length<=_;rw [yuB];omega
 | [x],f=>by have:=(f x mem_cons_self).2.2;show x.length<=23*1;omega
 | x::y::r,f=>by
  have h1:=(f x mem_cons_self).2.2
  have h2:=yne sep hs (y::r) fun w hw=>f w (mem_cons_of_mem _ hw)
  show (x++sep++Str.join sep (y::r)).length<=23*((y::r).length+1)
  rw [yfX,yfX]
  omega
section
variable {h:AH}
theorem ylS {ts:List T}(g:gdL ts) (hn:ts.length<=79):yeJ [.str (yti ts)] h=some (.lst ((wdL ts).map .str),h):=by
 have et:yti ts=Str.join " " (wdL ts):=yiY ts
 have hl:=yne " " (by rfl') (wdL ts) (ywS g)
 have hw:=yqB ts
 rw [et]
 unfold yeJ
 rw [yp]
 show ob (yo _ _ [.val (.str (Str.join " " (wdL ts)))] h) fnK=_
 symm
 cases ts with
 | nil =>
  rw [if_pos (show Str.join " " (wdL []) = "" by rfl')]
  rfl
 | cons t r =>
  have ne:wdL (t::r)≠[]:=fun z=>ywR t (List.append_eq_nil_iff.mp z).1
  rw [if_neg (ywT (ywS g) ne),ywo (by omega)]
  symm
  rw [ygV _ ne fun w hw=>(ywS g w hw).1]
end
inductive Rw where
 | let_ (r:Str) (n:Int)|take (r p:Str)|put (p s:Str)|wait|lay
noncomputable def ycE:Rw->PV
 | .let_ r n=>.tup [.str "let",.str r,.int n]
 | .take r p=>.tup [.str "take",.str r,.str p]
 | .put p s=>.tup [.str "put",.str p,.str s]
 | .wait=>.tup [.str "wait"]
 | .lay=>.tup [.str "lay"]
def rwT:T->Rw
 | .let_ r n=>.let_ r n
 | .take r s=>.take r s
 | .put s t=>.put s t
 | .wait=>.wait
section
variable {h:AH}
theorem ylT {i:Nat}{ρ:PSt}{xs:List PV}(e:yf i ρ h=some (.lst xs,h)):xIL (yf i) ρ h=some (xs,h):=yEG e
def kd:T->Nat
 | .let_ ..=>1|.take ..=>3|.put ..=>4|.wait=>9
theorem yqC {f:Nat->Fn}(t:T):ykc "long" f (ybZ t) h=f (kd t) [ybZ t] h:=by
 cases t
 all_goals exact yfv (by rfl')
theorem ykz {n:Nat}{ts:List T}(hl:ts.length<=79):yec (n+2) [.lst (ts.map ybZ)] h=some (.int ts.length,h):=by
 unfold yec
 dsimp only
 rw [yp]
 show ob (yN _ [.val (.lst (ts.map ybZ))] h) fnK=_
 symm
 rw [ylT rfl,yce]
 rw [if_pos (by rw [length_map];omega)]
 rw [yfU (f:=ybZ) (g:=fun _=>.int 1) fun t _=>by
  show ypB "long" (yqq (n+1)) (yf 0) [.val (ybZ t)] h=_
  rw [yui,yuf,yce,yqC t]
  cases t<;>rfl]
 symm
 show ob (yyQ [.lst (ts.map fun _=>PV.int 1)] h) _=_
 have:(ts.map fun _=>PV.int 1)=(replicate ts.length (1:Int)).map PV.int:=by rw [List.map_replicate,List.map_const']
 rw [this]
 unfold yyQ ybs
 simp only [yhY]
 show some (PV.int (replicate ts.length (1:Int)).sum,h)=_
 rw [List.sum_replicate_int,Int.mul_one]
theorem ywW {ts:List T}(g:gdL ts) (hn:ts.length<=79):yij [.str (yti ts)] h=some (.lst (ts.map ybZ),hR (h++[rdr (wdL ts) 0]) h.length (wdL ts) (0+(wdL ts).length)):=by
 have hwl:=yqB ts
 unfold yij
 rw [yp]
 show ob (yo _ _ [.val (.str (yti ts)),.no,.no] h) fnK=_
 symm
 rw [ylS g hn]
 symm
 rw [show ycJ [PV.lst (List.map PV.str (wdL ts))] h=some (rdr (wdL ts) 0,h) from rfl]
 symm
 have ho:h.length<(h++[rdr (wdL ts) 0]).length:=by simp
 have e0:h++[rdr (wdL ts) 0]=hR (h++[rdr (wdL ts) 0]) h.length (wdL ts) 0:=by unfold hR;simp
 generalize hG:h++[rdr (wdL ts) 0]=G at *
 have hdr:(wdL ts).drop (0+(wdL ts).length)=[]:=by simp
 rw [mR (ws:=wdL ts) (k:=0) ho (by rfl') (by rw [<- e0];rfl) rfl,list_eq (ws:=wdL ts) (ts:=ts) ho (by omega) g (by omega) List.drop_zero]
 symm
 rw [mR ho (by rfl') rfl rfl,yiZ ho (by omega) hdr]
 symm
 rw [if_neg (by intro z;cases z),ykz (n:=43) hn]
 symm
 rw [if_neg (by omega)]
theorem yAi {i:Nat}{e:XE}{ρ:PSt}{xs:List PV}(hx:ρ[i]?=some (.own (.lst xs))) {ys:List PV}{h1:AH}(he:e ρ h=some (.lst ys,h1)) (hl:xs.length+ys.length<=100000):ynP i e ρ h=some (.nx (ρ.set i (.own (.lst (xs++ys)))),h1):=by
 unfold ynP
 rw [hx]
 show ob (e ρ h) _=_
 rw [he,yce]
 show (if _ then _ else _)=_
 rw [if_pos hl]
theorem ykA (t:T) (f:Int):yfh [ybZ t,.int f] h=some (.lst [ycE (rwT t)],h):=by
 cases t<;>kernel_rfl!
theorem ykB {ts:List T}{f:Int}(hn:ts.length<=79):yed [.lst (ts.map ybZ),.int f] h=some (.lst (ts.map fun t=>ycE (rwT t)),h):=by
 unfold yed
 rw [yp]
 show ob (yo _ _ [.val (.lst (ts.map ybZ)),.val (.int f),.no,.no] h) fnK=_
 symm
 rw [ylT rfl,yce]
 refine ygR (fun i ρ h1=>h1=h/\∃ v,ρ=[.val (.lst (ts.map ybZ)),.val (.int f),.own (.lst ((ts.take i).map fun t=>ycE (rwT t))),v]) ⟨rfl,.no,rfl⟩ ?_ ?_
 .intro i x ρ h1 hx ⟨e1,v,e2⟩
  subst e1;subst e2
  rw [getElem?_map] at hx
  cases ht:ts[i]? with
  | none=>rw [ht] at hx;cases hx
  | some t =>
   rw [ht] at hx;cases hx
   have e3:ts.take (i+1)=ts.take i++[t]:=by rw [List.take_add_one,ht];rfl
   refine ⟨_,[.val (.lst (ts.map ybZ)),.val (.int f),.own (.lst ((ts.take (i+1)).map fun t=>ycE (rwT t))),.val (ybZ t)],h1,rfl,.inl ?_,rfl,_,rfl⟩
   rw [e3,map_append]
   have lt:(ts.take i).length<=ts.length:=by rw [length_take];omega
   refine (yAi (xs:=(ts.take i).map fun t=>ycE (rwT t)) rfl (ys:=[ycE (rwT t)]) (h1:=h1) ?_ (by rw [length_map,List.length_singleton];omega)).trans rfl
   have:ypM 2 ([.val (.lst (ts.map ybZ)),.val (.int f),.own (.lst ((ts.take i).map fun t=>ycE (rwT t))),.val (ybZ t)]:PSt) h1=some (.int ((ts.take i).map fun t=>ycE (rwT t)).length,h1):=rfl
   simp_all? only [this,ykA]
 .intro ρ h1 ⟨e1,v,e2⟩
  subst e1;subst e2
  rw [length_map,List.take_length]
  symm
theorem yob {ts:List T}(hn:ts.length<=79):ydM [.lst (ts.map ybZ)] h=some (.lst ((ts.map rwT++[Rw.lay]).map ycE),h):=by
 unfold ydM
 rw [yp]
 show ob (yN _ [.val (.lst (ts.map ybZ))] h) fnK=_
 symm
 rw [ykB hn]
 symm
 rw [if_pos (by rw [length_map];omega),map_append,map_map]
 rfl
end
section
variable {h:AH}
noncomputable def Stk (h:AH):List Nat->List (List Key×List PV)->Prop
 | [],[]=>True
 | l::ls,d::ds=>h[l]?=some (.dct d.1 d.2)/\Stk h ls ds
 | _,_=>False
theorem Stk.get {h:AH}:∀ {ls:List Nat}{ds:List (List Key×List PV)}(k:Nat),Stk h ls ds->k<ls.length->∃ l d,ls[k]?=some l/\ds[k]?=some d/\h[l]?=some (.dct d.1 d.2)
 | l::ls,d::ds,0,s,_=>⟨l,d,rfl,rfl,s.1⟩
 | l::ls,d::ds,k+1,s,hk=>by
  obtain ⟨l',d',e1,e2,e3⟩:=Stk.get k s.2 (by simpa using hk)
  exact ⟨l',d',by simpa using e1,by simpa using e2,e3⟩
 | [],[],_,_,hk=>by simp at hk
 | [],_::_,_,s,_=>s.elim
 | _::_,[],_,s,_=>s.elim
noncomputable def yAj (ds:List (List Key×List PV)) (j:Key):Nat->PV
 | 0=>.non
 | k+1=>match ds[k]? with|some d=>(match ykg d.1 d.2 j with|some x=>x|none=>yAj ds j k)|none=>.non
structure LG (h:AH) (o s b:Nat) (ls:List Nat) (ds:List (List Key×List PV)) (ks:List Key) (xs:List PV):Prop where
 ob:h[o]?=some (.ins 11 ["stack","last_seen"] [.loc s,.loc b])
 st:h[s]?=some (.lst (ls.map .loc))
 sn:h[b]?=some (.dct ks xs)
 dl:Stk h ls ds
theorem ylU {o s b:Nat}(e:h[o]?=some (.ins 11 ["stack","last_seen"] [.loc s,.loc b])):yen [11] "stack" (.loc o) h=some (.loc s,h):=by
 unfold yen ydL
 simp only [e]
 rw [if_pos (by rfl'),show idxOf ("stack":Str) ["stack","last_seen"]=0 by rfl']
 rfl
theorem yqD {o s b:Nat}(e:h[o]?=some (.ins 11 ["stack","last_seen"] [.loc s,.loc b])):yen [11] "last_seen" (.loc o) h=some (.loc b,h):=by
 unfold yen ydL
 simp only [e]
 rw [if_pos (by rfl'),show idxOf ("last_seen":Str) ["stack","last_seen"]=1 by rfl']
 rfl
theorem ywX {n:Nat}{l:List Nat}{t:Nat}(e:h[n]?=some (.lst ((l++[t]).map PV.loc))):ycC (.loc n) (.int (-1)) h=some (.loc t,h):=by
 unfold ycC
 simp only [e]
 have:atI ((l++[t]).map PV.loc) (-1)=some (.loc t):=by
  unfold atI ixN
  simp
  rw [if_pos (by omega),bind_some,show (-1+((l.length:Int)+1)).toNat=l.length by omega]
  simp
 rw [this]
theorem ywY {n:Nat}{ks:List Key}{xs:List PV}{i:Int}{ek ed:XE}{ρ:PSt}(ek':ek ρ h=some (.int i,h)) (ed':ed ρ h=some (.loc n,h)) (e:h[n]?=some (.dct ks xs)):yxx false ek ed ρ h=some (.bl (ykg ks xs (.inl i)).isSome,h):=by
 unfold yxx
 rw [ek',yce,ed',yce]
 unfold ysw
 simp only [e,keyOf]
 rfl
theorem ytj {n:Nat}{ks:List Key}{xs:List PV}{i:Int}{x:PV}{ek ed:XE}{ρ:PSt}(ed':ed ρ h=some (.loc n,h)) (ek':ek ρ h=some (.int i,h)) (e:h[n]?=some (.dct ks xs)) (hx:ykg ks xs (.inl i)=some x):ybn ed ek ρ h=some (x,h):=by
 unfold ybn
 rw [ed',yce,ek',yce]
 unfold ysw
 simp only [e,keyOf,hx]
theorem yja {n:Nat}{ks:List Key}{xs:List PV}{i:Int}{x:PV}{ed ek ev:XE}{ρ:PSt}(ev':ev ρ h=some (x,h)) (ed':ed ρ h=some (.loc n,h)) (ek':ek ρ h=some (.int i,h)) (e:h[n]?=some (.dct ks xs)) (hl:ks.length<1000) :
  yfx ed ek ev ρ h=some (.nx ρ,h.set n (.dct (ydc ks xs (.inl i) x).1 (ydc ks xs (.inl i) x).2)):=by
 unfold yfx
 rw [ev',yce,ed',yce,ek',yce]
 simp only [e,keyOf]
 rw [if_pos hl]
end
section
variable {h:AH}{o s b:Nat}{ls:List Nat}{ds:List (List Key×List PV)}{ks:List Key}{xs:List PV}
theorem ytk {i:Int}(g:LG h o s b ls ds ks xs):∀ (k:Nat),k<=ls.length->∀ c:PVar,
  ob (ykU s true (yy 2) (ybx (ym (yxx false (yf 1) (yf 2))) (yN (ybn (yf 2) (yf 1))) (yG)) k (ls.length-k) [.val (.loc o),.val (.int i),c] h) (fun o h1=>ob (sqK (yN (xC .non)) o h1) fnK)=some (yAj ds (.inl i) k,h):=by
 intro k
 induction k with
 | zero =>
  intro _ c
  unfold ykU
  simp only [g.st]
  rw [if_pos (by simp),yce,yyZ]
  rfl
 | succ k ih =>
  intro hk c
  unfold ykU
  simp only [g.st]
  obtain ⟨l,d,e1,e2,e3⟩:=g.dl.get k (by omega)
  have e4:(ls.map PV.loc)[k]?=some (.loc l):=by rw [getElem?_map,e1];rfl
  simp only [if_true,e4]
  have er:yy 2 (.loc l) [.val (.loc o),.val (.int i),c]=some [.val (.loc o),.val (.int i),.val (.loc l)]:=rfl
  rw [er,bind_some,yzb,yug,ywY (n:=l) rfl rfl e3,yce,yEd,yce]
  have ek:ls.length-(k+1)+1=ls.length-k:=by omega
  unfold yAj
  simp only [e2]
  cases hg:ykg d.1 d.2 (.inl i) with
  | none =>
   rw [if_neg (by simp),yuh,yce]
   dsimp only
   rw [ek]
   exact ih (by omega) _
  | some x =>
   rw [if_pos (show (some x).isSome=true from rfl),ypC,ytj (n:=l) rfl rfl e3 hg,yce,yce]
   rfl
theorem yAk {i:Int}(g:LG h o s b ls ds ks xs):yew [.loc o,.int i] h=some (yAj ds (.inl i) ls.length,h):=by
 unfold yew
 rw [yp]
 show ob (yo _ _ [.val (.loc o),.val (.int i),.no] h) fnK=_
 rw [yvV]
 have:=ytk (i:=i) g ls.length (Nat.le_refl _) .no
 rw [sub_self] at this
 rw [yyT,<- this]
 unfold yiO
 rw [ypD,show yf 0 [PVar.val (.loc o),.val (.int i),.no] h=some (.loc o,h) from rfl,yce,ylU g.ob,yce]
 simp only [g.st,length_map]
theorem ytl {i:Int}{v:PV}{t:Nat}{d:List Key×List PV}(g:LG h o s b (ls++[t]) ds ks xs) (ht:h[t]?=some (.dct d.1 d.2)) (hl:d.1.length<1000):ydY [.loc o,.int i,v] h=some (.non,h.set t (.dct (ydc d.1 d.2 (.inl i) v).1 (ydc d.1 d.2 (.inl i) v).2)):=by
 unfold ydY
 rw [yp,yvV,yzc,yEc,ypD,show yf 0 ([PV.loc o,.int i,v].map .val++replicate (4-[PV.loc o,.int i,v].length) .no) h=some (.loc o,h) from rfl,yce,ylU g.ob,yce]
 show ob (ob (ob (ycC (.loc s) (.int (-1)) h) _) _) _=_
 rw [ywX g.st,yce]
 show ob (yfx (yf 3) (yf 1) (yf 2) [.val (.loc o),.val (.int i),.val v,.val (.loc t)] h) fnK=_
 rw [yja (n:=t) (i:=i) (x:=v) rfl rfl rfl ht hl,yce]
 rfl
end
section
variable {h:AH}{o s b:Nat}{ls:List Nat}{ds:List (List Key×List PV)}{ks:List Key}{xs:List PV}
end
def At (h:AH) (m:List (Nat×Nd)):Prop:=(m.map (·.1)).Nodup/\∀ p∈m,h[p.1]?=some p.2
section
variable {h:AH}{m a b:List (Nat×Nd)}
theorem At.get (A:At h m) (i:Nat) {n:Nat}{d:Nd}(e:m[i]?=some (n,d)):h[n]?=some d:=A.2 _ (mem_of_getElem? e)
theorem At.lt (A:At h m) {p:Nat×Nd}(hp:p∈m):p.1<h.length:=(List.getElem?_eq_some_iff.mp (A.2 p hp)).1
theorem At.upd {n:Nat}{d:Nd}(d':Nd) (A:At h (a++(n,d)::b)):At (h.set n d') (a++(n,d')::b):=by
 have hn:n<h.length:=A.lt (p:=(n,d)) (by simp)
 refine ⟨by have:=A.1;simpa using this,fun p hp=>?_⟩
 by_cases q:p.1=n
 .have:p=(n,d'):=by
   have nd:=A.1
   rw [map_append,map_cons,List.nodup_append] at nd
   rcases List.mem_append.mp hp with z|z
   .exact absurd q (nd.2.2 _ (List.mem_map_of_mem z) _ mem_cons_self)
   .rcases mem_cons.mp z with z|z
    .exact z
    .exact absurd (show n∈b.map (·.1) by rw [<- q];exact List.mem_map_of_mem z) (List.nodup_cons.mp nd.2.1).1
  rw [this,getElem?_set_self hn]
 .rw [getElem?_set_ne (fun z=>q z.symm)]
  refine A.2 p ?_
  rcases List.mem_append.mp hp with z|z
  .exact mem_append_left _ z
  .rcases mem_cons.mp z with z|z
   .exact absurd (by rw [z]) q
   .exact mem_append_right _ (mem_cons_of_mem _ z)
theorem At.new (d:Nd) (A:At h (a++b)):At (h++[d]) (a++(h.length,d)::b):=by
 have lt:∀ p∈a++b,p.1<h.length:=fun p hp=>A.lt hp
 refine ⟨?_,fun p hp=>?_⟩
 .have nd:=A.1
  rw [map_append,List.nodup_append] at nd
  rw [map_append,map_cons,List.nodup_append]
  refine ⟨nd.1,List.nodup_cons.mpr ⟨fun z=>?_,nd.2.1⟩,fun x hx y hy=>?_⟩
  .obtain ⟨p,hp,e⟩:=List.mem_map.mp z
   have:=lt p (mem_append_right _ hp)
   omega
  .rcases mem_cons.mp hy with rfl|hy
   .obtain ⟨p,hp,e⟩:=List.mem_map.mp hx
    have:=lt p (mem_append_left _ hp)
    omega
   .exact nd.2.2 x hx y hy
 .rcases List.mem_append.mp hp with z|z
  .rw [getElem?_append_left (lt p (mem_append_left _ z))];exact A.2 p (mem_append_left _ z)
  .rcases mem_cons.mp z with z|z
   .rw [z];simp
   .rw [getElem?_append_left (lt p (mem_append_right _ z))];exact A.2 p (mem_append_right _ z)
theorem At.sub {m':List (Nat×Nd)}(A:At h m) (s:m'.Sublist m):At h m':=⟨(s.map _).nodup A.1,fun p hp=>A.2 p (s.subset hp)⟩
theorem At.perm {m':List (Nat×Nd)}(A:At h m) (s:m'.Perm m):At h m':=⟨(s.map _).nodup_iff.mpr A.1,fun p hp=>A.2 p (s.subset hp)⟩
theorem fl {n k:Nat}{ns:List Str}{xs:List PV}(i:Nat) {cs:List Nat}{f:Str}{y:PV}(e:h[n]?=some (.ins k ns xs)) (hk:k∈cs) (hi:(decide (f∈ns) && ns.idxOf f == i)=true) (hy:xs[i]?=some y):yen cs f (.loc n) h=some (y,h):=by
 obtain ⟨h1,h2⟩:=Bool.and_eq_true_iff.mp hi
 have h2:=eq_of_beq h2
 unfold yen ydL
 simp only [e]
 rw [if_pos ⟨hk,of_decide_eq_true h1⟩,h2,hy]
def ytm (nu ma cr en:Nat):Nd:=.ins 15 ["numbers","marks","crew","entries"] [.loc nu,.loc ma,.loc cr,.loc en]
noncomputable def ycU (ds:List PV) (w nth:Int) (sl:Bool) (bf:List Int) (rn:Nat):Nd:=.ins 14 ["deeds","width","nth","sleeps","before","run"] [.lst ds,.int w,.int nth,.bl sl,.lst (bf.map .int),.loc rn]
noncomputable def yoo (hl:Nat) (w:Int) (lg:Nat) (rows:List PV) (t:Int) (sn sd:Nat):Nd:=.ins 12 ["held","width","log","rows","at","seen_stamps","sides"] [.loc hl,.int w,.loc lg,.lst rows,.int t,.loc sn,.loc sd]
theorem ycG {n nu ma cr en:Nat}(e:h[n]?=some (ytm nu ma cr en)):yen [15] "numbers" (.loc n) h=some (.loc nu,h)/\yen [15] "marks" (.loc n) h=some (.loc ma,h)/\yen [15] "crew" (.loc n) h=some (.loc cr,h)/\yen [15] "entries" (.loc n) h=some (.loc en,h) :=
 ⟨fl 0 e (by decide) (by rfl') rfl,fl 1 e (by decide) (by rfl') rfl,fl 2 e (by decide) (by rfl') rfl,fl 3 e (by decide) (by rfl') rfl⟩
theorem yda {n:Nat}{ds:List PV}{w nth:Int}{sl:Bool}{bf:List Int}{rn:Nat}(e:h[n]?=some (ycU ds w nth sl bf rn)):yen [14] "deeds" (.loc n) h=some (.lst ds,h)/\yen [12,14] "width" (.loc n) h=some (.int w,h)/\yen [14] "nth" (.loc n) h=some (.int nth,h)/\yen [14] "sleeps" (.loc n) h=some (.bl sl,h)/\yen [14] "before" (.loc n) h=some (.lst (bf.map .int),h)/\yen [14] "run" (.loc n) h=some (.loc rn,h) :=
 ⟨fl 0 e (by decide) (by rfl') rfl,fl 1 e (by decide) (by rfl') rfl,fl 2 e (by decide) (by rfl') rfl,fl 3 e (by decide) (by rfl') rfl,fl 4 e (by decide) (by rfl') rfl,fl 5 e (by decide) (by rfl') rfl⟩
theorem ydK {n hl:Nat}{w:Int}{lg:Nat}{rows:List PV}{t:Int}{sn sd:Nat}(e:h[n]?=some (yoo hl w lg rows t sn sd)):yen [12] "held" (.loc n) h=some (.loc hl,h)/\yen [12,14] "width" (.loc n) h=some (.int w,h)/\yen [12] "log" (.loc n) h=some (.loc lg,h)/\yen [12] "rows" (.loc n) h=some (.lst rows,h)/\yen [10,12] "at" (.loc n) h=some (.int t,h)/\yen [12] "seen_stamps" (.loc n) h=some (.loc sn,h)/\yen [12] "sides" (.loc n) h=some (.loc sd,h) :=
 ⟨fl 0 e (by decide) (by rfl') rfl,fl 1 e (by decide) (by rfl') rfl,fl 2 e (by decide) (by rfl') rfl,fl 3 e (by decide) (by rfl') rfl,fl 4 e (by decide) (by rfl') rfl,fl 5 e (by decide) (by rfl') rfl,fl 6 e (by decide) (by rfl') rfl⟩
end
def mK (k:Nat) (m:Str) (f:Fn) (as:XA) (ρ:PSt) (x:PV) (h1:AH):Option (PV×AH):=match ydL x h1 with
 | some (k',ns,_)=>if k'=k/\m∉ns then ob (as ρ h1) fun ys h2=>f (x::ys) h2 else none
 | none=>none
def fL (cs:List Nat) (f:Str) (ρ:PSt) (y x:PV) (h2:AH):Option (Out×AH):=match x with
 | .loc n=>(match h2[n]? with|some (.ins k ns xs)=>if k∈cs/\ns.length<1000 then some (.nx ρ,h2.set n (.ins k (putN f y ns xs).1 (putN f y ns xs).2)) else none|_=>none)
 | _=>none
section
variable {h:AH}{ρ:PSt}
theorem yei {k:Nat}{m:Str}{f:Fn}{e:XE}{as:XA}:yk k m f e as ρ h=ob (e ρ h) fun x h1=>mK k m f as ρ x h1:=id rfl
theorem ytn {cs:List Nat}{f:Str}{eo ev:XE}:ycW cs f eo ev ρ h=ob (ev ρ h) fun y h1=>ob (eo ρ h1) fun x h2=>fL cs f ρ y x h2:=id rfl
theorem yw {n k:Nat}{ns:List Str}{xs:List PV}{m:Str}{f:Fn}{as:XA}(e:h[n]?=some (.ins k ns xs)) (hm:decide (m∈ns)=false):mK k m f as ρ (.loc n) h=ob (as ρ h) fun ys h2=>f (.loc n::ys) h2:=by
 unfold mK ydL
 simp only [e]
 rw [if_pos ⟨trivial,of_decide_eq_false hm⟩]
theorem yfj {n k:Nat}{ns ns':List Str}{xs xs':List PV}{cs:List Nat}{f:Str}{y:PV}(e:h[n]?=some (.ins k ns xs)) (hk:(decide (k∈cs) && decide (ns.length<1000))=true) (hp:putN f y ns xs=(ns',xs')):fL cs f ρ y (.loc n) h=some (.nx ρ,h.set n (.ins k ns' xs')):=by
 obtain ⟨h1,h2⟩:=Bool.and_eq_true_iff.mp hk
 unfold fL
 simp only [e]
 rw [if_pos ⟨of_decide_eq_true h1,of_decide_eq_true h2⟩,hp]
end
def SL:List Str:=["a","b","c","d","e","f","g","h"]
def sx (r:Str):Nat:=SL.idxOf r
section
variable {h:AH}{n hl lg sn sd:Nat}{w t:Int}{rows:List PV}{hs:List Int}{r:Str}
theorem yfF (hr:r∈SL):ydx [.str r] h=some (.int (sx r),h):=by
 unfold SL at hr
 simp only [mem_cons,List.not_mem_nil,or_false] at hr
 rcases hr with rfl|rfl|rfl|rfl|rfl|rfl|rfl|rfl<;>kernel_rfl!
theorem yAl (hr:r∈SL):sx r<8:=List.idxOf_lt_length_of_mem hr
theorem ydp {n:Nat}{xs:List Int}{i:Nat}(e:h[n]?=some (.lst (xs.map .int))) (hi:i<xs.length):ycC (.loc n) (.int i) h=some (.int (xs.getD i 0),h):=by
 unfold ycC
 simp only [e]
 have:(xs.map PV.int)[i]?=some (.int (xs.getD i 0)):=by
  rw [getElem?_map,List.getElem?_eq_getElem hi,getD_eq_getElem?_getD,List.getElem?_eq_getElem hi];rfl
 rw [ydS this]
theorem yik {rw:PV}(e:h[n]?=some (yoo hl w lg rows t sn sd)) {i:Nat}(ht:t=i) (er:rows[i]?=some rw):ydn [.loc n] h=some (rw,h):=by
 obtain ⟨f1,f2,f3,f4,f5,f6,f7⟩:=ydK e
 subst ht
 unfold ydn
 rw [yp]
 show ob (yN _ [.val (.loc n)] h) fnK=_
 simp_all? only [f4,f5]
 rw [ydS er]
 rfl
variable (e:h[n]?=some (yoo hl w lg rows t sn sd)) (eh:h[hl]?=some (.lst (hs.map .int))) (h8:hs.length=8) (hr:r∈SL)
include e eh h8 hr
theorem yil:ybW [.loc n,.str r] h=some (.int (hs.getD (sx r) 0),h):=by
 obtain ⟨f1,f2,f3,f4,f5,f6,f7⟩:=ydK e
 unfold ybW
 rw [yp]
 show ob (yN _ [.val (.loc n),.val (.str r)] h) fnK=_
 simp_all? only [f1,yfF hr]
 rw [ydp eh (by rw [h8];exact yAl hr),yce]
theorem yqE {v:Int}:ycI [.loc n,.str r,.int v] h=some (.non,h.set hl (.lst ((hs.set (sx r) v).map .int))):=by
 obtain ⟨f1,f2,f3,f4,f5,f6,f7⟩:=ydK e
 unfold ycI
 rw [yp]
 show ob (yfc _ _ _ [.val (.loc n),.val (.str r),.val (.int v)] h) fnK=_
 unfold yfc
 show ob (ob (some (PV.int v,h)) _) _=_
 rw [yce]
 simp_all? only [f1,yfF hr]
 have hi:sx r<hs.length:=by rw [h8];exact yAl hr
 have e':ixN (hs.map PV.int).length (sx r:Nat)=some (sx r):=by
  unfold ixN
  simp [hi]
 simp only [eh,e']
 rw [yce,map_set]
 rfl
theorem yfG (hw:1<=w):ybB [.loc n,.str r] h=some (.int (hs.getD (sx r) 0%w),h):=by
 obtain ⟨f1,f2,f3,f4,f5,f6,f7⟩:=ydK e
 unfold ybB
 rw [yp]
 show ob (yN _ [.val (.loc n),.val (.str r)] h) fnK=_
 simp_all? only [yei,yw (m:="held_in") e (by rfl'),yil e eh h8 hr,f2]
 rw [if_pos (by omega)]
end
section
variable {h:AH}{n hl lg sn sdl:Nat}{w:Int}{rows:List PV}{t:Nat}{r:Rw}
theorem yuG {j:Int}{t:Int}{ρ:PSt}(e:h[n]?=some (yoo hl w lg rows t sn sdl)):fL [10,12] "at" ρ (.int j) (.loc n) h=some (.nx ρ,h.set n (yoo hl w lg rows j sn sdl)):=yfj e (by decide) (by kernel_rfl!)
theorem yAm (e:h[n]?=some (yoo hl w lg rows t sn sdl)) (er:rows[t]?=some (ycE r)):yeb [.loc n] h=ob (goB [.val (.loc n),.val (ycE r)] (h.set n (yoo hl w lg rows (t+1:Nat) sn sdl))) fnK:=by
 obtain ⟨f1,f2,f3,f4,f5,f6,f7⟩:=ydK e
 unfold yeb
 rw [yp]
 show ob (yo _ (yo _ goB) [.val (.loc n),.no] h) fnK=_
 simp_all? only [yei,yw (m:="row") e (by rfl'),yik e rfl er,f5,ytn,yuG e]
 rfl
theorem ywZ (e:h[n]?=some (yoo hl w lg rows t sn sdl)) (er:rows[t]?=some (ycE r)):yY [.loc n] h=ob (loB [.val (.loc n),.val (ycE r)] h) fnK:=by
 unfold yY
 rw [yp]
 show ob (yo _ loB [.val (.loc n),.no] h) fnK=_
 simp_all? only [yei,yw (m:="row") e (by rfl'),yik e rfl er]
abbrev M2 (m:Str) (f:Fn):XE:=yk 12 m f (yf 0) (yb (yf 1) (yi))
theorem yAn {x:PV}{s:Str}{k:Int}:goB [.val x,.val (ycE (.let_ s k))] h=ycV (M2 "go_plain" yO) [.val x,.val (ycE (.let_ s k))] h:=by kernel_rfl!
theorem yAo {x:PV}{s k:Str}:goB [.val x,.val (ycE (.put s k))] h=ycV (M2 "go_plain" yO) [.val x,.val (ycE (.put s k))] h:=by kernel_rfl!
end
structure Lc where
 rn:Nat
 hl:Nat
 lg:Nat
 st:Nat
 ls:Nat
 sn:Nat
 sd:Nat
 ly:List Nat
structure RS where
 t:Nat
 hs:List Int
 sd:List PV
 dd:List (List Key×List PV)
 sn:List (Nat×Int×Int)
def sK (m:List (Nat×Int×Int)):List Key:=m.map fun p=>.inl (p.1:Int)
def sA (m:List (Nat×Int×Int)):List PV:=m.map fun p=>.int p.2.1
def sB (m:List (Nat×Int×Int)):List PV:=m.map fun p=>.int p.2.2
noncomputable def yej (m:List (Nat×Int×Int)) (k:Nat) (a b:Int):List (Nat×Int×Int):=if k∈m.map (·.1) then m.map (fun p=>if p.1=k then (k,a,b) else p) else m++[(k,a,b)]
def lay:List Nat->List (List Key×List PV)->List (Nat×Nd)
 | l::ls,d::ds=>(l,.dct d.1 d.2)::lay ls ds
 | _,_=>[]
def RM (w:Int) (rows:List PV) (c:Lc) (s:RS) (rest:List (Nat×Nd)):List (Nat×Nd) :=
 (c.rn,yoo c.hl w c.lg rows s.t c.sn c.sd)::(c.hl,.lst (s.hs.map .int))::(c.lg,.ins 11 ["stack","last_seen"] [.loc c.st,.loc c.ls])::(c.st,.lst (c.ly.map .loc))::(c.ls,.dct (sK s.sn) (sA s.sn))::(c.sn,.dct (sK s.sn) (sB s.sn))::(c.sd,.lst s.sd)::(lay c.ly s.dd++rest)
structure RR (w:Int) (rows:List PV) (rest:List (Nat×Nd)) (h:AH) (c:Lc) (s:RS):Prop where
 at_:At h (RM w rows c s rest)
 len:c.ly.length=s.dd.length
theorem yjb:∀ (l m:List Nat) (d e:List (List Key×List PV)),l.length=d.length->lay (l++m) (d++e)=lay l d++lay m e
 | [],_,[],_,_=>rfl
 | a::l,m,b::d,e,h=>by
  show (a,_)::lay (l++m) (d++e)=(a,_)::(lay l d++lay m e)
  rw [yjb l m d e (by simpa using h)]
noncomputable def okR:Rw->Prop
 | .let_ r n=>r∈SL/\0<=n/\n<B64
 | .put p r=>p∈SL/\r∈SL
 | .take p r=>p∈SL/\r∈SL
 | .wait=>True
 | .lay=>True
structure OkS (s:RS):Prop where
 h8:s.hs.length=8
 d1:s.dd.length=1
 hv:True
 dl:∀ d∈s.dd,d.1.length<400
 s0:s.sd=[]
def ynf (dd:List (List Key×List PV)) (k v:Int):List (List Key×List PV):=match dd.getLast? with|some d=>dd.dropLast++[ydc d.1 d.2 (.inl k) (.int v)]|none=>dd
def yAp (s:RS) (w:Int) (p:Str):PV:=yAj s.dd (.inl (s.hs.getD (sx p) 0%w)) s.dd.length
def yto (w:Int) (r:Rw) (s:RS):Option RS:=match r with
 | .let_ r n=>some ⟨s.t+1,s.hs.set (sx r) n,s.sd,s.dd,s.sn⟩
 | .put p r=>some ⟨s.t+1,s.hs,s.sd,ynf s.dd (s.hs.getD (sx p) 0%w) (s.hs.getD (sx r) 0),s.sn⟩
 | _=>none
def S0 (hs:List Int):RS:=⟨0,hs,[],[([],[])],[]⟩
section
variable {h:AH}{m:List (Nat×Nd)}
theorem yuH:∀ (ly:List Nat) (dd:List (List Key×List PV)),ly.length=dd.length->(∀ p∈lay ly dd,h[p.1]?=some p.2)->Stk h ly dd
 | [],[],_,_=>trivial
 | l::ls,d::ds,e,g=>⟨g (l,.dct d.1 d.2) mem_cons_self,yuH ls ds (by simpa using e) fun p hp=>g p (mem_cons_of_mem _ hp)⟩
variable {w:Int}{rows:List PV}{rest:List (Nat×Nd)}{c:Lc}{s:RS}
theorem RR.lg (R:RR w rows rest h c s):LG h c.lg c.st c.ls c.ly s.dd (sK s.sn) (sA s.sn):=⟨R.at_.get 2 rfl,R.at_.get 3 rfl,R.at_.get 4 rfl,yuH _ _ R.len fun p hp=>R.at_.2 p (by unfold RM;simp [hp])⟩
theorem RR.run (R:RR w rows rest h c s):h[c.rn]?=some (yoo c.hl w c.lg rows s.t c.sn c.sd):=R.at_.get 0 rfl
theorem RR.held (R:RR w rows rest h c s):h[c.hl]?=some (.lst (s.hs.map .int)):=R.at_.get 1 rfl
theorem RR.to (R:RR w rows rest h c s) (k:Nat):RR w rows rest (h.set c.rn (yoo c.hl w c.lg rows k c.sn c.sd)) c { s with t:=k }:=⟨R.at_.upd (a:=[]) _,R.len⟩
theorem RR.hold (R:RR w rows rest h c s) (q:List Int):RR w rows rest (h.set c.hl (.lst (q.map .int))) c { s with hs:=q }:=⟨R.at_.upd (a:=[_]) _,R.len⟩
theorem yuI (e:OkS s):s.hs.length=8/\s.dd.length=1/\True/\True/\∀ d∈s.dd,d.1.length<400:=⟨e.h8,e.d1,trivial,e.hv,e.dl⟩
def dk (m:Option (PV×AH)) (ρ:PSt):Option (PV×AH):=ob (ob m fun _ h1=>some (Out.nx ρ,h1)) fnK
theorem yAq {x:PV}{r:Str}{k:Int}:yO [x,ycE (.let_ r k)] h=dk (mK 12 "hold" ycI (fun _ h1=>some ([.str r,.int k],h1)) [] x h) [.val x,.val (ycE (.let_ r k))]:=by kernel_rfl!
theorem yAr {x:PV}{p r:Str}:yO [x,ycE (.put p r)] h=dk (mK 12 "do_put" ycs (fun _ h1=>some ([.str p,.str r],h1)) [] x h) [.val x,.val (ycE (.put p r))]:=by kernel_rfl!
theorem yAs {r:Str}{k:Int}(R:RR w rows rest h c s) (er:rows[s.t]?=some (ycE (.let_ r k))) (hr:r∈SL) (h8:s.hs.length=8):∃ h',yeb [.loc c.rn] h=some (.non,h')/\RR w rows rest h' c ⟨s.t+1,s.hs.set (sx r) k,s.sd,s.dd,s.sn⟩:=by
 have R1:=R.to (s.t+1)
 refine ⟨_,?_,R1.hold _⟩
 rw [yAm R.run er,yAn]
 show dk (mK 12 "go_plain" yO _ _ (.loc c.rn) _) _=_
 rw [yw R1.run (by rfl')]
 show dk (yO [.loc c.rn,ycE (.let_ r k)] _) _=_
 rw [yAq,yw R1.run (by rfl'),yce,yqE R1.run R1.held h8 hr]
 rfl
end
section
variable {h:AH}{w:Int}{rows:List PV}{rest:List (Nat×Nd)}{c:Lc}{s:RS}
theorem yxa (R:RR w rows rest h c s) {l:List Nat}{t:Nat}{ds:List (List Key×List PV)}{d d':List Key×List PV}(el:c.ly=l++[t]) (ed:s.dd=ds++[d]):RR w rows rest (h.set t (.dct d'.1 d'.2)) c { s with dd:=ds++[d'] }:=by
 have hl:l.length=ds.length:=by have:=R.len;rw [el,ed] at this;simpa using this
 have A:=R.at_
 refine ⟨?_,by show c.ly.length=(ds++[d']).length;rw [R.len,ed];simp⟩
 unfold RM at A ⊢
 rw [el,ed,yjb _ _ _ _ hl] at A
 show At _ (_::_::_::_::_::_::_::(lay c.ly (ds++[d'])++rest))
 rw [el,yjb _ _ _ _ hl,append_assoc]
 rw [append_assoc] at A
 exact A.upd (a:=_::_::_::_::_::_::_::lay l ds) (n:=t) (d:=.dct d.1 d.2) (b:=rest) (.dct d'.1 d'.2)
theorem yim {α:Type}{xs:List α}(h:xs.length≠0):∃ a y,xs=a++[y]:=⟨xs.dropLast,xs.getLast (by intro z;rw [z] at h;exact h rfl),(List.dropLast_concat_getLast _).symm⟩
theorem yqF {p r:Str}(R:RR w rows rest h c s) (hp:p∈SL) (hr:r∈SL) (h8:s.hs.length=8) (hw:1<=w) {l:List Nat}{t:Nat}{ds:List (List Key×List PV)}{d:List Key×List PV}(el:c.ly=l++[t]) (ed:s.dd=ds++[d]) (hd:d.1.length<400) :
  ycs [.loc c.rn,.str p,.str r] h=some (.non,h.set t (.dct (ydc d.1 d.2 (.inl (s.hs.getD (sx p) 0%w)) (.int (s.hs.getD (sx r) 0))).1 (ydc d.1 d.2 (.inl (s.hs.getD (sx p) 0%w)) (.int (s.hs.getD (sx r) 0))).2)):=by
 obtain ⟨f1,f2,f3,f4,f5,f6,f7⟩:=ydK R.run
 have G:=R.lg
 have hl:l.length=ds.length:=by have:=R.len;rw [el,ed] at this;simpa using this
 have ht:h[t]?=some (.dct d.1 d.2):=by
  have A:=R.at_
  unfold RM at A
  rw [el,ed,yjb _ _ _ _ hl,append_assoc] at A
  exact A.2 (t,.dct d.1 d.2) (by simp [lay])
 have G':=G
 rw [el] at G'
 unfold ycs
 rw [yp]
 show ob (ycV _ [.val (.loc c.rn),.val (.str p),.val (.str r)] h) fnK=_
 simp_all? only [f3,yei,yw (m:="box_at") R.run (by rfl'),yw (m:="held_in") R.run (by rfl'),yw (m:="write") G.ob (by rfl'),yfG R.run R.held h8 hp hw,yil R.run R.held h8 hr,ytl G' ht (Nat.lt_trans hd (by decide))]
theorem yAt {p r:Str}(R:RR w rows rest h c s) (er:rows[s.t]?=some (ycE (.put p r))) (hp:p∈SL) (hr:r∈SL) (hw:1<=w) (ok:OkS s):∃ h',yeb [.loc c.rn] h=some (.non,h')/\RR w rows rest h' c ⟨s.t+1,s.hs,s.sd,ynf s.dd (s.hs.getD (sx p) 0%w) (s.hs.getD (sx r) 0),s.sn⟩:=by
 obtain ⟨h8,o2,o3,o4,o5⟩:=yuI ok
 have R1:=R.to (s.t+1)
 obtain ⟨ds,d,ed⟩:=yim (xs:=s.dd) (by omega)
 obtain ⟨l,t,el⟩:=yim (xs:=c.ly) (by have:=R.len;omega)
 have e2:=yqF R1 hp hr h8 hw el ed (o5 d (by rw [ed];simp))
 have R2:=yxa (d':=ydc d.1 d.2 (.inl (s.hs.getD (sx p) 0%w)) (.int (s.hs.getD (sx r) 0))) R1 el ed
 refine ⟨_,?_,by
  have:ynf s.dd (s.hs.getD (sx p) 0%w) (s.hs.getD (sx r) 0)=ds++[ydc d.1 d.2 (.inl (s.hs.getD (sx p) 0%w)) (.int (s.hs.getD (sx r) 0))]:=by
   unfold ynf
   rw [ed,List.getLast?_concat,List.dropLast_concat]
  rw [this]
  exact R2⟩
 rw [yAm R.run er,yAo]
 show dk (mK 12 "go_plain" yO _ _ (.loc c.rn) _) _=_
 rw [yw R1.run (by rfl')]
 show dk (yO [.loc c.rn,ycE (.put p r)] _) _=_
 rw [yAr,yw R1.run (by rfl'),yce,e2]
 rfl
end
section
variable {h:AH}{w:Int}{rows:List PV}{rest:List (Nat×Nd)}{c:Lc}{s s':RS}{r:Rw}
theorem yDk {p:Str}(R:RR w rows rest h c s):yew [.loc c.lg,.int (s.hs.getD (sx p) 0%w)] h=some (yAp s w p,h):=by
 rw [yAk R.lg,R.len];rfl
theorem yxb {p:Str}(R:RR w rows rest h c s) (hp:p∈SL) (h8:s.hs.length=8) (hw:1<=w):ycK [.loc c.rn,.str p] h=some (.bl (isN (yAp s w p)),h):=by
 obtain ⟨f1,f2,f3,f4,f5,f6,f7⟩:=ydK R.run
 unfold ycK
 rw [yp]
 show ob (yN _ [.val (.loc c.rn),.val (.str p)] h) fnK=_
 simp_all? only [yei,f3,yw (m:="own") R.lg.ob (by rfl'),yw (m:="box_at") R.run (by rfl'),yfG R.run R.held h8 hp hw,yDk R]
theorem yxc (R:RR w rows rest h c s) (er:rows[s.t]?=some (ycE r)) (hw:1<=w) (okr:okR r) (ok:OkS s) (e:yto w r s=some s'):∃ h' c',yeb [.loc c.rn] h=some (.non,h')/\RR w rows rest h' c' s'/\c'.rn=c.rn:=by
 cases r with
 | let_ a n =>
  cases e
  obtain ⟨h',q1,q2⟩:=yAs R er okr.1 ok.h8
  exact ⟨h',c,q1,q2,rfl⟩
 | put p a =>
  cases e
  obtain ⟨h',q1,q2⟩:=yAt R er okr.1 okr.2 hw ok
  exact ⟨h',c,q1,q2,rfl⟩
 | take p a=>cases e
 | wait=>cases e
 | lay=>cases e
def yjc (w:Int) (s:RS):Rw->Bool
 | .take _ p=>isN (yAp s w p)
 | .wait=>true
 | .lay=>true
 | _=>false
theorem yDl {y:PV}(R:RR w rows rest h c s) (e0:s.sd=[]):ybP [.loc c.rn,y] h=some (.int 0,h):=by
 obtain ⟨f1,f2,f3,f4,f5,f6,f7⟩:=ydK R.run
 have e7:h[c.sd]?=some (.lst s.sd):=R.at_.get 6 rfl
 rw [e0] at e7
 unfold ybP
 rw [yp]
 show ob (yo _ _ [.val (.loc c.rn),.val y,.no] h) fnK=_
 simp_all? only [f7,yiL e7]
 rfl
theorem ylV (R:RR w rows rest h c s) (er:rows[s.t]?=some (ycE r)) (ok:OkS s) (okr:okR r) (hw:1<=w):yY [.loc c.rn] h=some (.bl (yjc w s r),h):=by
 rw [ywZ R.run er]
 cases r with
 | take a p =>
  have i0:∀ h,yck (ycE (.take a p)) (.int 0) h=some (.str "take",h):=fun _=>rfl
  have i2:∀ h,yck (ycE (.take a p)) (.int 2) h=some (.str p,h):=fun _=>rfl
  unfold loB
  simp_all? only [yei,i0,i2,yw (m:="sees_at") R.run (by rfl'),yxb R okr.2 ok.h8 hw]
  rfl
 | wait =>
  have i0:∀ h,yck (ycE .wait) (.int 0) h=some (.str "wait",h):=fun _=>rfl
  unfold loB
  simp_all? only [yei,i0,yfi,yw (m:="taker_layer") R.run (by rfl'),yDl R ok.s0]
  rfl
 | _=>kernel_rfl!
end
def stB (m:List (Nat×Int×Int)) (sp:List Int):Bool:=(m.map fun p=>!decide (sp.getD p.1 0=p.2.2)).any id
theorem yAu {f:Nat×Int×Int->PV}:∀ {m:List (Nat×Int×Int)}{p:Nat×Int×Int},(m.map (·.1)).Nodup->p∈m->ykg (sK m) (m.map f) (.inl (p.1:Int))=some (f p)
 | q::m,p,nd,hp=>by
  show (if (Sum.inl (q.1:Int):Key)=.inl (p.1:Int) then some (f q) else ykg (sK m) (m.map f) (.inl (p.1:Int)))=_
  obtain ⟨n1,n2⟩:=List.nodup_cons.mp nd
  rcases mem_cons.mp hp with rfl|hp
  .rw [if_pos rfl]
  .rw [if_neg (fun z=>n1 ?_)]
   .exact yAu n2 hp
   .have:q.1=p.1:=by have:=Sum.inl.inj z;omega
    show q.1∈m.map (·.1)
    rw [this]
    exact List.mem_map_of_mem hp
theorem ylW {α:Type}(f:α->Bool):∀ l:List α,ygM (l.map fun a=>PV.bl (f a))=some (l.map f)
 | []=>rfl
 | a::l=>by
  show ygM (PV.bl (f a)::l.map fun a=>PV.bl (f a))=some (f a::l.map f)
  unfold ygM
  simp only [ylW f l]
  try rfl
theorem yAv {f:Nat×Int×Int->PV}{k:Nat}{a b:Int}{m:List (Nat×Int×Int)}(hf:f (k,a,b)=v):ydc (sK m) (m.map f) (.inl (k:Int)) v=(sK (yej m k a b),(yej m k a b).map f):=by
 have e1:∀ m:List (Nat×Int×Int),yrm (sK m) (.inl (k:Int))=decide (k∈m.map (·.1)):=by
  intro m
  induction m with
  | nil=>rfl
  | cons q m ih =>
   show (if (Sum.inl (q.1:Int):Key)=.inl (k:Int) then true else yrm (sK m) (.inl (k:Int)))=_
   rw [ih]
   by_cases e:q.1=k
   .rw [if_pos (by rw [e])]
    simp [e]
   .rw [if_neg (fun z=>e (by have:=Sum.inl.inj z;omega))]
    simp [Ne.symm e]
 have e2:∀ m:List (Nat×Int×Int),setK (sK m) (m.map f) (.inl (k:Int)) v=(m.map fun p=>if p.1=k then (k,a,b) else p).map f:=by
  intro m
  induction m with
  | nil=>rfl
  | cons q m ih =>
   show (if (Sum.inl (q.1:Int):Key)=.inl (k:Int) then v::setK (sK m) (m.map f) (.inl (k:Int)) v else f q::setK (sK m) (m.map f) (.inl (k:Int)) v)=f (if q.1=k then (k,a,b) else q)::_
   rw [ih]
   by_cases e:q.1=k
   .rw [if_pos (by rw [e]),if_pos e,hf]
   .rw [if_neg (fun z=>e (by have:=Sum.inl.inj z;omega)),if_neg e]
 unfold ydc yej
 rw [e1]
 by_cases e:k∈m.map (·.1)
 .rw [if_pos (decide_eq_true e),if_pos e,e2]
  refine Prod.ext ?_ rfl
  show sK m=(m.map fun p=>if p.1=k then (k,a,b) else p).map _
  rw [map_map]
  refine List.map_congr_left fun p _=>?_
  show _=(Sum.inl (((if p.1=k then (k,a,b) else p).1:Nat):Int):Key)
  split
  .rename_i e;rw [e]
  .rfl
 .rw [if_neg (by simp [e]),if_neg e,map_append]
  unfold sK
  rw [map_append,<- hf]
  rfl
section
variable {h:AH}{w:Int}{rows:List PV}{rest:List (Nat×Nd)}{c:Lc}{s s':RS}{r:Rw}{sp bx:List Int}{ma nu:Nat}
theorem yjd (R:RR w rows rest h c s) (hm:(ma,.lst (sp.map .int))∈rest) (nd:(s.sn.map (·.1)).Nodup) (hb:∀ p∈s.sn,p.1<sp.length) (hl:s.sn.length<=900):ybX [.loc c.rn,.loc ma] h=some (.bl (stB s.sn sp),h):=by
 obtain ⟨f1,f2,f3,f4,f5,f6,f7⟩:=ydK R.run
 have e:h[c.sn]?=some (.dct (sK s.sn) (sB s.sn)):=R.at_.get 5 rfl
 have A:=At.upd (a:=[_,_,_,_,_]) (.fz (sK s.sn) (sB s.sn)) R.at_
 have em:(h.set c.sn (.fz (sK s.sn) (sB s.sn)))[ma]?=some (.lst (sp.map .int)):=A.2 (ma,.lst (sp.map .int)) (by simp [hm])
 obtain ⟨g1,g2,g3,g4,g5,g6,g7⟩:=ydK (A.get 0 rfl)
 have en:(h.set c.sn (.fz (sK s.sn) (sB s.sn)))[c.sn]?=some (.fz (sK s.sn) (sB s.sn)):=A.get 5 rfl
 have back:(h.set c.sn (.fz (sK s.sn) (sB s.sn))).set c.sn (.dct (sK s.sn) (sB s.sn))=h:=by
  rw [List.set_set]
  obtain ⟨l1,l2⟩:=List.getElem?_eq_some_iff.mp e
  rw [<- l2,List.set_getElem_self]
 have cm:ygn (xOp (oNe) (xOp (ycC) (yf 1) (yf 0)) (ybn (ybi [12] "seen_stamps" (yf 2)) (yf 0))) (yeE [1,0] [.val (.loc c.rn),.val (.loc ma)]) ((sK s.sn).map yiP) (h.set c.sn (.fz (sK s.sn) (sB s.sn)))=some (s.sn.map (fun p=>.bl (!decide (sp.getD p.1 0=p.2.2))),h.set c.sn (.fz (sK s.sn) (sB s.sn))):=by
  generalize h.set c.sn (.fz (sK s.sn) (sB s.sn))=h1 at *
  show ygn _ _ ((s.sn.map fun p=>(.inl (p.1:Int):Key)).map yiP) _=_
  rw [map_map]
  refine yfU _ _ fun p hp=>?_
  show xOp _ _ _ [.val (.int (p.1:Int)),.val (.loc ma),.val (.loc c.rn)] _=_
  have i1:=ydp em (hb p hp)
  have i2:ybn (ybi [12] "seen_stamps" (yf 2)) (yf 0) [.val (.int (p.1:Int)),.val (.loc ma),.val (.loc c.rn)] h1=some (.int p.2.2,h1):=by
   unfold ybn
   simp_all? only [g6]
   unfold ysw
   simp only [en,keyOf]
   unfold sB
   rw [yAu nd hp]
  simp_all? only [i1,i2]
 have an:∀ h,ysL [.lst (s.sn.map (fun p=>PV.bl (!decide (sp.getD p.1 0=p.2.2))))] h=some (.bl (stB s.sn sp),h):=fun h=>by
  unfold ysL ybs
  simp only [ylW (fun p:Nat×Int×Int=>!decide (sp.getD p.1 0=p.2.2))]
  rfl
 have cd:yid (ybi [12] "seen_stamps" (yf 0)) [1,0] (xOp (oNe) (xOp (ycC) (yf 1) (yf 0)) (ybn (ybi [12] "seen_stamps" (yf 2)) (yf 0))) [.val (.loc c.rn),.val (.loc ma)] h=some (.lst (s.sn.map (fun p=>.bl (!decide (sp.getD p.1 0=p.2.2)))),h):=by
  unfold yid
  simp_all? only [f6]
  simp only [e]
  rw [if_pos (by unfold sK;rw [length_map];omega),cm,yce,back]
 unfold ybX
 rw [yp]
 show ob (yN (xCB ysL (yb (xFz (yid _ _ _)) yi)) [.val (.loc c.rn),.val (.loc ma)] h) fnK=_
 simp_all? only [cd,an]
theorem RR.see (R:RR w rows rest h c s) (k:Nat) (a b:Int):RR w rows rest ((h.set c.sn (.dct (sK (yej s.sn k a b)) (sB (yej s.sn k a b)))).set c.ls (.dct (sK (yej s.sn k a b)) (sA (yej s.sn k a b)))) c { s with sn:=yej s.sn k a b }:=by
 have A:=At.upd (a:=[_,_,_,_,_]) (.dct (sK (yej s.sn k a b)) (sB (yej s.sn k a b))) R.at_
 exact ⟨At.upd (a:=[_,_,_,_]) (.dct (sK (yej s.sn k a b)) (sA (yej s.sn k a b))) A,R.len⟩
theorem yAw {o st b:Nat}{i:Int}{v:PV}{ks:List Key}{xs:List PV}(e1:h[o]?=some (.ins 11 ["stack","last_seen"] [.loc st,.loc b])) (e2:h[b]?=some (.dct ks xs)) (hl:ks.length<1000):yfD [.loc o,.int i,v] h=some (.non,h.set b (.dct (ydc ks xs (.inl i) v).1 (ydc ks xs (.inl i) v).2)):=by
 unfold yfD
 rw [yp]
 show ob (yfx _ _ _ [.val (.loc o),.val (.int i),.val v] h) fnK=_
 rw [yja (n:=b) (i:=i) (x:=v) rfl (by rw [ypD,show yf 0 [PVar.val (.loc o),.val (.int i),.val v] h=some (.loc o,h) from rfl,yce,yqD e1]) rfl e2 hl]
 rfl
theorem ylX {a p:Str}{k:Nat}(R:RR w rows rest h c s) (er:rows[s.t]?=some (ycE (.take a p))) (hm:(ma,.lst (sp.map .int))∈rest) (hn:(nu,.lst (bx.map .int))∈rest) (h8:s.hs.length=8) (ha:a∈SL) (hp:p∈SL) (hw:1<=w) (hk:s.hs.getD (sx p) 0%w=(k:Nat)) (hks:k<sp.length) (hkb:k<bx.length) (hl:s.sn.length<=900) :
  ∃ h',ycL [.loc c.rn,.loc nu,.loc ma] h=some (.int (k:Nat),h')/\RR w rows rest h' c ⟨s.t+1,s.hs.set (sx a) (bx.getD k 0),s.sd,s.dd,yej s.sn k (bx.getD k 0) (sp.getD k 0)⟩:=by
 have R1:=R.see k (bx.getD k 0) (sp.getD k 0)
 have R2:=R1.hold (s.hs.set (sx a) (bx.getD k 0))
 refine ⟨_,?_,R2.to (s.t+1)⟩
 obtain ⟨f1,f2,f3,f4,f5,f6,f7⟩:=ydK R.run
 have A0:=At.upd (a:=[_,_,_,_,_]) (.dct (sK (yej s.sn k (bx.getD k 0) (sp.getD k 0))) (sB (yej s.sn k (bx.getD k 0) (sp.getD k 0)))) R.at_
 have i1:ycC (.loc ma) (.int (k:Nat)) h=some (.int (sp.getD k 0),h):=ydp (R.at_.2 (ma,.lst (sp.map .int)) (by unfold RM;simp [hm])) hks
 have i2:∀ h,yck (ycE (.take a p)) (.int 1) h=some (.str a,h):=fun _=>rfl
 have i3:∀ h,yck (ycE (.take a p)) (.int 2) h=some (.str p,h):=fun _=>rfl
 have b1:=yfG R.run R.held h8 hp hw
 rw [hk] at b1
 have lk:(sK s.sn).length<1000:=by unfold sK;rw [length_map];omega
 have d1:=yja (h:=h) (n:=c.sn) (i:=(k:Nat)) (x:=.int (sp.getD k 0)) (ed:=ybi [12] "seen_stamps" (yf 0)) (ek:=yf 4) (ev:=xOp (ycC) (yf 2) (yf 4)) (ρ:=[.val (.loc c.rn),.val (.loc nu),.val (.loc ma),.val (ycE (.take a p)),.val (.int (k:Nat))]) (by simp_all? only [i1]) (by simp_all? only [f6]) rfl (R.at_.get 5 rfl) lk
 rw [show sB s.sn=s.sn.map (fun p=>.int p.2.2) from rfl,yAv (f:=fun p=>.int p.2.2) (a:=bx.getD k 0) (b:=sp.getD k 0) rfl] at d1
 have r1:(h.set c.sn (.dct (sK (yej s.sn k (bx.getD k 0) (sp.getD k 0))) (sB (yej s.sn k (bx.getD k 0) (sp.getD k 0)))))[c.rn]?=some (yoo c.hl w c.lg rows s.t c.sn c.sd):=A0.get 0 rfl
 have ts:ycb [.loc c.rn,.str a,.str p,.loc nu] (h.set c.sn (.dct (sK (yej s.sn k (bx.getD k 0) (sp.getD k 0))) (sB (yej s.sn k (bx.getD k 0) (sp.getD k 0)))))=some (.non,((h.set c.sn (.dct (sK (yej s.sn k (bx.getD k 0) (sp.getD k 0))) (sB (yej s.sn k (bx.getD k 0) (sp.getD k 0))))).set c.ls (.dct (sK (yej s.sn k (bx.getD k 0) (sp.getD k 0))) (sA (yej s.sn k (bx.getD k 0) (sp.getD k 0))))).set c.hl (.lst ((s.hs.set (sx a) (bx.getD k 0)).map .int))):=by
  have b2:=yfG (r:=p) (A0.get 0 rfl) (A0.get 1 rfl) h8 hp hw
  rw [hk] at b2
  have g1:=(ydK (A0.get 0 rfl)).2.2.1
  have s1:=yAw (i:=(k:Nat)) (v:=.int (bx.getD k 0)) (A0.get 2 rfl) (A0.get 4 rfl) lk
  rw [show sA s.sn=s.sn.map (fun p=>.int p.2.1) from rfl,yAv (f:=fun p=>.int p.2.1) (a:=bx.getD k 0) (b:=sp.getD k 0) rfl] at s1
  have j1:=ydp (A0.2 (nu,.lst (bx.map .int)) (by simp [hn])) hkb
  have j2:=ydp (R1.at_.2 (nu,.lst (bx.map .int)) (by unfold RM;simp [hn])) hkb
  have lo:=A0.get 2 rfl
  have hd:=yqE (v:=bx.getD k 0) R1.run R1.held h8 ha
  have r2:=R1.run
  dsimp only at hd r2
  change _=some (PV.non,(h.set c.sn _).set c.ls (.dct (sK (yej s.sn k (bx.getD k 0) (sp.getD k 0))) (sA (yej s.sn k (bx.getD k 0) (sp.getD k 0))))) at s1
  generalize (h.set c.sn (.dct (sK (yej s.sn k (bx.getD k 0) (sp.getD k 0))) (sB (yej s.sn k (bx.getD k 0) (sp.getD k 0)))))=h1 at *
  generalize (h1.set c.ls (.dct (sK (yej s.sn k (bx.getD k 0) (sp.getD k 0))) (sA (yej s.sn k (bx.getD k 0) (sp.getD k 0)))))=h2 at *
  unfold ycb
  rw [yp]
  show ob (yo _ _ [.val (.loc c.rn),.val (.str a),.val (.str p),.val (.loc nu),.no] h1) fnK=_
  simp_all? only [yei,yw (m:="box_at") r1 (by rfl'),b2,g1,yw (m:="see") lo (by rfl'),j1,s1,yw (m:="hold") r2 (by rfl'),j2,hd]
 have rr:=R2.run
 have f5':=(ydK R2.run).2.2.2.2.1
 have sa:=fun ρ=>yuG (j:=((s.t+1:Nat):Int)) (ρ:=ρ) R2.run
 have z:((s.t:Nat):Int)+1=((s.t+1:Nat):Int):=by omega
 dsimp only at f5' sa rr
 change _=some (Out.nx _,h.set c.sn (.dct (sK (yej s.sn k (bx.getD k 0) (sp.getD k 0))) (sB (yej s.sn k (bx.getD k 0) (sp.getD k 0))))) at d1
 generalize (h.set c.sn (.dct (sK (yej s.sn k (bx.getD k 0) (sp.getD k 0))) (sB (yej s.sn k (bx.getD k 0) (sp.getD k 0)))))=h1 at *
 generalize ((h1.set c.ls (.dct (sK (yej s.sn k (bx.getD k 0) (sp.getD k 0))) (sA (yej s.sn k (bx.getD k 0) (sp.getD k 0))))).set c.hl (.lst ((s.hs.set (sx a) (bx.getD k 0)).map .int)))=h2 at *
 unfold ycL
 rw [yp]
 show ob (yo _ _ [.val (.loc c.rn),.val (.loc nu),.val (.loc ma),.no,.no] h) fnK=_
 simp_all? only [yei,yw (m:="row") R.run (by rfl'),yik R.run rfl er,i2,i3,yw (m:="box_at") R.run (by rfl'),b1,d1,yw (m:="take_seen") r1 (by rfl'),ts,ytn,f5',z,sa]
end
structure HC where
 H:Nat
 nu:Nat
 ma:Nat
 cr:Nat
 en:Nat
structure HQ where
 bx:List Int
 sp:List Int
 en:List PV
 cw:List Nat
 i:Nat
 hd:Nat
 ds:List PV
 nth:Nat
 sl:Bool
 bf:List Int
def HL (g:HC) (rn:Nat) (w:Int) (q:HQ) (own:List (Nat×Nd)):List (Nat×Nd) :=
 (g.H,ytm g.nu g.ma g.cr g.en)::(g.nu,.lst (q.bx.map .int))::(g.ma,.lst (q.sp.map .int))::(g.cr,.lst (q.cw.map .loc))::(g.en,.lst q.en)::(q.hd,ycU q.ds w q.nth q.sl q.bf rn)::own
structure NF (W:Nat) (s:RS):Prop where
 nd:(s.sn.map (·.1)).Nodup
 hb:∀ p∈s.sn,p.1<W
 hl:s.sn.length<=900
def stN (q:HQ):Str:=if q.nth=q.ds.length then "ended" else if q.sl=true then "asleep" else "awake"
section
variable {h:AH}{w:Int}{rows:List PV}{c:Lc}{s s':RS}{r:Rw}{g:HC}{q:HQ}{own:List (Nat×Nd)}{rn:Nat}
theorem RR.rest {m:List (Nat×Nd)}(R:RR w rows m h c s):At h m:=by
 have A:=R.at_
 unfold RM at A
 exact (At.sub A (List.sublist_append_right (_::_::_::_::_::_::_::lay c.ly s.dd) m))
theorem yoc (A:At h (HL g rn w q own)) (hi:q.cw[q.i]?=some q.hd):ycC (.loc g.cr) (.int (q.i:Nat)) h=some (.loc q.hd,h):=by
 have e:h[g.cr]?=some (.lst (q.cw.map .loc)):=A.get 3 rfl
 unfold ycC
 simp only [e]
 rw [ydS (show (q.cw.map PV.loc)[q.i]?=some (.loc q.hd) by rw [getElem?_map,hi];rfl)]
theorem ydO (A:At h (HL g rn w q own)) (hi:q.cw[q.i]?=some q.hd):yU [.loc g.H,.int (q.i:Nat)] h=some (.loc q.hd,h):=by
 obtain ⟨f1,f2,f3,f4⟩:=ycG (A.get 0 rfl)
 have e:h[g.cr]?=some (.lst (q.cw.map .loc)):=A.get 3 rfl
 have i1:ybt [.int (q.i:Nat)] h=some (.bl true,h):=by kernel_rfl!
 have i2:=yoc A hi
 have lt:=(List.getElem?_eq_some_iff.mp hi).1
 have l1:((0:Int)<=(q.i:Nat))=True:=eq_true (by omega)
 have l2:(((q.i:Nat):Int)<((q.cw.map PV.loc).length:Nat))=True:=eq_true (by rw [length_map];omega)
 unfold yU
 rw [yp]
 show ob (yo _ _ [.val (.loc g.H),.val (.int (q.i:Nat))] h) fnK=_
 simp_all? only [f3,yiL e,i1,i2,l1,l2]
theorem yeL (A:At h (HL g rn w q own)):ybL [.loc q.hd] h=some (.str (stN q),h):=by
 obtain ⟨f1,f2,f3,f4,f5,f6⟩:=yda (A.get 5 rfl)
 unfold ybL stN
 rw [yp]
 show ob (yo _ _ [.val (.loc q.hd)] h) fnK=_
 by_cases e:q.nth=q.ds.length
 .have e':((q.nth:Nat):Int)=(q.ds.length:Nat):=by omega
  rw [if_pos e]
  simp_all? only [f3,f1,e']
 .have e':(((q.nth:Nat):Int)=(q.ds.length:Nat))=False:=eq_false (by omega)
  rw [if_neg e]
  simp_all? only [f3,f1,f4,e']
  cases q.sl<;>rfl
theorem awake (hn:q.nth<q.ds.length) (hs:q.sl=false):stN q = "awake":=by
 unfold stN
 rw [if_neg (by omega),hs]
 rfl
theorem yqG (A:At h (HL g rn w q own)) (hi:q.cw[q.i]?=some q.hd) (hs:(stN q = "awake")=False):yv [.loc g.H,.int (q.i:Nat)] h=some (.tup [.str "idle"],h):=by
 unfold yv
 rw [yp]
 show ob (yo _ _ [.val (.loc g.H),.val (.int (q.i:Nat)),.no,.no] h) fnK=_
 simp_all? only [yei,yw (m:="hand_at") (A.get 0 rfl) (by rfl'),ydO A hi,yw (m:="state") (A.get 5 rfl) (by rfl'),yeL A,hs]
theorem yqH (R:RR w rows (HL g c.rn w q own) h c s) (hi:q.cw[q.i]?=some q.hd) (er:rows[s.t]?=some (ycE r)) (hw:1<=w) (hn:q.nth<q.ds.length) (hs:q.sl=false) (ok:OkS s) (okr:okR r) (hlk:yjc w s r=false) (e:yto w r s=some s') :
  ∃ h' c',yv [.loc g.H,.int (q.i:Nat)] h=some (.tup [.str "gone",.int s.t],h')/\RR w rows (HL g c'.rn w q own) h' c' s':=by
 obtain ⟨h',c',q1,q2,q3⟩:=yxc R er hw okr ok e
 refine ⟨h',c',?_,by rw [q3];exact q2⟩
 have A:=R.rest
 obtain ⟨f1,f2,f3,f4,f5,f6⟩:=yda (A.get 5 rfl)
 obtain ⟨k1,k2,k3,k4,k5,k6,k7⟩:=ydK R.run
 have st:=yeL A
 rw [awake hn hs] at st
 have lk:=ylV R er ok okr hw
 rw [hlk] at lk
 unfold yv
 rw [yp]
 show ob (yo _ _ [.val (.loc g.H),.val (.int (q.i:Nat)),.no,.no] h) fnK=_
 simp_all? only [yei,yw (m:="hand_at") (A.get 0 rfl) (by rfl'),ydO A hi,yw (m:="state") (A.get 5 rfl) (by rfl'),st,f6,k5,yw (m:="is_looked_over") R.run (by rfl'),lk,yw (m:="go") R.run (by rfl'),q1]
theorem yhh (R:RR w rows (HL g c.rn w q own) h c s) (hi:q.cw[q.i]?=some q.hd) (er:rows[s.t]?=some (ycE r)) (hw:1<=w) (hn:q.nth<q.ds.length) (hs:q.sl=false) (ok:OkS s) (okr:okR r) (hlk:yjc w s r=true) (F:NF q.sp.length s) (fr:stB s.sn q.sp=false):yv [.loc g.H,.int (q.i:Nat)] h=ob (yH [.loc g.H,.int (q.i:Nat),.int s.t] h) (fun x h=>some (x,h)):=by
 have A:=R.rest
 obtain ⟨f1,f2,f3,f4,f5,f6⟩:=yda (A.get 5 rfl)
 obtain ⟨g1,g2,g3,g4⟩:=ycG (A.get 0 rfl)
 obtain ⟨k1,k2,k3,k4,k5,k6,k7⟩:=ydK R.run
 have st:=yeL A
 rw [awake hn hs] at st
 have lk:=ylV R er ok okr hw
 rw [hlk] at lk
 have sl:=yjd (ma:=g.ma) (sp:=q.sp) R (mem_of_getElem? (i:=2) rfl) F.nd F.hb F.hl
 rw [fr] at sl
 unfold yv
 rw [yp]
 show ob (yo _ _ [.val (.loc g.H),.val (.int (q.i:Nat)),.no,.no] h) fnK=_
 simp_all? only [yei,yw (m:="hand_at") (A.get 0 rfl) (by rfl'),ydO A hi,yw (m:="state") (A.get 5 rfl) (by rfl'),st,f6,k5,yw (m:="is_looked_over") R.run (by rfl'),lk,g2,yw (m:="is_stale") R.run (by rfl'),sl,yw (m:="looked_over_told") (A.get 0 rfl) (by rfl')]
theorem yqI {a p:Str}{k:Nat}(R:RR w rows (HL g c.rn w q own) h c s) (hi:q.cw[q.i]?=some q.hd) (er:rows[s.t]?=some (ycE (.take a p))) (hw:1<=w) (hn:q.nth<q.ds.length) (hs:q.sl=false) (ok:OkS s) (okr:okR (.take a p)) (hlk:isN (yAp s w p)=true) (F:NF q.sp.length s) (fr:stB s.sn q.sp=false) (hk:s.hs.getD (sx p) 0%w=(k:Nat)) (hkb:k<q.bx.length) (hbs:q.sp.length=q.bx.length) :
  ∃ h',yv [.loc g.H,.int (q.i:Nat)] h=some (.tup [.str "seen",.int s.t,.int (k:Nat),.int (q.bx.getD k 0)],h')/\RR w rows (HL g c.rn w q own) h' c ⟨s.t+1,s.hs.set (sx a) (q.bx.getD k 0),s.sd,s.dd,yej s.sn k (q.bx.getD k 0) (q.sp.getD k 0)⟩:=by
 obtain ⟨h8,o2,o3,o4,o5⟩:=yuI ok
 obtain ⟨k2,k3⟩:a∈SL/\p∈SL:=by simpa [okR] using okr
 obtain ⟨h',q1,R'⟩:=ylX (ma:=g.ma) (nu:=g.nu) (sp:=q.sp) (bx:=q.bx) R er (mem_of_getElem? (i:=2) rfl) (mem_of_getElem? (i:=1) rfl) h8 k2 k3 hw hk (by omega) hkb F.hl
 refine ⟨h',?_,R'⟩
 rw [yhh R hi er hw hn hs ok okr hlk F fr]
 have A:=R.rest
 have A':=R'.rest
 obtain ⟨f1,f2,f3,f4,f5,f6⟩:=yda (A.get 5 rfl)
 obtain ⟨g1,g2,g3,g4⟩:=ycG (A.get 0 rfl)
 have g1':=(ycG (A'.get 0 rfl)).1
 have i2:=yoc A hi
 have i4:∀ h,yck (ycE (.take a p)) (.int 0) h=some (.str "take",h):=fun _=>rfl
 have i5:=ydp (A'.get 1 rfl) hkb
 unfold yH
 rw [yp]
 show ob (ob (yo _ _ [.val (.loc g.H),.val (.int (q.i:Nat)),.val (.int s.t),.no,.no,.no] h) fnK) _=_
 simp_all? only [yei,g1,g2,g3,i2,f6,yw (m:="row") R.run (by rfl'),yik R.run rfl er,i4,yw (m:="see_next") R.run (by rfl'),q1,g1',i5]
theorem RR.sub {m m':List (Nat×Nd)}(R:RR w rows m h c s) (u:m'.Sublist m):RR w rows m' h c s:=by
 refine ⟨?_,R.len⟩
 have A:=R.at_
 unfold RM at A ⊢
 exact A.sub ((((((((List.Sublist.refl _).append u).cons₂ _).cons₂ _).cons₂ _).cons₂ _).cons₂ _).cons₂ _ |>.cons₂ _)
theorem RR.urest {a b:List (Nat×Nd)}{n:Nat}{d:Nd}(d':Nd) (R:RR w rows (a++(n,d)::b) h c s):RR w rows (a++(n,d')::b) (h.set n d') c s:=by
 refine ⟨?_,R.len⟩
 have A:=R.at_
 unfold RM at A ⊢
 rw [<- append_assoc] at A ⊢
 exact At.upd (a:=_::_::_::_::_::_::_::(lay c.ly s.dd++a)) d' A
theorem yqJ {n:Nat}{ds:List PV}{w nth:Int}{sl v:Bool}{bf:List Int}{rn:Nat}{ρ:PSt}(e:h[n]?=some (ycU ds w nth sl bf rn)):fL [14] "sleeps" ρ (.bl v) (.loc n) h=some (.nx ρ,h.set n (ycU ds w nth v bf rn)):=yfj e (by decide) (by kernel_rfl!)
theorem yod (R:RR w rows (HL g c.rn w q own) h c s) (hi:q.cw[q.i]?=some q.hd) (er:rows[s.t]?=some (ycE .wait)) (hw:1<=w) (hn:q.nth<q.ds.length) (hs:q.sl=false) (ok:OkS s) (hlk:yjc w s .wait=true) (F:NF q.sp.length s) (fr:stB s.sn q.sp=false) :
  ∃ h',yv [.loc g.H,.int (q.i:Nat)] h=some (.tup [.str "asleep",.int s.t],h')/\RR w rows (HL g c.rn w { q with sl:=true } own) h' c s:=by
 have A:=R.rest
 refine ⟨h.set q.hd (ycU q.ds w q.nth true q.bf c.rn),?_,RR.urest (a:=[_,_,_,_,_]) _ R⟩
 rw [yhh R hi er hw hn hs ok trivial hlk F fr]
 obtain ⟨f1,f2,f3,f4,f5,f6⟩:=yda (A.get 5 rfl)
 obtain ⟨g1,g2,g3,g4⟩:=ycG (A.get 0 rfl)
 have i2:=yoc A hi
 have i4:∀ h,yck (ycE .wait) (.int 0) h=some (.str "wait",h):=fun _=>rfl
 have fa:ybI [.loc q.hd] h=some (.non,h.set q.hd (ycU q.ds w q.nth true q.bf c.rn)):=by
  have s1:=fun ρ=>yqJ (ρ:=ρ) (v:=true) (A.get 5 rfl)
  unfold ybI
  rw [yp]
  show ob (ycW _ _ _ _ [.val (.loc q.hd)] h) fnK=_
  simp_all? only [ytn,s1]
 unfold yH
 rw [yp]
 show ob (ob (yo _ _ [.val (.loc g.H),.val (.int (q.i:Nat)),.val (.int s.t),.no,.no,.no] h) fnK) _=_
 simp_all? only [yei,g3,i2,f6,yw (m:="row") R.run (by rfl'),yik R.run rfl er,i4,yfi,yw (m:="fall_asleep") (A.get 5 rfl) (by rfl'),fa]
end
section
variable {h:AH}{w:Int}{rows rows':List PV}{c:Lc}{s s':RS}{r:Rw}{g:HC}{q:HQ}{own:List (Nat×Nd)}{rn:Nat}
def hp1 (h:AH) (bf:List Int):AH:=h++[Nd.lst (bf.map .int)]
def hp2 (h:AH) (bf:List Int):AH:=hp1 h bf++[Nd.dct [] []]
def hp3 (h:AH) (bf:List Int):AH:=hp2 h bf++[Nd.lst [.loc (hp1 h bf).length]]
def hp4 (h:AH) (bf:List Int):AH:=hp3 h bf++[Nd.dct [] []]
noncomputable def hp5 (h:AH) (bf:List Int):AH:=hp4 h bf++[Nd.ins 11 ["stack","last_seen"] [.loc (hp2 h bf).length,.loc (hp3 h bf).length]]
def hp6 (h:AH) (bf:List Int):AH:=hp5 h bf++[Nd.dct [] []]
def hp7 (h:AH) (bf:List Int):AH:=hp6 h bf++[Nd.lst []]
theorem ytp {bf:List Int}:∃ h' c',ob (ydE [.lst rows,.lst (bf.map .int),.int w] h) (fun d h1=>some (PV.loc h1.length,h1++[d]))=some (.loc c'.rn,h')/\∀ m,At h m->RR w rows m h' c' (S0 bf):=by
 refine ⟨_,⟨(hp7 h bf).length,h.length,(hp4 h bf).length,(hp2 h bf).length,(hp3 h bf).length,(hp5 h bf).length,(hp6 h bf).length,[(hp1 h bf).length]⟩,rfl,fun m A=>⟨?_,rfl⟩⟩
 have A2:=At.new (.dct [] []) (a:=[_]) (At.new (.lst (bf.map .int)) (a:=[]) A)
 have A4:=At.new (.dct [] []) (a:=[_,_]) (At.new (.lst [.loc (hp1 h bf).length]) (a:=[_]) A2)
 have A5:=At.new (.ins 11 ["stack","last_seen"] [.loc (hp2 h bf).length,.loc (hp3 h bf).length]) (a:=[_]) A4
 exact At.new _ (a:=[]) (At.new (.lst []) (a:=[_,_,_,_,_]) (At.new (.dct [] []) (a:=[_,_,_,_]) A5))
theorem ytq {n:Nat}{ds:List PV}{w nth v:Int}{sl:Bool}{bf:List Int}{rn:Nat}{ρ:PSt}(e:h[n]?=some (ycU ds w nth sl bf rn)):fL [14] "nth" ρ (.int v) (.loc n) h=some (.nx ρ,h.set n (ycU ds w v sl bf rn)):=yfj e (by decide) (by kernel_rfl!)
theorem yxd {n:Nat}{ds:List PV}{w nth:Int}{sl:Bool}{bf v:List Int}{rn:Nat}{ρ:PSt}(e:h[n]?=some (ycU ds w nth sl bf rn)):fL [14] "before" ρ (.lst (v.map .int)) (.loc n) h=some (.nx ρ,h.set n (ycU ds w nth sl v rn)):=yfj e (by decide) (by kernel_rfl!)
theorem yqK {n:Nat}{ds:List PV}{w nth:Int}{sl:Bool}{bf:List Int}{rn v:Nat}{ρ:PSt}(e:h[n]?=some (ycU ds w nth sl bf rn)):fL [14] "run" ρ (.loc v) (.loc n) h=some (.nx ρ,h.set n (ycU ds w nth sl bf v)):=yfj e (by decide) (by kernel_rfl!)
def Due (ds:List PV) (nth:Nat) (rows:List PV):Prop:=nth<ds.length/\ds[nth]?=some (.lst rows)\/nth=ds.length/\rows=[]
theorem yfZ {n:Nat}{ds:List PV}{nth:Nat}{bf:List Int}(f1:yen [14] "deeds" (.loc n) h=some (.lst ds,h)) (f2:yen [12,14] "width" (.loc n) h=some (.int w,h)) (f3:yen [14] "nth" (.loc n) h=some (.int nth,h)) (f5:yen [14] "before" (.loc n) h=some (.lst (bf.map .int),h)) (hr:Due ds nth rows):∃ h' c',ybF [.loc n] h=some (.loc c'.rn,h')/\∀ m,At h m->RR w rows m h' c' (S0 bf):=by
 obtain ⟨h',c',q1,q2⟩:=ytp (h:=h) (w:=w) (rows:=rows) (bf:=bf)
 refine ⟨h',c',?_,q2⟩
 unfold ybF
 rw [yp]
 show ob (yo _ _ [.val (.loc n),.no] h) fnK=_
 rcases hr with ⟨h1,h2⟩|⟨h1,h2⟩
 .have e1:(((nth:Nat):Int)<(ds.length:Nat))=True:=eq_true (by omega)
  have e2:ycC (.lst ds) (.int (nth:Nat)) h=some (.lst rows,h):=by unfold ycC;simp only [ydS h2]
  simp_all? only [f3,f1,f5,f2,e1,e2,q1]
 .have e1:(((nth:Nat):Int)<(ds.length:Nat))=False:=eq_false (by omega)
  subst h2
  simp_all? only [f3,f1,f5,f2,e1,q1]
theorem ytr {v:PV}{bf:List Int}(A:At h (HL g rn w q own)) (hb:∀ h1,At h1 (HL g rn w { q with nth:=q.nth+1 } own)->ybd [v] h1=some (.lst (bf.map .int),h1)) (hr:Due q.ds (q.nth+1) rows) :
  ∃ h' c',ydy [.loc q.hd,v] h=some (.non,h')/\RR w rows (HL g c'.rn w { q with nth:=q.nth+1,bf:=bf } own) h' c' (S0 bf):=by
 obtain ⟨f1,f2,f3,f4,f5,f6⟩:=yda (A.get 5 rfl)
 have A1:At (h.set q.hd (ycU q.ds w (q.nth+1:Nat) q.sl q.bf rn)) (HL g rn w { q with nth:=q.nth+1 } own):=At.upd (a:=[_,_,_,_,_]) _ A
 have A2:At ((h.set q.hd (ycU q.ds w (q.nth+1:Nat) q.sl q.bf rn)).set q.hd (ycU q.ds w (q.nth+1:Nat) q.sl bf rn)) (HL g rn w { q with nth:=q.nth+1,bf:=bf } own):=At.upd (a:=[_,_,_,_,_]) _ A1
 have s1:=fun ρ=>ytq (ρ:=ρ) (v:=((q.nth+1:Nat):Int)) (A.get 5 rfl)
 have s2:=fun ρ=>yxd (ρ:=ρ) (v:=bf) (A1.get 5 rfl)
 have b1:=hb _ A1
 obtain ⟨a1,a2,a3,a4,a5,a6⟩:=yda (A2.get 5 rfl)
 obtain ⟨h',c',q1,q2⟩:=yfZ a1 a2 a3 a5 hr
 have R:=q2 _ A2
 have B:=R.rest
 have s3:=fun ρ=>yqK (ρ:=ρ) (v:=c'.rn) (B.get 5 rfl)
 refine ⟨h'.set q.hd (ycU q.ds w (q.nth+1:Nat) q.sl bf c'.rn),c',?_,RR.urest (a:=[_,_,_,_,_]) _ R⟩
 have z:((q.nth:Nat):Int)+1=((q.nth+1:Nat):Int):=by omega
 unfold ydy
 rw [yp]
 show ob (yo _ _ [.val (.loc q.hd),.val v] h) fnK=_
 simp_all? only [ytn,yei,f3,z,s1,s2,b1,yw (m:="new_run") (A2.get 5 rfl) (by rfl'),q1,s3]
def EX (c:Lc) (w:Int) (rows:List PV) (s:RS):List (Nat×Nd):=RM w rows c s []
theorem yhi {m:List (Nat×Nd)}:RM w rows c s m=EX c w rows s++m:=by
 unfold EX RM
 simp
theorem RR.hl (R:RR w rows (HL g c.rn w q own) h c s):At h (HL g c.rn w q (EX c w rows s++own)):=by
 have A:=R.at_
 rw [yhi] at A
 exact A.perm (show (HL g c.rn w q []++(EX c w rows s++own)).Perm _ from List.perm_append_comm_assoc _ _ _)
theorem yuJ {L:List PV}{b st:Nat}{m:List (Nat×Int×Int)}(e1:h[b]?=some (.ins 11 ["stack","last_seen"] [.loc st,.loc rn])) (e2:h[rn]?=some (.dct (sK m) (sA m))) (hs:sortI (sK m) (sA m)=some L):yex [.loc b] h=some (.lst L,h):=by
 have e1:=yqD e1
 unfold yex
 rw [yp,ypC,yBn]
 unfold yic
 rw [ypD,show yf 0 ([PV.loc b].map .val++replicate (1-[PV.loc b].length) .no) h=some (.loc b,h) from rfl,yce,e1,yce]
 unfold ynN
 simp only [e2,hs]
 rfl
noncomputable def yxE (q:HQ) (en:PV) (L laid:List PV) (bf:List Int):PV:=.tup [.int (q.i:Nat),.int (q.nth:Nat),en,.lst L,.lst laid,.lst (bf.map .int)]
theorem ylY {en v:PV}{L laid:List PV}{bf:List Int}(A:At h (HL g c.rn w q (EX c w rows s++own))) (hi:q.cw[q.i]?=some q.hd) (hs:sortI (sK s.sn) (sA s.sn)=some L) (hb:∀ h1 q',At h1 (HL g c.rn w q' (EX c w rows s++own))->ybd [v] h1=some (.lst (bf.map .int),h1)) (hr:Due q.ds (q.nth+1) rows') (hl:q.en.length<1000) :
  ∃ h' c',ycv [.loc g.H,.int (q.i:Nat),en,.lst laid,v] h=some (.non,h')/\RR w rows' (HL g c'.rn w { q with en:=q.en++[yxE q en L laid bf],nth:=q.nth+1,bf:=bf } own) h' c' (S0 bf):=by
 obtain ⟨f1,f2,f3,f4⟩:=ycG (A.get 0 rfl)
 obtain ⟨k1,k2,k3,k4,k5,k6⟩:=yda (A.get 5 rfl)
 obtain ⟨r1,r2,r3,r4,r5,r6,r7⟩:=ydK (A.get 6 rfl)
 have i2:=yoc A hi
 have een:h[g.en]?=some (.lst q.en):=A.get 4 rfl
 have A1:At (h.set g.en (.lst (q.en++[yxE q en L laid bf]))) (HL g c.rn w { q with en:=q.en++[yxE q en L laid bf] } (EX c w rows s++own)):=At.upd (a:=[_,_,_,_]) _ A
 obtain ⟨h',c',q1,q2⟩:=ytr (v:=v) (bf:=bf) A1 (fun h1 a=>hb h1 _ a) hr
 refine ⟨h',c',?_,q2.sub ((((((List.sublist_append_right _ _).cons₂ _).cons₂ _).cons₂ _).cons₂ _).cons₂ _ |>.cons₂ _)⟩
 have ea:ynM (.loc g.en) [.tup [.int (q.i:Nat),.int (q.nth:Nat),en,.lst L,.lst laid,.lst (bf.map .int)]] h=some (.non,h.set g.en (.lst (q.en++[yxE q en L laid bf]))):=ywe een (by omega)
 have b1:=hb _ _ A
 have sw:=yuJ (A.get 8 rfl) (A.get 10 rfl) hs
 unfold ycv
 rw [yp]
 show ob (yo _ _ [.val (.loc g.H),.val (.int (q.i:Nat)),.val en,.val (.lst laid),.val v,.no] h) fnK=_
 simp_all? only [yei,f3,i2,f4,ypL een,k3,k6,r3,yw (m:="saw") (A.get 8 rfl) (by rfl'),sw,b1,ea,yw (m:="go_on") (A1.get 5 rfl) (by rfl'),q1]
theorem yoe:(("lay":Str) = "take")=False:=eq_false (by rfl')
theorem yof:(("lay":Str) = "wait")=False:=eq_false (by rfl')
theorem ylZ:(("lay":Str) = "throw")=False:=eq_false (by rfl')
end
def ydg (p:Nat×Int):PV:=.tup [.int (p.1:Nat),.int p.2]
def yxF:List Int->List (Nat×Int)->List Int
 | bx,[]=>bx
 | bx,p::r=>yxF (bx.set p.1 p.2) r
def yqL:List Int->List (Nat×Int)->List Int
 | sp,[]=>sp
 | sp,p::r=>yqL (sp.set p.1 (sp.getD p.1 0+1)) r
theorem yng:∀ (l:List (Nat×Int)) (bx:List Int),(yqL bx l).length=bx.length
 | [],_=>rfl
 | p::r,bx=>by show (yqL (bx.set p.1 (bx.getD p.1 0+1)) r).length=_;rw [yng r,length_set]
section
variable {h:AH}{w:Int}{rows rows':List PV}{c:Lc}{s s':RS}{r:Rw}{g:HC}{q:HQ}{own:List (Nat×Nd)}{rn:Nat}
theorem yje {n:Nat}{xs:List Int}{k:Nat}{v:Int}{eo ei ev:XE}{ρ:PSt}(e1:ev ρ h=some (.int v,h)) (e2:eo ρ h=some (.loc n,h)) (e3:ei ρ h=some (.int (k:Nat),h)) (e:h[n]?=some (.lst (xs.map .int))) (hk:k<xs.length):yfc eo ei ev ρ h=some (.nx ρ,h.set n (.lst ((xs.set k v).map .int))):=by
 have e':ixN (xs.map PV.int).length (k:Nat)=some k:=by
  unfold ixN
  simp [hk]
 unfold yfc
 rw [e1,yce,e2,yce,e3,yce]
 simp only [e,e']
 rw [map_set]
theorem yxe {G:XG}{S:XS}{x:PV}{xs:List PV}{ρ ρ1 ρ2:PSt}{h1:AH}(e1:G x ρ=some ρ1) (e2:S ρ1 h=some (.nx ρ2,h1)):yhB G S (x::xs) ρ h=yhB G S xs ρ2 h1:=by
 show (G x ρ).bind _=_
 rw [e1,bind_some,e2]
 rfl
theorem ynh {v1 v2 v3:PVar}:∀ (l:List (Nat×Int)) (q:HQ) (h:AH) (v4 v5:PVar),At h (HL g rn w q own)->(∀ p∈l,p.1<q.bx.length)->q.sp.length=q.bx.length ->
  ∃ h' v4' v5',yhB (yy 4) ldB (l.map ydg) [.val (.loc g.H),v1,v2,v3,v4,v5] h=some (.nx [.val (.loc g.H),v1,v2,v3,v4',v5'],h')/\At h' (HL g rn w { q with bx:=yxF q.bx l,sp:=yqL q.sp l } own)
 | [],q,h,v4,v5,A,_,_=>⟨h,v4,v5,rfl,A⟩
 | p::l,q,h,v4,v5,A,hb,hs=>by
  have hp:=hb p mem_cons_self
  obtain ⟨g1,g2,g3,g4⟩:=ycG (A.get 0 rfl)
  have A1:At (h.set g.nu (.lst ((q.bx.set p.1 p.2).map .int))) (HL g rn w { q with bx:=q.bx.set p.1 p.2 } own):=At.upd (a:=[_]) _ A
  have A2:At ((h.set g.nu (.lst ((q.bx.set p.1 p.2).map .int))).set g.ma (.lst ((q.sp.set p.1 (q.sp.getD p.1 0+1)).map .int))) (HL g rn w { q with bx:=q.bx.set p.1 p.2,sp:=q.sp.set p.1 (q.sp.getD p.1 0+1) } own):=At.upd (a:=[_,_]) _ A1
  obtain ⟨t1,t2,t3,t4⟩:=ycG (A1.get 0 rfl)
  have s1:=yje (h:=h) (xs:=q.bx) (k:=p.1) (v:=p.2) (eo:=ybi [15] "numbers" (yf 0)) (ei:=yf 5) (ev:=xOp (yck) (yf 4) (xC (.int 1))) (ρ:=[.val (.loc g.H),v1,v2,v3,.val (ydg p),.val (.int (p.1:Nat))]) rfl (by simp_all? only [g1]) rfl (A.get 1 rfl) hp
  have s2:=yje (h:=h.set g.nu (.lst ((q.bx.set p.1 p.2).map .int))) (xs:=q.sp) (k:=p.1) (v:=q.sp.getD p.1 0+1) (eo:=ybi [15] "marks" (yf 0)) (ei:=yf 5) (ev:=xOp yjr (xOp (ycC) (ybi [15] "marks" (yf 0)) (yf 5)) (xC (.int 1))) (ρ:=[.val (.loc g.H),v1,v2,v3,.val (ydg p),.val (.int (p.1:Nat))]) (by
   have i3:=ydp (A1.get 2 rfl) (show p.1<q.sp.length by omega)
   simp_all? only [t2,i3]) (by simp_all? only [t2]) rfl (A1.get 2 rfl) (by omega)
  have i0:∀ h,yck (ydg p) (.int 0) h=some (.int (p.1:Nat),h):=fun _=>rfl
  have bd:ldB [.val (.loc g.H),v1,v2,v3,.val (ydg p),v5] h=some (.nx [.val (.loc g.H),v1,v2,v3,.val (ydg p),.val (.int (p.1:Nat))],(h.set g.nu (.lst ((q.bx.set p.1 p.2).map .int))).set g.ma (.lst ((q.sp.set p.1 (q.sp.getD p.1 0+1)).map .int))):=by
   unfold ldB
   simp_all? only [i0,s1,s2]
  obtain ⟨h',a,b,e1,e2⟩:=ynh (v1:=v1) (v2:=v2) (v3:=v3) l _ _ (.val (ydg p)) (.val (.int (p.1:Nat))) A2 (fun x hx=>by show x.1<(q.bx.set p.1 p.2).length;rw [length_set];exact hb x (mem_cons_of_mem _ hx)) (by show (q.sp.set _ _).length=(q.bx.set _ _).length;rw [length_set,length_set];exact hs)
  refine ⟨h',a,b,?_,e2⟩
  show yhB _ _ (ydg p::l.map ydg) _ h=_
  rw [yxe (by kernel_rfl!) bd]
  exact e1
theorem yts {o st b l0:Nat}{d:List Key×List PV}{ks:List Key}{xs L:List PV}(G:LG h o st b [l0] [d] ks xs) (hs:sortI d.1 d.2=some L):ydZ [.loc o] h=some (.lst L,h):=by
 have e1:=ylU G.ob
 have e2:=G.st
 have e3:h[l0]?=some (.dct d.1 d.2):=G.dl.1
 have i2:ycC (.loc st) (.int 0) h=some (.loc l0,h):=by unfold ycC;simp only [e2];rfl
 unfold ydZ
 rw [yp]
 show ob (yo _ _ [.val (.loc o),.no] h) fnK=_
 simp_all? only [e1,i2]
 unfold yic
 symm
 unfold ynN
 simp only [e3,hs]
 rfl
theorem yAx {L:List PV}{l:List (Nat×Int)}{d:List Key×List PV}(R:RR w rows (HL g c.rn w q own) h c s) (hi:q.cw[q.i]?=some q.hd) (ed:s.dd=[d]) (hd:sortI d.1 d.2=some (l.map ydg)) (hb:∀ p∈l,p.1<q.bx.length) (hsp:q.sp.length=q.bx.length) (hL:sortI (sK s.sn) (sA s.sn)=some L) (hr:Due q.ds (q.nth+1) rows') (hl:q.en.length<1000) :
  ∃ h1 c',(∀ h2,ybc [.loc g.H] h1=some (.non,h2)->ycw [.loc g.H,.int (q.i:Nat)] h=some (.non,h2))/\RR w rows' (HL g c'.rn w { q with bx:=yxF q.bx l,sp:=yqL q.sp l,en:=q.en++[yxE q (.tup [.str "done"]) L (l.map ydg) s.hs],nth:=q.nth+1,bf:=s.hs } own) h1 c' (S0 s.hs):=by
 have A:=R.hl
 obtain ⟨l0,el⟩:∃ l0,c.ly=[l0]:=by
  have:=R.len
  rw [ed] at this
  exact List.length_eq_one_iff.mp this
 have G:=R.lg
 rw [el,ed] at G
 have wr:=yts G hd
 obtain ⟨g1,g2,g3,g4⟩:=ycG (A.get 0 rfl)
 obtain ⟨k1,k2,k3,k4,k5,k6⟩:=yda (A.get 5 rfl)
 obtain ⟨r1,r2,r3,r4,r5,r6,r7⟩:=ydK R.run
 have i2:=yoc A hi
 obtain ⟨h3,v4,v5,lp,A2⟩:=ynh (v1:=.val (.int (q.i:Nat))) (v2:=.val (.loc c.rn)) (v3:=.val (.lst (l.map ydg))) l q h .no .no A hb hsp
 obtain ⟨h',c',q1,q2⟩:=ylY (en:=.tup [.str "done"]) (v:=.loc c.hl) (laid:=l.map ydg) (bf:=s.hs) A2 hi hL (fun h1 q' a=>yfy (a.get 7 rfl)) hr hl
 refine ⟨h',c',fun h2 wk=>?_,q2⟩
 obtain ⟨u1,u2,u3,u4,u5,u6,u7⟩:=ydK (A2.get 6 rfl)
 have i7:xIL (yf 3) [.val (.loc g.H),.val (.int (q.i:Nat)),.val (.loc c.rn),.val (.lst (l.map ydg)),.no,.no] h=some (l.map ydg,h):=ylT rfl
 unfold ycw
 rw [yp]
 show ob (yo _ (yo _ (yo (ynE (xIL (yf 3)) _ ldB) _)) [.val (.loc g.H),.val (.int (q.i:Nat)),.no,.no,.no,.no] h) fnK=_
 simp_all? only [yei,g3,i2,k6,r3,yw (m:="wrote") R.lg.ob (by rfl'),wr,i7,lp,u1,yw (m:="end_deed") (A2.get 0 rfl) (by rfl'),q1,yw (m:="wake_stale") (q2.rest.get 0 rfl) (by rfl'),wk]
theorem yqM {L:List PV}{l:List (Nat×Int)}{d:List Key×List PV}(R:RR w rows (HL g c.rn w q own) h c s) (hi:q.cw[q.i]?=some q.hd) (er:rows[s.t]?=some (ycE .lay)) (hw:1<=w) (hn:q.nth<q.ds.length) (hs:q.sl=false) (ok:OkS s) (F:NF q.sp.length s) (fr:stB s.sn q.sp=false) (ed:s.dd=[d]) (hd:sortI d.1 d.2=some (l.map ydg)) (hb:∀ p∈l,p.1<q.bx.length) (hsp:q.sp.length=q.bx.length) (hL:sortI (sK s.sn) (sA s.sn)=some L) (hr:Due q.ds (q.nth+1) rows') (hl:q.en.length<1000) :
  ∃ h1 c',(∀ h2,ybc [.loc g.H] h1=some (.non,h2)->yv [.loc g.H,.int (q.i:Nat)] h=some (.tup [.str "done",.int s.t],h2))/\RR w rows' (HL g c'.rn w { q with bx:=yxF q.bx l,sp:=yqL q.sp l,en:=q.en++[yxE q (.tup [.str "done"]) L (l.map ydg) s.hs],nth:=q.nth+1,bf:=s.hs } own) h1 c' (S0 s.hs):=by
 obtain ⟨h',c',q1,q2⟩:=yAx R hi ed hd hb hsp hL hr hl
 refine ⟨h',c',fun h2 wk=>?_,q2⟩
 have q1:=q1 h2 wk
 rw [yhh R hi er hw hn hs ok trivial rfl F fr]
 have A:=R.rest
 obtain ⟨f1,f2,f3,f4,f5,f6⟩:=yda (A.get 5 rfl)
 obtain ⟨g1,g2,g3,g4⟩:=ycG (A.get 0 rfl)
 have i2:=yoc A hi
 have i4:∀ h,yck (ycE .lay) (.int 0) h=some (.str "lay",h):=fun _=>rfl
 unfold yH
 rw [yp]
 show ob (ob (yo _ _ [.val (.loc g.H),.val (.int (q.i:Nat)),.val (.int s.t),.no,.no,.no] h) fnK) _=_
 simp_all? only [yei,g3,i2,f6,yw (m:="row") R.run (by rfl'),yik R.run rfl er,i4,yoe,yof,ylZ,yw (m:="lay_down") (A.get 0 rfl) (by rfl'),q1]
theorem yqN (R:RR w rows (HL g c.rn w q own) h c s) (hr:Due q.ds q.nth rows'):∃ h' c',ybu [.loc q.hd] h=some (.non,h')/\RR w rows' (HL g c'.rn w { q with sl:=false } own) h' c' (S0 q.bf):=by
 have A:=R.rest
 have A1:At (h.set q.hd (ycU q.ds w q.nth false q.bf c.rn)) (HL g c.rn w { q with sl:=false } own):=At.upd (a:=[_,_,_,_,_]) _ A
 have s1:=fun ρ=>yqJ (ρ:=ρ) (v:=false) (A.get 5 rfl)
 obtain ⟨a1,a2,a3,a4,a5,a6⟩:=yda (A1.get 5 rfl)
 obtain ⟨h',c',q1,q2⟩:=yfZ a1 a2 a3 a5 hr
 have R':=q2 _ A1
 have B:=R'.rest
 have s3:=fun ρ=>yqK (ρ:=ρ) (v:=c'.rn) (B.get 5 rfl)
 refine ⟨h'.set q.hd (ycU q.ds w q.nth false q.bf c'.rn),c',?_,RR.urest (a:=[_,_,_,_,_]) _ R'⟩
 unfold ybu
 rw [yp]
 show ob (yo _ _ [.val (.loc q.hd)] h) fnK=_
 simp_all? only [ytn,yei,s1,yw (m:="new_run") (A1.get 5 rfl) (by rfl'),q1,s3]
theorem yqO (R:RR w rows (HL g c.rn w q own) h c s) (hi:q.cw[q.i]?=some q.hd) (er:rows[s.t]?=some (ycE r)) (hw:1<=w) (hn:q.nth<q.ds.length) (hs:q.sl=false) (ok:OkS s) (okr:okR r) (hlk:yjc w s r=true) (F:NF q.sp.length s) (fr:stB s.sn q.sp=true) (hr:Due q.ds q.nth rows') :
  ∃ h' c',yv [.loc g.H,.int (q.i:Nat)] h=some (.tup [.str "anew",.int s.t],h')/\RR w rows' (HL g c'.rn w { q with sl:=false } own) h' c' (S0 q.bf):=by
 obtain ⟨h',c',q1,q2⟩:=yqN R hr
 refine ⟨h',c',?_,q2⟩
 have A:=R.rest
 obtain ⟨f1,f2,f3,f4,f5,f6⟩:=yda (A.get 5 rfl)
 obtain ⟨g1,g2,g3,g4⟩:=ycG (A.get 0 rfl)
 obtain ⟨k1,k2,k3,k4,k5,k6,k7⟩:=ydK R.run
 have st:=yeL A
 rw [awake hn hs] at st
 have lk:=ylV R er ok okr hw
 rw [hlk] at lk
 have sl:=yjd (ma:=g.ma) (sp:=q.sp) R (mem_of_getElem? (i:=2) rfl) F.nd F.hb F.hl
 rw [fr] at sl
 unfold yv
 rw [yp]
 show ob (yo _ _ [.val (.loc g.H),.val (.int (q.i:Nat)),.no,.no] h) fnK=_
 simp_all? only [yei,yw (m:="hand_at") (A.get 0 rfl) (by rfl'),ydO A hi,yw (m:="state") (A.get 5 rfl) (by rfl'),st,f6,k5,yw (m:="is_looked_over") R.run (by rfl'),lk,g2,yw (m:="is_stale") R.run (by rfl'),sl,yw (m:="begin_anew") (A.get 5 rfl) (by rfl'),q1]
end
structure HD where
 ds:List PV
 nth:Nat
 sl:Bool
 bf:List Int
 rows:List PV
 s:RS
def HN (w:Int) (a:Nat×Lc) (x:HD) (m:List (Nat×Nd)):List (Nat×Nd):=(a.1,ycU x.ds w x.nth x.sl x.bf a.2.rn)::RM w x.rows a.2 x.s m
def CR (w:Int):List (Nat×Lc)->List HD->List (Nat×Nd)->List (Nat×Nd)
 | a::as,x::xs,m=>HN w a x (CR w as xs m)
 | _,_,m=>m
def LyOk:List (Nat×Lc)->List HD->Prop
 | a::as,x::xs=>a.2.ly.length=x.s.dd.length/\LyOk as xs
 | [],[]=>True
 | _,_=>False
noncomputable def H5 (g:HC) (bx sp:List Int) (en:List PV) (cw:List Nat):List (Nat×Nd):=[(g.H,ytm g.nu g.ma g.cr g.en),(g.nu,.lst (bx.map .int)),(g.ma,.lst (sp.map .int)),(g.cr,.lst (cw.map .loc)),(g.en,.lst en)]
structure HH (h:AH) (g:HC) (w:Int) (bx sp:List Int) (en:List PV) (as:List (Nat×Lc)) (xs:List HD) (own:List (Nat×Nd)):Prop where
 at_:At h (H5 g bx sp en (as.map (·.1))++CR w as xs own)
 ly:LyOk as xs
def qOf (bx sp:List Int) (en:List PV) (cw:List Nat) (i hd:Nat) (x:HD):HQ:=⟨bx,sp,en,cw,i,hd,x.ds,x.nth,x.sl,x.bf⟩
section
variable {h:AH}{w:Int}{g:HC}{bx sp:List Int}{en:List PV}{as as1 as2:List (Nat×Lc)}{xs xs1 xs2:List HD}{a:Nat×Lc}{x x':HD}{own m:List (Nat×Nd)}{c:Lc}
theorem ygi:HN w a x m=HN w a x []++m:=by
 unfold HN
 rw [yhi,yhi,append_nil]
 rfl
theorem yjf:∀ {as1:List (Nat×Lc)}{xs1:List HD},as1.length=xs1.length->(CR w (as1++a::as2) (xs1++x::xs2) m).Perm (HN w a x (CR w as1 xs1 (CR w as2 xs2 m)))
 | [],[],_=>.refl _
 | b::as1,y::xs1,e=>by
  show (HN w b y (CR w (as1++a::as2) (xs1++x::xs2) m)).Perm (HN w a x (HN w b y (CR w as1 xs1 (CR w as2 xs2 m))))
  have ih:=yjf (as1:=as1) (xs1:=xs1) (by simpa using e)
  rw [ygi (a:=b),ygi (a:=a) (m:=HN w b y _),ygi (a:=b) (m:=CR w as1 xs1 _)]
  refine (ih.append_left _).trans ?_
  rw [ygi (a:=a)]
  exact List.perm_append_comm_assoc _ _ _
theorem LyOk.split:∀ {as1:List (Nat×Lc)}{xs1:List HD},as1.length=xs1.length->(LyOk (as1++a::as2) (xs1++x::xs2) ↔ LyOk as1 xs1/\a.2.ly.length=x.s.dd.length/\LyOk as2 xs2)
 | [],[],_=>⟨fun k=>⟨trivial,k⟩,fun k=>k.2⟩
 | b::as1,y::xs1,e=>by
  have ih:=LyOk.split (as1:=as1) (xs1:=xs1) (by simpa using e)
  show _/\LyOk (as1++a::as2) (xs1++x::xs2) ↔ (_/\LyOk as1 xs1)/\_
  rw [ih,and_assoc]
theorem yAy {rows:List PV}{s:RS}{rn:Nat}{q:HQ}:(H5 g q.bx q.sp q.en q.cw++((q.hd,ycU q.ds w q.nth q.sl q.bf rn)::RM w rows c s m)).Perm (RM w rows c s (HL g rn w q m)):=by
 rw [yhi,yhi]
 refine .trans ?_ (show (H5 g q.bx q.sp q.en q.cw++(EX c w rows s++((q.hd,ycU q.ds w q.nth q.sl q.bf rn)::m))).Perm (EX c w rows s++HL g rn w q m) from List.perm_append_comm_assoc _ _ _)
 exact (List.perm_middle.symm).append_left _
theorem HH.foc (X:HH h g w bx sp en (as1++a::as2) (xs1++x::xs2) own) (l:as1.length=xs1.length):RR w x.rows (HL g a.2.rn w (qOf bx sp en ((as1++a::as2).map (·.1)) as1.length a.1 x) (CR w as1 xs1 (CR w as2 xs2 own))) h a.2 x.s:=by
 refine ⟨?_,((LyOk.split l).mp X.ly).2.1⟩
 exact X.at_.perm (((yjf l).append_left _).trans (yAy (q:=qOf bx sp en _ _ _ _))).symm
theorem HH.unf {bx' sp':List Int}{en':List PV}(L:LyOk (as1++a::as2) (xs1++x::xs2)) (l:as1.length=xs1.length) (R:RR w x'.rows (HL g c.rn w (qOf bx' sp' en' ((as1++a::as2).map (·.1)) as1.length a.1 x') (CR w as1 xs1 (CR w as2 xs2 own))) h c x'.s):HH h g w bx' sp' en' (as1++(a.1,c)::as2) (xs1++x'::xs2) own:=by
 obtain ⟨l1,l2,l3⟩:=(LyOk.split l).mp L
 refine ⟨?_,(LyOk.split l).mpr ⟨l1,R.len,l3⟩⟩
 have e:(as1++(a.1,c)::as2).map (·.1)=(as1++a::as2).map (·.1):=by simp
 rw [e]
 exact R.at_.perm (((yjf l).append_left _).trans (yAy (q:=qOf bx' sp' en' _ _ _ _)))
theorem ykC:((as1++a::as2).map (·.1))[as1.length]?=some a.1:=by simp
def asB (x:HD):Bool:=decide (x.nth≠x.ds.length) && x.sl
def yeP (sp:List Int) (x:HD):HD:=if (asB x && stB x.s.sn sp)=true then { x with sl:=false,s:=S0 x.bf } else x
theorem yhK:(("ended":Str) = "asleep")=False:=eq_false (by rfl')
theorem yhL:(("awake":Str) = "asleep")=False:=eq_false (by rfl')
theorem yAz (X:HH h g w bx sp en (as1++a::as2) (xs1++x::xs2) own) (l:as1.length=xs1.length) (hr:Due x.ds x.nth x.rows) (F:NF sp.length x.s):∃ h' c',wkB [.val (.loc g.H),.val (.loc a.1)] h=some (.nx [.val (.loc g.H),.val (.loc a.1)],h')/\HH h' g w bx sp en (as1++(a.1,c')::as2) (xs1++yeP sp x::xs2) own:=by
 have R:=X.foc l
 have A:=R.rest
 have st:=yeL A
 obtain ⟨g1,g2,g3,g4⟩:=ycG (A.get 0 rfl)
 have hh:h[a.1]?=some (ycU x.ds w x.nth x.sl x.bf a.2.rn):=A.get 5 rfl
 have f6:=(yda hh).2.2.2.2.2
 have sl:=yjd (ma:=g.ma) (sp:=sp) R (mem_of_getElem? (i:=2) rfl) F.nd F.hb F.hl
 have r0:=R.run
 by_cases e:x.nth=x.ds.length
 .have st':stN (qOf bx sp en ((as1++a::as2).map (·.1)) as1.length a.1 x) = "ended":=if_pos e
  rw [st'] at st
  have e':yeP sp x=x:=by unfold yeP asB;simp [e]
  rw [e']
  refine ⟨h,a.2,?_,X⟩
  unfold wkB
  dsimp only [qOf] at st
  simp_all? only [yei,yw (m:="state") hh (by rfl'),st,yhK]
 .cases es:x.sl with
  | false =>
   have st':stN (qOf bx sp en ((as1++a::as2).map (·.1)) as1.length a.1 x) = "awake":=(if_neg e).trans (if_neg (by rw [show (qOf bx sp en ((as1++a::as2).map (·.1)) as1.length a.1 x).sl=x.sl from rfl,es];decide))
   rw [st'] at st
   have e':yeP sp x=x:=by unfold yeP asB;simp [es]
   rw [e']
   refine ⟨h,a.2,?_,X⟩
   unfold wkB
   dsimp only [qOf] at st
   simp_all? only [yei,yw (m:="state") hh (by rfl'),st,yhL]
  | true =>
   have st':stN (qOf bx sp en ((as1++a::as2).map (·.1)) as1.length a.1 x) = "asleep":=(if_neg e).trans (if_pos (by rw [show (qOf bx sp en ((as1++a::as2).map (·.1)) as1.length a.1 x).sl=x.sl from rfl,es]))
   rw [st'] at st
   dsimp only [qOf] at st
   cases eb:stB x.s.sn sp with
   | false =>
    have e':yeP sp x=x:=by unfold yeP;simp [eb]
    rw [e']
    rw [eb] at sl
    refine ⟨h,a.2,?_,X⟩
    unfold wkB
    simp_all? only [yei,yw (m:="state") hh (by rfl'),st,f6,g2,yw (m:="is_stale") r0 (by rfl'),sl]
   | true =>
    have e':yeP sp x={ x with sl:=false,s:=S0 x.bf }:=if_pos (by unfold asB;simp [e,es,eb])
    rw [e']
    rw [eb] at sl
    obtain ⟨h',c',q1,R'⟩:=yqN R (show Due (qOf bx sp en ((as1++a::as2).map (·.1)) as1.length a.1 x).ds (qOf bx sp en ((as1++a::as2).map (·.1)) as1.length a.1 x).nth x.rows from hr)
    refine ⟨h',c',?_,HH.unf (x':={ x with sl:=false,s:=S0 x.bf }) X.ly l R'⟩
    dsimp only [qOf] at q1
    unfold wkB
    simp_all? only [yei,yw (m:="state") hh (by rfl'),st,f6,g2,yw (m:="is_stale") r0 (by rfl'),sl,yw (m:="begin_anew") hh (by rfl'),q1]
def yAA (W:Nat) (x:HD):Prop:=Due x.ds x.nth x.rows/\NF W x.s
theorem LyOk.len:∀ {as:List (Nat×Lc)}{xs:List HD},LyOk as xs->as.length=xs.length
 | [],[],_=>rfl
 | _::_,_::_,k=>by rw [length_cons,length_cons,LyOk.len k.2]
theorem LyOk.app:∀ {as1 as2:List (Nat×Lc)}{xs1 xs2:List HD},as1.length=xs1.length->LyOk (as1++as2) (xs1++xs2)->LyOk as2 xs2
 | [],_,[],_,_,k=>k
 | _::_,_,_::_,_,e,k=>LyOk.app (by simpa using e) k.2
theorem yqP:∀ (as2:List (Nat×Lc)) (xs2:List HD) (as1:List (Nat×Lc)) (xs1:List HD) (h:AH) (v:PVar),HH h g w bx sp en (as1++as2) (xs1++xs2) own->as1.length=xs1.length->(∀ x∈xs2,yAA sp.length x) ->
  ∃ h' as' v',ykU g.cr false (yy 1) wkB as2.length as1.length [.val (.loc g.H),v] h=some (.nx [.val (.loc g.H),v'],h')/\HH h' g w bx sp en (as1++as') (xs1++xs2.map (yeP sp)) own/\as'.map (·.1)=as2.map (·.1)
 | [],xs2,as1,xs1,h,v,X,l,_=>by
  have e:h[g.cr]?=some (.lst (((as1++([]:List (Nat×Lc))).map (fun a=>a.1)).map .loc)):=X.at_.get 3 rfl
  have l2:=(LyOk.app l X.ly).len
  have:xs2=[]:=List.length_eq_zero_iff.mp l2.symm
  subst this
  refine ⟨h,[],v,?_,X,rfl⟩
  show ykU g.cr false (yy 1) wkB 0 as1.length _ h=_
  unfold ykU
  simp only [e]
  rw [if_pos (by simp)]
 | a::as2,[],as1,xs1,h,v,X,l,_=>by
  have l2:=(LyOk.app l X.ly).len
  cases l2
 | a::as2,x::xs2,as1,xs1,h,v,X,l,hx=>by
  have e:h[g.cr]?=some (.lst (((as1++a::as2).map (·.1)).map .loc)):=X.at_.get 3 rfl
  obtain ⟨h1,c1,q1,X1⟩:=yAz X l (hx x mem_cons_self).1 (hx x mem_cons_self).2
  obtain ⟨h',as',v',q2,X2,em⟩:=yqP as2 xs2 (as1++[(a.1,c1)]) (xs1++[yeP sp x]) h1 (.val (.loc a.1)) (by rw [append_assoc,append_assoc];exact X1) (by simp [l]) (fun y hy=>hx y (mem_cons_of_mem _ hy))
  refine ⟨h',(a.1,c1)::as',v',?_,by rw [append_assoc,append_assoc] at X2;exact X2,by simp [em]⟩
  rw [length_append] at q2
  have y1:yy 1 (.loc a.1) [.val (.loc g.H),v]=some [.val (.loc g.H),.val (.loc a.1)]:=rfl
  have ei:(((as1++a::as2).map (·.1)).map PV.loc)[as1.length]?=some (.loc a.1):=by rw [getElem?_map,ykC];rfl
  show ykU g.cr false (yy 1) wkB (as2.length+1) as1.length _ h=_
  unfold ykU
  simp only [e,Bool.false_eq_true,if_false,ei,y1,bind_some,q1,yce]
  exact q2
theorem yxf (X:HH h g w bx sp en as xs own) (hx:∀ x∈xs,yAA sp.length x):∃ h' as',ybc [.loc g.H] h=some (.non,h')/\HH h' g w bx sp en as' (xs.map (yeP sp)) own/\as'.map (·.1)=as.map (·.1):=by
 obtain ⟨h',as',v',q1,q2,q3⟩:=yqP as xs [] [] h .no X rfl hx
 refine ⟨h',as',?_,q2,q3⟩
 obtain ⟨g1,g2,g3,g4⟩:=ycG (X.at_.get 0 rfl)
 have e:h[g.cr]?=some (.lst ((as.map (·.1)).map .loc)):=X.at_.get 3 rfl
 unfold ybc
 rw [yp]
 show ob (yiO false _ (yy 1) wkB [.val (.loc g.H),.no] h) fnK=_
 unfold yiO
 simp_all? only [g3]
 simp only [e]
 rw [length_map,length_map]
 exact (congrArg (fun o=>ob o fnK) q1).trans rfl
end
section
variable {h:AH}{w:Int}{g:HC}{bx sp:List Int}{en:List PV}{as as1 as2:List (Nat×Lc)}{xs xs1 xs2:List HD}{a:Nat×Lc}{x x':HD}{own m:List (Nat×Nd)}{c:Lc}{s s':RS}{r:Rw}
theorem ykD {rws:List Rw}{t:Nat}(er:rws[t]?=some r):(rws.map ycE)[t]?=some (ycE r):=by rw [getElem?_map,er];rfl
theorem yDm {rws:List Rw}(X:HH h g bx.length bx sp en (as1++a::as2) (xs1++x::xs2) own) (l:as1.length=xs1.length) (h1:1<=bx.length) (hr:x.rows=rws.map ycE) (hn:x.nth<x.ds.length) (hs:x.sl=false) (er:rws[x.s.t]?=some r) (ok:OkS x.s) (okr:okR r) (hlk:yjc bx.length x.s r=false) (e:yto bx.length r x.s=some s') :
  ∃ h' c',yv [.loc g.H,.int (as1.length:Nat)] h=some (.tup [.str "gone",.int x.s.t],h')/\HH h' g bx.length bx sp en (as1++(a.1,c')::as2) (xs1++{ x with s:=s' }::xs2) own:=by
 have R:=X.foc l
 obtain ⟨h',c',q1,R'⟩:=yqH (q:=qOf bx sp en _ as1.length a.1 x) R (by exact ykC) (by rw [hr];exact ykD er) (by omega) hn hs ok okr hlk e
 exact ⟨h',c',q1,HH.unf (x':={ x with s:=s' }) X.ly l R'⟩
theorem yDn {rws:List Rw}{p q:Str}{k:Nat}(X:HH h g bx.length bx sp en (as1++a::as2) (xs1++x::xs2) own) (l:as1.length=xs1.length) (hbs:sp.length=bx.length) (h1:1<=bx.length) (hr:x.rows=rws.map ycE) (hn:x.nth<x.ds.length) (hs:x.sl=false) (F:NF bx.length x.s) (fr:stB x.s.sn sp=false) (er:rws[x.s.t]?=some (.take p q)) (ok:OkS x.s) (okr:okR (.take p q)) (hlk:isN (yAp x.s bx.length q)=true) (ek:x.s.hs.getD (sx q) 0%(bx.length:Int)=(k:Nat)) (hk:k<bx.length) :
  ∃ h',yv [.loc g.H,.int (as1.length:Nat)] h=some (.tup [.str "seen",.int x.s.t,.int (k:Nat),.int (bx.getD k 0)],h')/\HH h' g bx.length bx sp en (as1++a::as2) (xs1++{ x with s:=⟨x.s.t+1,x.s.hs.set (sx p) (bx.getD k 0),x.s.sd,x.s.dd,yej x.s.sn k (bx.getD k 0) (sp.getD k 0)⟩ }::xs2) own:=by
 have R:=X.foc l
 obtain ⟨h',q1,R'⟩:=yqI (q:=qOf bx sp en _ as1.length a.1 x) R (by exact ykC) (by rw [hr];exact ykD er) (by omega) hn hs ok okr hlk (show NF sp.length x.s by rw [hbs];exact F) fr ek hk hbs
 exact ⟨h',q1,HH.unf (x':={ x with s:=_ }) X.ly l R'⟩
def stX (x:HD):Str:=if x.nth=x.ds.length then "ended" else if x.sl=true then "asleep" else "awake"
theorem yDo (X:HH h g w bx sp en (as1++a::as2) (xs1++x::xs2) own) (l:as1.length=xs1.length) (hs:(stX x = "awake")=False):yv [.loc g.H,.int (as1.length:Nat)] h=some (.tup [.str "idle"],h):=yqG (q:=qOf bx sp en _ as1.length a.1 x) (X.foc l).rest (by exact ykC) hs
theorem yAB {rws:List Rw}(X:HH h g bx.length bx sp en (as1++a::as2) (xs1++x::xs2) own) (l:as1.length=xs1.length) (hbs:sp.length=bx.length) (h1:1<=bx.length) (hr:x.rows=rws.map ycE) (hn:x.nth<x.ds.length) (hs:x.sl=false) (F:NF bx.length x.s) (fr:stB x.s.sn sp=false) (er:rws[x.s.t]?=some .wait) (ok:OkS x.s) (lk:yjc bx.length x.s .wait=true) :
  ∃ h',yv [.loc g.H,.int (as1.length:Nat)] h=some (.tup [.str "asleep",.int x.s.t],h')/\HH h' g bx.length bx sp en (as1++a::as2) (xs1++{ x with sl:=true }::xs2) own:=by
 have R:=X.foc l
 obtain ⟨h',q1,R'⟩:=yod (q:=qOf bx sp en _ as1.length a.1 x) R (by exact ykC) (by rw [hr];exact ykD er) (by omega) hn hs ok lk (show NF sp.length x.s by rw [hbs];exact F) fr
 exact ⟨h',q1,HH.unf (x':={ x with sl:=true }) X.ly l R'⟩
theorem yDp {rws:List Rw}{rows':List PV}(X:HH h g bx.length bx sp en (as1++a::as2) (xs1++x::xs2) own) (l:as1.length=xs1.length) (hbs:sp.length=bx.length) (h1:1<=bx.length) (hr:x.rows=rws.map ycE) (hn:x.nth<x.ds.length) (hs:x.sl=false) (F:NF bx.length x.s) (fr:stB x.s.sn sp=true) (er:rws[x.s.t]?=some r) (ok:OkS x.s) (okr:okR r) (hlk:yjc bx.length x.s r=true) (hd:Due x.ds x.nth rows') :
  ∃ h' c',yv [.loc g.H,.int (as1.length:Nat)] h=some (.tup [.str "anew",.int x.s.t],h')/\HH h' g bx.length bx sp en (as1++(a.1,c')::as2) (xs1++{ x with sl:=false,rows:=rows',s:=S0 x.bf }::xs2) own:=by
 have R:=X.foc l
 obtain ⟨h',c',q1,R'⟩:=yqO (q:=qOf bx sp en _ as1.length a.1 x) R (by exact ykC) (by rw [hr];exact ykD er) (by omega) hn hs ok okr hlk (show NF sp.length x.s by rw [hbs];exact F) fr hd
 exact ⟨h',c',q1,HH.unf (x':={ x with sl:=false,rows:=rows',s:=S0 x.bf }) X.ly l R'⟩
noncomputable def yEK (i:Nat) (x:HD) (en:PV) (L laid:List PV) (bf:List Int):PV:=.tup [.int (i:Nat),.int (x.nth:Nat),en,.lst L,.lst laid,.lst (bf.map .int)]
theorem yDq {rws:List Rw}{rows' L:List PV}{ls:List (Nat×Int)}{d:List Key×List PV}(X:HH h g bx.length bx sp en (as1++a::as2) (xs1++x::xs2) own) (l:as1.length=xs1.length) (hbs:sp.length=bx.length) (h1:1<=bx.length) (hr:x.rows=rws.map ycE) (hn:x.nth<x.ds.length) (hs:x.sl=false) (F:NF bx.length x.s) (fr:stB x.s.sn sp=false) (er:rws[x.s.t]?=some .lay) (ok:OkS x.s) (ed:x.s.dd=[d]) (hd:sortI d.1 d.2=some (ls.map ydg)) (hb:∀ p∈ls,p.1<bx.length) (hL:sortI (sK x.s.sn) (sA x.s.sn)=some L) (hdu:Due x.ds (x.nth+1) rows') (hl:en.length<1000) (ho:∀ y∈xs1++xs2,yAA bx.length y) :
  ∃ h' as',yv [.loc g.H,.int (as1.length:Nat)] h=some (.tup [.str "done",.int x.s.t],h')/\HH h' g bx.length (yxF bx ls) (yqL sp ls) (en++[yEK as1.length x (.tup [.str "done"]) L (ls.map ydg) x.s.hs]) as' ((xs1++{ x with nth:=x.nth+1,bf:=x.s.hs,rows:=rows',s:=S0 x.s.hs }::xs2).map (yeP (yqL sp ls))) own/\as'.map (·.1)=(as1++a::as2).map (·.1):=by
 have R:=X.foc l
 obtain ⟨h2,c',q1,R'⟩:=yqM (q:=qOf bx sp en _ as1.length a.1 x) R (by exact ykC) (by rw [hr];exact ykD er) (by omega) hn hs ok (show NF sp.length x.s by rw [hbs];exact F) fr ed hd hb hbs hL hdu hl
 have X':=HH.unf (x':={ x with nth:=x.nth+1,bf:=x.s.hs,rows:=rows',s:=S0 x.s.hs }) X.ly l R'
 have hW:(yqL sp ls).length=bx.length:=by rw [yng];exact hbs
 obtain ⟨h',as',q2,X2,em⟩:=yxf X' (fun y hy=>by
  show yAA (yqL sp ls).length y
  rw [hW]
  rcases List.mem_append.mp hy with z|z
  .exact ho y (mem_append_left _ z)
  .rcases mem_cons.mp z with rfl|z
   .exact ⟨hdu,⟨List.nodup_nil,fun p hp=>(by cases hp),(by show 0<=900;omega)⟩⟩
   .exact ho y (mem_append_right _ z))
 exact ⟨h',as',q1 h' q2,X2,by rw [em];simp⟩
theorem ygj:∀ {as:List (Nat×Lc)}{xs:List HD}{m:List (Nat×Nd)},CR w as xs m=CR w as xs []++m
 | [],_,_=>by unfold CR;rfl
 | _::_,[],_=>by unfold CR;rfl
 | a::as,x::xs,m=>by
  show HN w a x (CR w as xs m)=HN w a x (CR w as xs [])++m
  rw [ygi,ygi (m:=CR w as xs []),ygj,append_assoc]
theorem HH.upd {o1 o2:List (Nat×Nd)}{n:Nat}{d:Nd}(d':Nd) (X:HH h g w bx sp en as xs (o1++(n,d)::o2)):HH (h.set n d') g w bx sp en as xs (o1++(n,d')::o2):=by
 refine ⟨?_,X.ly⟩
 have A:=X.at_
 rw [ygj (m:=_++_::_),<- append_assoc,<- append_assoc] at A
 rw [ygj (m:=_++_::_),<- append_assoc,<- append_assoc]
 exact At.upd d' A
theorem HH.get (X:HH h g w bx sp en as xs own) (i:Nat) {n:Nat}{d:Nd}(e:own[i]?=some (n,d)):h[n]?=some d:=by
 have A:=X.at_
 rw [ygj,<- append_assoc] at A
 exact A.2 (n,d) (mem_append_right _ (mem_of_getElem? e))
end
section
variable {h:AH}{w:Int}{g:HC}{bx sp:List Int}{en:List PV}{as as1 as2:List (Nat×Lc)}{xs xs1 xs2:List HD}{a:Nat×Lc}{x x':HD}{own m:List (Nat×Nd)}{c:Lc}{s s':RS}{r:Rw}
theorem ybm {f:PV->PV->Option Bool}{x y:PV}{xs ys:List PV}(e1:f x y=some true) (e2:yfO f xs ys=some true):yfO f (x::xs) (y::ys)=some true:=by
 show (match f x y,yfO f xs ys with|some b,some c=>some (b && c)|_,_=>none)=_
 rw [e1,e2]
 rfl
theorem yhj {n:Nat}{i:Int}:eqP (n+1) h (.int i) (.int i)=some true:=by
 show some (eqV (.int i) (.int i))=_
 rw [yiM rfl]
theorem yqQ {n:Nat}{i:Str}:eqP (n+1) h (.str i) (.str i)=some true:=by
 show some (eqV (.str i) (.str i))=_
 rw [yiM rfl]
theorem yeM {n:Nat}:∀ xs:List Int,yfO (eqP (n+1) h) (xs.map .int) (xs.map .int)=some true
 | []=>rfl
 | _::xs=>ybm yhj (yeM xs)
theorem yqR {n m:Nat}{xs:List Int}(e:h[m]?=some (.lst (xs.map .int))):pairE (eqP (n+1) h) h (.lst (xs.map .int)) (.loc m)=some true:=by
 unfold pairE ybs
 simp only [e,yeM,if_true]
theorem yni {m:Nat}{xs:List Int}(e:h[m]?=some (.lst (xs.map .int))):yxy (.lst (xs.map .int)) (.loc m) h=some (.bl true,h):=by
 unfold yxy
 rw [yqR e]
theorem yma {n:Nat}{xs:List PV}(e:yfO (eqP (n+1) h) xs xs=some true):eqP (n+2) h (.tup xs) (.tup xs)=some true:=by
 show (match yfO (eqP (n+1) h) xs xs with|some b=>some (b && xs.length == xs.length)|none=>none)=_
 rw [e]
 simp
theorem yeg {n:Nat}{xs:List PV}(e:yfO (eqP (n+1) h) xs xs=some true):eqP (n+2) h (.lst xs) (.lst xs)=some true:=by
 show (if xs.length=xs.length then yfO (eqP (n+1) h) xs xs else some false)=_
 rw [if_pos rfl,e]
def Shp (e:PV):Prop:=∃ a b c x y z,e=.tup [a,b,c,.lst x,.lst y,.lst z]
theorem yqS {n:Nat}{en:List PV}{E:XE}{inn:PV->PSt}(e:h[n]?=some (.lst en)) (hE:∀ x∈en,E (inn x) h=some (x,h)):∀ k i,i+k=en.length->ysM n E inn k i h=some (en.drop i,h)
 | 0,i,hi=>by
  unfold ysM
  simp only [e]
  rw [if_pos (by omega),List.drop_of_length_le (by omega)]
 | k+1,i,hi=>by
  have hlt:i<en.length:=by omega
  unfold ysM
  simp only [e,List.getElem?_eq_getElem hlt]
  rw [hE _ (List.getElem_mem hlt),yce,yqS e hE k (i+1) (by omega),yce,List.drop_eq_getElem_cons hlt]
theorem yuK (X:HH h g w bx sp en as xs own):ycS [.loc g.H] h=some (.lst (bx.map .int),h):=by
 obtain ⟨f1,f2,f3,f4⟩:=ycG (X.at_.get 0 rfl)
 unfold ycS
 rw [yp]
 show ob (yN _ [.val (.loc g.H)] h) fnK=_
 simp_all? only [f1,yfy (X.at_.get 1 rfl)]
theorem yqT (X:HH h g w bx sp en as xs own):ycu [.loc g.H] h=some (.lst (sp.map .int),h):=by
 obtain ⟨f1,f2,f3,f4⟩:=ycG (X.at_.get 0 rfl)
 unfold ycu
 rw [yp]
 show ob (yN _ [.val (.loc g.H)] h) fnK=_
 simp_all? only [f2,yfy (X.at_.get 2 rfl)]
theorem yDr (X:HH h g w bx sp en as xs own):ydz [.loc g.H] h=some (.int as.length,h):=by
 obtain ⟨f1,f2,f3,f4⟩:=ycG (X.at_.get 0 rfl)
 have e:h[g.cr]?=some (.lst ((as.map (·.1)).map .loc)):=X.at_.get 3 rfl
 unfold ydz
 rw [yp]
 show ob (yN _ [.val (.loc g.H)] h) fnK=_
 simp_all? only [f3,yiL e]
 rw [length_map,length_map]
theorem ytt (X:HH h g w bx sp en as xs own) (hs:∀ e∈en,Shp e) (hl:en.length<1000):ycM [.loc g.H] h=some (.lst en,h):=by
 obtain ⟨f1,f2,f3,f4⟩:=ycG (X.at_.get 0 rfl)
 have e:h[g.en]?=some (.lst en):=X.at_.get 4 rfl
 unfold ycM
 rw [yp]
 show ob (yN (xFz (yko _ _ _)) [.val (.loc g.H)] h) fnK=_
 rw [ypC,yBn]
 unfold yko
 simp_all? only [f4]
 simp only [e]
 rw [if_pos (by omega),yqS e (fun x hx=>?_) en.length 0 (by omega)]
 .rfl
 .obtain ⟨a,b,c,x,y,z,rfl⟩:=hs x hx
  rfl
variable (X:HH h g w bx sp en (as1++a::as2) (xs1++x::xs2) own) (l:as1.length=xs1.length)
include X l
theorem ytu:yU [.loc g.H,.int (as1.length:Nat)] h=some (.loc a.1,h)/\h[a.1]?=some (ycU x.ds w x.nth x.sl x.bf a.2.rn)/\h[g.H]?=some (ytm g.nu g.ma g.cr g.en) :=
 ⟨ydO (q:=qOf bx sp en _ as1.length a.1 x) (X.foc l).rest (by exact ykC),(X.foc l).rest.get 5 rfl,(X.foc l).rest.get 0 rfl⟩
theorem yAC:yci [.loc g.H,.int (as1.length:Nat)] h=some (.int (x.nth:Nat),h):=by
 obtain ⟨q1,q2,q3⟩:=ytu X l
 have k3:=(yda q2).2.2.1
 unfold yci
 rw [yp]
 show ob (yN _ [.val (.loc g.H),.val (.int (as1.length:Nat))] h) fnK=_
 simp_all? only [yei,yw (m:="hand_at") q3 (by rfl'),q1,k3]
theorem yAD:ych [.loc g.H,.int (as1.length:Nat)] h=some (.str (stX x),h):=by
 obtain ⟨q1,q2,q3⟩:=ytu X l
 have st:ybL [.loc a.1] h=some (.str (stX x),h):=yeL (X.foc l).rest
 unfold ych
 rw [yp]
 show ob (yN _ [.val (.loc g.H),.val (.int (as1.length:Nat))] h) fnK=_
 simp_all? only [yei,yw (m:="hand_at") q3 (by rfl'),q1,yw (m:="state") q2 (by rfl'),st]
theorem yAE:ycT [.loc g.H,.int (as1.length:Nat)] h=some (.lst (x.s.hs.map .int),h):=by
 obtain ⟨q1,q2,q3⟩:=ytu X l
 have k6:=(yda q2).2.2.2.2.2
 have R:=X.foc l
 have r1:=(ydK R.run).1
 unfold ycT
 rw [yp]
 show ob (yN _ [.val (.loc g.H),.val (.int (as1.length:Nat))] h) fnK=_
 simp_all? only [yei,yw (m:="hand_at") q3 (by rfl'),q1,k6,r1,yfy R.held]
theorem yEL {L:List PV}(hL:sortI (sK x.s.sn) (sA x.s.sn)=some L):ydN [.loc g.H,.int (as1.length:Nat)] h=some (.lst L,h):=by
 obtain ⟨q1,q2,q3⟩:=ytu X l
 have k6:=(yda q2).2.2.2.2.2
 have R:=X.foc l
 have r3:=(ydK R.run).2.2.1
 have sw:=yuJ R.lg.ob R.lg.sn hL
 unfold ydN
 rw [yp]
 show ob (yN _ [.val (.loc g.H),.val (.int (as1.length:Nat))] h) fnK=_
 simp_all? only [yei,yw (m:="hand_at") q3 (by rfl'),q1,k6,r3,yw (m:="saw") R.lg.ob (by rfl'),sw]
end
def yrn (c:Int):Int:=if c%3=1 then c/3%5 else if c%3=2 then 18446744073709551616-1-c/3%5 else c/3%18446744073709551616
theorem yhk (c:Int):0<=yrn c/\yrn c<B64:=by
 unfold yrn B64
 repeat' split
 all_goals omega
section
variable {h:AH}
theorem ygk (c:Int):ybE [.int c] h=some (.int (yrn c),h):=by
 unfold ybE
 rw [yp]
 show ob (yo _ _ [.val (.int c),.no] h) fnK=_
 symm
 unfold yrn
 split
 .rfl
 .split<;>rfl
theorem yga {ns:List Int}(k:Nat):yV [.scr ns,.int (k:Nat)] h=some (.int (ns.getD k 0),h):=by
 unfold yV
 rw [yp]
 show ob (yo _ _ [.val (.scr ns),.val (.int (k:Nat))] h) fnK=_
 by_cases e:k<ns.length
 .have e1:(((k:Nat):Int)<(ns.length:Nat))=True:=eq_true (by omega)
  have e3:atI ns (k:Nat)=some (ns.getD k 0):=ydS (by rw [List.getElem?_eq_getElem e,getD_eq_getElem?_getD,List.getElem?_eq_getElem e];rfl)
  have e2:ycC (.scr ns) (.int (k:Nat)) h=some (.int (ns.getD k 0),h):=by
   unfold ycC
   simp only [e3]
  simp_all? only [e1,e2,e3]
 .have e1:(((k:Nat):Int)<(ns.length:Nat))=False:=eq_false (by omega)
  rw [show ns.getD k 0=0 by rw [getD_eq_getElem?_getD,getElem?_eq_none (by omega)];rfl]
  simp_all? only [e1]
theorem yxg {n:Int}(hn:0<=n/\n<B64):n.natAbs.log2<1920:=by
 by_cases hz:n.natAbs=0
 .rw [hz];decide
 .rw [Nat.log2_lt hz]
  have e1:n.natAbs<2 ^ 64:=by
   have:(2:Nat) ^ 64=18446744073709551616:=by decide
   rw [this]
   unfold B64 at hn
   omega
  exact lt_of_lt_of_le e1 (Nat.pow_le_pow_right (by decide) (by decide))
theorem yAF {n:Int}(hn:0<=n/\n<B64):ynJ [.int n] h=some (.str (toString n:String),h):=by rw [yuj,if_pos (yxg hn)]
theorem yAG {n:Int}(hn:0<=n/\n<B64):(Str.ofString (toString n)).length<=20:=str_len hn.1 (by decide) (Int.lt_trans hn.2 yqr)
end
def Z8:List Int:=[0,0,0,0,0,0,0,0]
abbrev Fr (h h':AH):Prop:=∀ m,At h m->At h' m
section
variable {h:AH}{w:Int}
def Rdb (d:Str×List Rw):Prop:=∀ h:AH,∃ h',yba ydM (yb (yba yij (yb (yf 0) yi)) yi) [.val (.str d.1)] h=some (.lst (d.2.map ycE),h')/\Fr h h'
def txV (d:Str×List Rw):PV:=.str d.1
def ymb (d:Str×List Rw):PV:=.lst (d.2.map ycE)
theorem At.seen {m:List (Nat×Nd)}{d d':Nd}(A:At h m):At ((h++[d]).set h.length d') m:=⟨A.1,fun p hp=>by
 have:=A.lt hp
 rw [getElem?_set_ne (by omega),getElem?_append_left this];exact A.2 p hp⟩
theorem ymc {α:Type}{E:XE}{inn:PV->PSt}{f g:α->PV}:∀ (l:List α),(∀ h a,a∈l->∃ h',E (inn (f a)) h=some (g a,h')/\Fr h h')->∀ h,∃ h',ygn E inn (l.map f) h=some (l.map g,h')/\Fr h h'
 | [],_,h=>⟨h,rfl,fun _ A=>A⟩
 | a::l,hE,h=>by
  obtain ⟨h1,q1,F1⟩:=hE h a mem_cons_self
  obtain ⟨h2,q2,F2⟩:=ymc l (fun h b hb=>hE h b (mem_cons_of_mem _ hb)) h1
  refine ⟨h2,?_,fun m A=>F2 m (F1 m A)⟩
  show ob (E (inn (f a)) h) _=_
  rw [q1,yce,q2,yce]
  rfl
theorem ytv {ds:List (Str×List Rw)}(hd:∀ d∈ds,Rdb d) (hl:ds.length<=100):∃ h',ybg [.lst (ds.map txV)] h=some (.lst (ds.map ymb),h')/\Fr h h':=by
 obtain ⟨h',q1,q2⟩:=ymc (inn:=yeE [] [.val (.lst (ds.map txV))]) (f:=txV) (g:=ymb) ds (fun h a ha=>hd a ha h) h
 refine ⟨h',?_,q2⟩
 unfold ybg
 rw [yp]
 show ob (yN (xFz (yel (xIL (yf 0)) _ _)) [.val (.lst (ds.map txV))] h) fnK=_
 rw [ypC,yBn,yuk,ylT rfl,yce,if_pos (by rw [length_map];omega),q1]
 rfl
def hsV (hs:List (List (Str×List Rw))):List PV:=hs.map fun ds=>.lst (ds.map txV)
theorem ytw {hs:List (List (Str×List Rw))}(hd:∀ p∈hs,p.length<=6/\∀ d∈p,Rdb d) (h1:1<=hs.length) (h8:hs.length<=8):∃ h',ybM [.lst (hsV hs)] h=some (.lst (hs.map fun p=>.lst (p.map ymb)),h')/\Fr h h':=by
 obtain ⟨h',q3,q4⟩:=ymc (E:=yba ybg (yb (yf 0) (yi))) (inn:=yeE [] [.val (.lst (hsV hs))]) (f:=fun p:List (Str×List Rw)=>.lst (p.map txV)) (g:=fun p=>.lst (p.map ymb)) hs (fun h a ha=>by
  obtain ⟨h',q,F⟩:=ytv (h:=h) (hd a ha).2 (by have:=(hd a ha).1;omega)
  refine ⟨h',?_,F⟩
  show yba ybg (yb (yf 0) (yi)) [.val (.lst (a.map txV))] h=_
  simp_all? only [q]) h
 have q1:ygn (xOp (oGt) (xCB (ycD) (yb (yf 0) (yi))) (xC (.int 6))) (yeE [] [.val (.lst (hsV hs))]) (hsV hs) h=some (hs.map fun _=>.bl false,h):=yfU (f:=fun p:List (Str×List Rw)=>.lst (p.map txV)) (g:=fun _=>.bl false) fun a ha=>by
  have l2:((6:Int)<((a.map txV).length:Nat))=False:=eq_false (by have:=(hd _ ha).1;rw [length_map];omega)
  show xOp (oGt) (xCB (ycD) (yb (yf 0) (yi))) (xC (.int 6)) [.val (.lst (a.map txV))] h=_
  simp_all? only [l2]
 have an:∀ h,ysL [.lst (hs.map fun _=>PV.bl false)] h=some (.bl false,h):=fun h=>by
  unfold ysL ybs
  simp only [ylW (fun _:List (Str×List Rw)=>false)]
  rw [show (hs.map fun _=>false).any id=false by simp]
 refine ⟨h',?_,q4⟩
 have ll:(hsV hs).length=hs.length:=by unfold hsV;rw [length_map]
 have l1:((1:Int)<=((hsV hs).length:Nat))=True:=eq_true (by rw [ll];omega)
 have l2:((((hsV hs).length:Nat):Int)<=8)=True:=eq_true (by rw [ll];omega)
 have l3:((hsV hs).length<=100000)=True:=eq_true (by rw [ll];omega)
 have i0:∀ h,xIL (yf 0) [.val (.lst (hsV hs))] h=some (hsV hs,h):=fun _=>ylT rfl
 unfold ybM
 rw [yp]
 show ob (yo _ _ [.val (.lst (hsV hs))] h) fnK=_
 have q3:ygn (yba ybg (yb (yf 0) (yi))) (yeE [] [.val (.lst (hsV hs))]) (hsV hs) h=some (hs.map fun p=>.lst (p.map ymb),h'):=q3
 simp_all? only [l1,l2,l3,i0,q1,an,q3,↓reduceIte]
noncomputable def hv (k:Nat) (ds:List PV) (w:Int):Nd:=.ins 14 ((["deeds","width","nth","sleeps","before"]:List Str).take k) (([.lst ds,.int w,.int 0,.bl false,.lst (Z8.map .int)]:List PV).take k)
theorem yqU {ds rows:List PV}(hr:Due ds 0 rows):∃ h' c',ybe [.loc h.length,.lst ds,.int w] (h++[Nd.ins 14 [] []])=some (.non,h')/\∀ m,At h m->RR w rows ((h.length,ycU ds w 0 false Z8 c'.rn)::m) h' c' (S0 Z8):=by
 have N:∀ {k:AH}{d d':Nd},k[h.length]?=some d->(k.set h.length d')[h.length]?=some d':=fun e=>getElem?_set_self (List.getElem?_eq_some_iff.mp e).1
 have n0:(h++[Nd.ins 14 [] []])[h.length]?=some (hv 0 ds w):=by simp [hv]
 generalize hk0:h++[Nd.ins 14 [] []]=k0 at *
 have s1:∀ ρ,fL [14] "deeds" ρ (.lst ds) (.loc h.length) k0=some (.nx ρ,k0.set h.length (hv 1 ds w)):=fun ρ=>yfj n0 (by decide) (by kernel_rfl!)
 have n1:=N (d':=hv 1 ds w) n0
 have s2:∀ ρ,fL [12,14] "width" ρ (.int w) (.loc h.length) (k0.set h.length (hv 1 ds w))=some (.nx ρ,(k0.set h.length (hv 1 ds w)).set h.length (hv 2 ds w)):=fun ρ=>yfj n1 (by decide) (by kernel_rfl!)
 have n2:=N (d':=hv 2 ds w) n1
 rw [List.set_set] at s2 n2
 have s3:∀ ρ,fL [14] "nth" ρ (.int 0) (.loc h.length) (k0.set h.length (hv 2 ds w))=some (.nx ρ,(k0.set h.length (hv 2 ds w)).set h.length (hv 3 ds w)):=fun ρ=>yfj n2 (by decide) (by kernel_rfl!)
 have n3:=N (d':=hv 3 ds w) n2
 rw [List.set_set] at s3 n3
 have s4:∀ ρ,fL [14] "sleeps" ρ (.bl false) (.loc h.length) (k0.set h.length (hv 3 ds w))=some (.nx ρ,(k0.set h.length (hv 3 ds w)).set h.length (hv 4 ds w)):=fun ρ=>yfj n3 (by decide) (by kernel_rfl!)
 have n4:=N (d':=hv 4 ds w) n3
 rw [List.set_set] at s4 n4
 have s5:∀ ρ,fL [14] "before" ρ (.lst (Z8.map .int)) (.loc h.length) (k0.set h.length (hv 4 ds w))=some (.nx ρ,(k0.set h.length (hv 4 ds w)).set h.length (hv 5 ds w)):=fun ρ=>yfj n4 (by decide) (by kernel_rfl!)
 have n5:=N (d':=hv 5 ds w) n4
 rw [List.set_set] at s5 n5
 obtain ⟨h',c',q1,q2⟩:=yfZ (rows:=rows) (nth:=0) (bf:=Z8) (w:=w) (ds:=ds) (fl 0 n5 (by decide) (by rfl') rfl) (fl 1 n5 (by decide) (by rfl') rfl) (fl 2 n5 (by decide) (by rfl') rfl) (fl 4 n5 (by decide) (by rfl') rfl) hr
 have R:∀ m,At h m->RR w rows ((h.length,hv 5 ds w)::m) h' c' (S0 Z8):=fun m A=>q2 _ (by
  have A1:=At.new (Nd.ins 14 [] []) (a:=[]) A
  rw [hk0] at A1
  exact At.upd (a:=[]) (hv 5 ds w) A1)
 have e0:At h []:=⟨List.nodup_nil,fun p hp=>by simp at hp⟩
 have n6:h'[h.length]?=some (hv 5 ds w):=(R [] e0).rest.get 0 rfl
 have s6:∀ ρ,fL [14] "run" ρ (.loc c'.rn) (.loc h.length) h'=some (.nx ρ,h'.set h.length (ycU ds w 0 false Z8 c'.rn)):=fun ρ=>yfj n6 (by decide) (by kernel_rfl!)
 refine ⟨_,c',?_,fun m A=>RR.urest (a:=[]) _ (R m A)⟩
 have l0:∀ k,ybd [.lst ds] k=some (.lst ds,k):=fun _=>rfl
 unfold ybe
 rw [yp]
 show ob (yo _ _ [.val (.loc h.length),.val (.lst ds),.val (.int w)] k0) fnK=_
 simp_all? only [ytn,l0,s1,s2,s3,s4]
 rw [if_pos (by decide),show PV.lst (repL ((8:Nat):Int).toNat [PV.int 0])=.lst (Z8.map .int) from rfl]
 simp_all? only [ytn,s5,yei,yw (m:="new_run") n5 (by rfl'),q1,s6]
end
section
variable {h:AH}
theorem yAH {i:Int}(hi:0<=i/\i<B64):ycH [.int i] h=some (.bl true,h):=by
 have e1:ybt [.int i] h=some (.bl true,h):=by kernel_rfl!
 have e2:(0<=i)=True:=eq_true hi.1
 have e3:(i<18446744073709551616)=True:=eq_true hi.2
 unfold ycH
 rw [yp]
 show ob (yN _ [.val (.int i)] h) fnK=_
 simp_all? only [e1,e2,e3]
theorem yqV {ρ:PSt}:∀ bx:List Int,(∀ i∈bx,0<=i/\i<B64)->ygn (yba ycH (yb (yf 0) (yi))) (yeE [] ρ) (bx.map .int) h=some (replicate bx.length (.bl true),h)
 | [],_=>rfl
 | i::bx,hb=>by
  show ob (ycH [.int i] h) _=_
  rw [yAH (hb i mem_cons_self),yce]
  show ob (ygn _ _ (bx.map .int) h) _=_
  rw [yqV bx fun j hj=>hb j (mem_cons_of_mem _ hj),yce]
  rfl
theorem yqW:∀ n,ygM (replicate n (PV.bl true))=some (replicate n true)
 | 0=>rfl
 | n+1=>by
  rw [List.replicate_succ,List.replicate_succ]
  unfold ygM
  simp only [yqW n]
  try rfl
theorem ytx {bx:List Int}(h1:1<=bx.length) (h16:bx.length<=16) (hb:∀ i∈bx,0<=i/\i<B64):yde [.lst (bx.map .int)] h=some (.non,h):=by
 have e1:=yqV (h:=h) (ρ:=[.val (.lst (bx.map .int))]) bx hb
 have e2:yue [.lst (replicate bx.length (PV.bl true))] h=some (.bl true,h):=by
  unfold yue ybs
  simp only [yqW]
  rw [List.all_eq_true.mpr fun x hx=>by rw [List.eq_of_mem_replicate hx];rfl]
 have i1:xIL (yf 0) [.val (.lst (bx.map .int))] h=some (bx.map .int,h):=rfl
 have l1:(((bx.map PV.int).length:Nat):Int)=bx.length:=by rw [length_map]
 have l2:((1:Int)<=(bx.length:Nat))=True:=eq_true (by omega)
 have l3:(((bx.length:Nat):Int)<=16)=True:=eq_true (by omega)
 have l4:((bx.map PV.int).length<=100000)=True:=eq_true (by rw [length_map];omega)
 unfold yde
 rw [yp]
 show ob (yo _ _ [.val (.lst (bx.map .int))] h) fnK=_
 simp_all? only [l1,l2,l3,l4,i1,e1,e2]
end
noncomputable def av (k nu ma cr en:Nat):Nd:=.ins 15 ((["numbers","marks","crew","entries"]:List Str).take k) (([.loc nu,.loc ma,.loc cr,.loc en]:List PV).take k)
def hd0 (ds:List (Str×List Rw)):HD:=⟨ds.map ymb,0,false,Z8,match ds with|[]=>[]|d::_=>d.2.map ycE,S0 Z8⟩
theorem yEM:∀ ds:List (Str×List Rw),Due (hd0 ds).ds 0 (hd0 ds).rows
 | []=>.inr ⟨rfl,rfl⟩
 | d::r=>.inl ⟨by simp [hd0],rfl⟩
section
variable {h:AH}{w:Int}
theorem yEn (n:Nat):repL ((n:Nat):Int).toNat [PV.int 0]=(replicate n (0:Int)).map .int:=by
 show (replicate n [PV.int 0]).flatten=_
 rw [List.map_replicate]
 induction n with
 | zero=>rfl
 | succ n ih=>rw [List.replicate_succ,List.replicate_succ,List.flatten_cons,ih];rfl
theorem yqX {bx:List Int}{ρ:PSt}(hρ:∀ x,yeE [1] ρ x=[.val x,.val (.lst (bx.map .int))]):∀ (hs:List (List (Str×List Rw))) (h:AH),∃ h' as,ygn (ygW 14 ybe (yb (yf 0) (yb (xCB (ycD) (yb (yf 1) (yi))) (yi)))) (yeE [1] ρ) (hs.map fun ds=>.lst (ds.map ymb)) h=some ((as.map (·.1)).map .loc,h')/\LyOk as (hs.map hd0)/\∀ m,At h m->At h' (CR bx.length as (hs.map hd0) m)
 | [],h=>⟨h,[],rfl,trivial,fun _ A=>A⟩
 | ds::hs,h=>by
  obtain ⟨h1,c1,q1,q2⟩:=yqU (h:=h) (w:=bx.length) (yEM ds)
  obtain ⟨h',as,q3,q4,q5⟩:=yqX hρ hs h1
  have lw:(((bx.map PV.int).length:Nat):Int)=bx.length:=by rw [length_map]
  have e0:At h []:=⟨List.nodup_nil,fun p hp=>by simp at hp⟩
  refine ⟨h',(h.length,c1)::as,?_,⟨(q2 [] e0).len,q4⟩,fun m A=>?_⟩
  .show ob (ygW 14 ybe _ (yeE [1] ρ (.lst (ds.map ymb))) h) _=_
   rw [hρ,ypV]
   have q1:ybe [.loc h.length,.lst (ds.map ymb),.int bx.length] (h++[Nd.ins 14 [] []])=some (.non,h1):=q1
   simp_all? only [lw,q1,q3]
   rfl
  .have R:=q2 m A
   have A1:At h1 (HN bx.length (h.length,c1) (hd0 ds) m):=by
    have A2:=R.at_
    rw [yhi] at A2
    show At h1 ((h.length,ycU (ds.map ymb) bx.length 0 false Z8 c1.rn)::RM _ _ _ _ _)
    rw [yhi]
    exact A2.perm List.perm_middle.symm
   have A3:=q5 _ A1
   rw [ygj,ygi] at A3
   show At h' (HN bx.length (h.length,c1) (hd0 ds) (CR bx.length as (hs.map hd0) m))
   rw [ygi,ygj]
   exact A3.perm (List.perm_append_comm_assoc _ _ _)
theorem yqY {bx:List Int}{hs:List (List (Str×List Rw))}(h1:1<=bx.length) (h16:bx.length<=16) (hb:∀ i∈bx,0<=i/\i<B64) (hd:∀ p∈hs,p.length<=6/\∀ d∈p,Rdb d) (hh1:1<=hs.length) (hh8:hs.length<=8) :
  ∃ h' g as,yct [.loc h.length,.lst (bx.map .int),.lst (hsV hs)] (h++[Nd.ins 15 [] []])=some (.non,h')/\g.H=h.length/\∀ m,At h m->HH h' g bx.length bx (replicate bx.length 0) [] as (hs.map hd0) m:=by
 have e0:At h []:=⟨List.nodup_nil,fun p hp=>by simp at hp⟩
 have A0:∀ m,At h m->At (h++[Nd.ins 15 [] []]) ((h.length,.ins 15 [] [])::m):=fun m A=>At.new _ (a:=[]) A
 have c0:=ytx (h:=h++[Nd.ins 15 [] []]) h1 h16 hb
 generalize h++[Nd.ins 15 [] []]=k0 at *
 have A1:∀ m,At h m->At (k0++[Nd.lst (bx.map .int)]) ((h.length,.ins 15 [] [])::(k0.length,.lst (bx.map .int))::m):=fun m A=>At.new _ (a:=[_]) (A0 m A)
 have s1:∀ ρ,fL [15] "numbers" ρ (.loc k0.length) (.loc h.length) (k0++[Nd.lst (bx.map .int)])=some (.nx ρ,(k0++[Nd.lst (bx.map .int)]).set h.length (av 1 k0.length 0 0 0)):=fun ρ=>yfj ((A1 [] e0).get 0 rfl) (by decide) (by kernel_rfl!)
 have A2:=fun m A=>At.upd (a:=[]) (av 1 k0.length 0 0 0) (A1 m A)
 generalize hnu:k0.length=nu at *
 generalize (k0++[Nd.lst (bx.map .int)]).set h.length (av 1 nu 0 0 0)=k1 at *
 have A3:∀ m,At h m->At (k1++[Nd.lst ((replicate bx.length (0:Int)).map .int)]) ((h.length,av 1 nu 0 0 0)::(nu,.lst (bx.map .int))::(k1.length,.lst ((replicate bx.length (0:Int)).map .int))::m):=fun m A=>At.new _ (a:=[_,_]) (A2 m A)
 have s2:∀ ρ,fL [15] "marks" ρ (.loc k1.length) (.loc h.length) (k1++[Nd.lst ((replicate bx.length (0:Int)).map .int)])=some (.nx ρ,(k1++[Nd.lst ((replicate bx.length (0:Int)).map .int)]).set h.length (av 2 nu k1.length 0 0)):=fun ρ=>yfj ((A3 [] e0).get 0 rfl) (by decide) (by kernel_rfl!)
 have A4:=fun m A=>At.upd (a:=[]) (av 2 nu k1.length 0 0) (A3 m A)
 generalize hma:k1.length=ma at *
 generalize (k1++[Nd.lst ((replicate bx.length (0:Int)).map .int)]).set h.length (av 2 nu ma 0 0)=k2 at *
 have F2:Fr h k2:=fun m A=>(A4 m A).sub (((List.Sublist.refl m).cons _).cons _ |>.cons _)
 obtain ⟨k3,q1,q2⟩:=ytw (h:=k2) hd hh1 hh8
 obtain ⟨k4,as,q3,q4,q5⟩:=yqX (bx:=bx) (ρ:=[.val (.loc h.length),.val (.lst (bx.map .int)),.val (.lst (hsV hs))]) (fun _=>rfl) hs k3
 have R4:=fun m A=>q5 _ (q2 _ (A4 m A))
 have R4':∀ m,At h m->At k4 ((h.length,av 2 nu ma 0 0)::(nu,.lst (bx.map .int))::(ma,.lst ((replicate bx.length (0:Int)).map .int))::CR bx.length as (hs.map hd0) m):=fun m A=>by
  have:=R4 m A
  rw [ygj] at this
  rw [ygj]
  exact this.perm (show ([_,_,_]++(CR bx.length as (hs.map hd0) []++m)).Perm (CR bx.length as (hs.map hd0) []++([_,_,_]++m)) from List.perm_append_comm_assoc _ _ _)
 have R5:=fun m A=>At.new (Nd.lst ((as.map (·.1)).map .loc)) (a:=[_,_,_]) (R4' m A)
 have s3:∀ ρ,fL [15] "crew" ρ (.loc k4.length) (.loc h.length) (k4++[Nd.lst ((as.map (·.1)).map .loc)])=some (.nx ρ,(k4++[Nd.lst ((as.map (·.1)).map .loc)]).set h.length (av 3 nu ma k4.length 0)):=fun ρ=>yfj ((R5 [] e0).get 0 rfl) (by decide) (by kernel_rfl!)
 have R6:=fun m A=>At.upd (a:=[]) (av 3 nu ma k4.length 0) (R5 m A)
 generalize hcr:k4.length=cr at *
 generalize (k4++[Nd.lst ((as.map (·.1)).map .loc)]).set h.length (av 3 nu ma cr 0)=k6 at *
 have R7:=fun m A=>At.new (Nd.lst []) (a:=[_,_,_,_]) (R6 m A)
 have s4:∀ ρ,fL [15] "entries" ρ (.loc k6.length) (.loc h.length) (k6++[Nd.lst []])=some (.nx ρ,(k6++[Nd.lst []]).set h.length (av 4 nu ma cr k6.length)):=fun ρ=>yfj ((R7 [] e0).get 0 rfl) (by decide) (by kernel_rfl!)
 have R8:=fun m A=>At.upd (a:=[]) (av 4 nu ma cr k6.length) (R7 m A)
 refine ⟨_,⟨h.length,nu,ma,cr,k6.length⟩,as,?_,rfl,fun m A=>⟨R8 m A,q4⟩⟩
 have l0:∀ k,ybd [.lst (bx.map .int)] k=some (.lst (bx.map .int),k):=fun _=>rfl
 have lw:(((bx.map PV.int).length:Nat):Int)=bx.length:=by rw [length_map]
 unfold yct
 rw [yp]
 show ob (yo _ _ [.val (.loc h.length),.val (.lst (bx.map .int)),.val (.lst (hsV hs))] k0) fnK=_
 simp_all? only [ytn,c0,l0,hnu,s1,lw]
 rw [if_pos (by omega),yEn]
 have i1:xIL (yba ybM (yb (yf 2) (yi))) [.val (.loc h.length),.val (.lst (bx.map .int)),.val (.lst (hsV hs))] k2=some (hs.map fun p=>.lst (p.map ymb),k3):=by
  unfold xIL
  simp_all? only [q1]
 have l8:((hs.map fun p=>PV.lst (p.map ymb)).length<=100000)=True:=eq_true (by rw [length_map];omega)
 simp_all? only [ytn,hma,s2,i1,l8,q3,hcr,s3,s4]
end
structure LH where
 k:Nat
 X:Nat
 n:Int
 a:Nat
 st:Int
 v:Int
def kdS:Nat->Str
 | 0=>"none"
 | 1=>"sleeper"
 | _=>"layer"
noncomputable def yty:Nat->Nat->Int->List T
 | 0,_,_=>[]
 | 1,X,_=>[.let_ "a" X,.take "b" "a",.wait]
 | _,X,n=>[.let_ "a" X,.let_ "b" n,.put "a" "b"]
def ykV (l:LH):List (Str×List Rw):=match l.k with
 | 0=>[]
 | _=>[(yti (yty l.k l.X l.n),(yty l.k l.X l.n).map rwT++[Rw.lay])]
def ytz (l:LH):List Rw:=(yty l.k l.X l.n).map rwT++[Rw.lay]
def bxO (W:Nat) (l:LH):Nat:=match l.k with|0=>0|_=>l.X%W
def DK:List Key:=[.inr "deeds",.inr "kind",.inr "at",.inr "box",.inr "number",.inr "stamp"]
def dcV (W:Nat) (l:LH):List PV:=[.lst ((ykV l).map txV),.str (kdS l.k),.int (l.a:Nat),.int (bxO W l:Nat),.int l.n,.int l.st]
abbrev dcN (W:Nat) (l:LH):Nd:=.dct DK (dcV W l)
noncomputable def sOf (W:Nat) (l:LH):RS:=match l.k,l.a with
 | 0,_=>S0 Z8
 | _,0=>S0 Z8
 | 1,1=>⟨1,[(l.X:Int),0,0,0,0,0,0,0],[],[([],[])],[]⟩
 | 1,_=>⟨2,[(l.X:Int),l.v,0,0,0,0,0,0],[],[([],[])],[(l.X%W,l.v,l.st)]⟩
 | _,1=>⟨1,[(l.X:Int),0,0,0,0,0,0,0],[],[([],[])],[]⟩
 | _,2=>⟨2,[(l.X:Int),l.n,0,0,0,0,0,0],[],[([],[])],[]⟩
 | _,3=>⟨3,[(l.X:Int),l.n,0,0,0,0,0,0],[],[([.inl ((l.X:Int)%(W:Int))],[.int l.n])],[]⟩
 | _,_=>S0 [(l.X:Int),l.n,0,0,0,0,0,0]
def ybT (W:Nat) (l:LH):HD:=match l.k,l.a with
 | 0,_=>hd0 (ykV l)
 | 1,a=>⟨(ykV l).map ymb,0,decide (a=3),Z8,(ytz l).map ycE,sOf W l⟩
 | _,4=>⟨(ykV l).map ymb,1,false,[(l.X:Int),l.n,0,0,0,0,0,0],[],sOf W l⟩
 | _,_=>⟨(ykV l).map ymb,0,false,Z8,(ytz l).map ycE,sOf W l⟩
structure WF (sp:List Int) (l:LH):Prop where
 k2:l.k=0/\l.a=0/\l.n=0\/l.k=1/\l.a<=3/\l.n=0\/l.k=2/\l.a<=4
 x:l.X<16
 n:0<=l.n/\l.n<B64
 fr:l.k=1->l.a=3->l.st=sp.getD (l.X%sp.length) 0
noncomputable def yjt (bx sp:List Int) (l:LH):List PV:=match l.k,l.a with
 | 0,_=>[.str "idle"]
 | 1,0=>[.str "gone",.int 0]
 | 1,1=>[.str "seen",.int 1,.int (l.X%bx.length:Nat),.int (bx.getD (l.X%bx.length) 0)]
 | 1,2=>if l.st=sp.getD (l.X%bx.length) 0 then [.str "asleep",.int 2] else [.str "anew",.int 2]
 | 1,_=>[.str "idle"]
 | _,0=>[.str "gone",.int 0]
 | _,1=>[.str "gone",.int 1]
 | _,2=>[.str "gone",.int 2]
 | _,3=>[.str "done",.int 3]
 | _,_=>[.str "idle"]
noncomputable def yeQ (bx sp:List Int) (l:LH):LH:=match l.k,l.a with
 | 0,_=>l
 | 1,1=>{ l with a:=2,st:=sp.getD (l.X%bx.length) 0,v:=bx.getD (l.X%bx.length) 0 }
 | 1,2=>if l.st=sp.getD (l.X%bx.length) 0 then { l with a:=3 } else { l with a:=0 }
 | 1,3=>l
 | _,4=>l
 | _,a=>{ l with a:=a+1 }
def yhM (l:LH):Bool:=l.k == 2 && l.a == 3
def ygq (W b:Nat) (l:LH):LH:=if l.k=1/\l.a=3/\l.X%W=b then { l with a:=0 } else l
theorem yqZ {a b:Str}(e:a.cps.toList=b.cps.toList):a=b:=by
 cases a;cases b
 exact congrArg _ (Array.toList_inj.mp e)
theorem yAI (a b:Str):(a++b).cps.toList=a.cps.toList++b.cps.toList:=Array.toList_append
theorem yuL (s a b:Str) (r:List Str):Str.join s (a::b::r)=a++s++Str.join s (b::r):=rfl
theorem join_1 (s a:Str):Str.join s [a]=a:=rfl
theorem yDs (X:Nat) (n:Int):"let a "++Str.ofString (toString ((X:Nat):Int))++" ; "++"take b a ; wait" = yti (yty 1 X n):=by
 refine .trans ?_ (yiY _).symm
 refine yqZ ?_
 simp only [yty,wdL,wdT,wdR,List.cons_append,List.nil_append,append_nil,yuL,join_1,yAI,append_assoc]
 kernel_rfl!
theorem yDt (X:Nat) (n:Int):"let a "++Str.ofString (toString ((X:Nat):Int))++" ; "++"let b "++Str.ofString (toString n)++" ; put a b" = yti (yty 2 X n):=by
 refine .trans ?_ (yiY _).symm
 refine yqZ ?_
 simp only [yty,wdL,wdT,wdR,List.cons_append,List.nil_append,append_nil,yuL,join_1,yAI,append_assoc]
 kernel_rfl!
noncomputable def yro (c:Int):LH:=if c%4=0 then ⟨0,0,0,0,0,0⟩ else if c%4=1 then ⟨1,(c/4%16).toNat,0,0,0,0⟩ else ⟨2,(c/4%16).toNat,yrn c,0,0,0⟩
theorem yDu (sp:List Int) (c:Int):WF sp (yro c)/\(yro c).a=0:=by
 have h:=yna (c/4) (show (0:Int)<16 by decide)
 unfold yro
 split
 .exact ⟨⟨.inl ⟨rfl,rfl,rfl⟩,by decide,by decide,fun z=>by cases z⟩,rfl⟩
 split
 .exact ⟨⟨.inr (.inl ⟨rfl,zero_le _,rfl⟩),by dsimp only;omega,⟨Int.le_refl _,show (0:Int)<B64 by decide⟩,fun _ z=>by cases z⟩,rfl⟩
 .exact ⟨⟨.inr (.inr ⟨rfl,zero_le _⟩),by dsimp only;omega,yhk c,fun z=>by cases z⟩,rfl⟩
section
variable {h:AH}
theorem yDv {ks:List Str}{a:XA}{ρ:PSt}:ykp ks a ρ h=ob (a ρ h) fun xs h1=>if ks.Nodup/\xs.length=ks.length/\ks.length<=15 then some (.dct (ks.map .inr) xs,h1) else none:=id rfl
theorem ytA {W:Nat}(hW:1<=W) (c:Int):yef [.int c,.int (W:Nat)] h=some (.loc h.length,h++[dcN W (yro c)]):=by
 have hm:=yna (c/4) (show (0:Int)<16 by decide)
 obtain ⟨X,eX⟩:∃ X:Nat,c/4%16=(X:Nat):=⟨(c/4%16).toNat,by omega⟩
 have bX:(0:Int)<=(X:Nat)/\((X:Nat):Int)<B64:=by unfold B64;omega
 have s1:=yAF (h:=h) bX
 have s2:=yAF (h:=h) (yhk c)
 have g1:=eq_true (yxg bX)
 have g2:=eq_true (yxg (yhk c))
 have l1:=yAG bX
 have l2:=yAG (yhk c)
 have eM:((X:Nat):Int)%(W:Nat)=((X%W:Nat):Int):=rfl
 have ws:((W:Nat):Int)≠0:=by omega
 have nd:(["deeds","kind","at","box","number","stamp"]:List Str).Nodup:=by rfl'
 unfold yef
 rw [yp]
 show ob (yo _ _ [.val (.int c),.val (.int (W:Nat)),.no,.no,.no,.no] h) fnK=_
 unfold yro
 have e2:yrn c=yrn c:=rfl
 by_cases c0:c%4=0
 .rw [if_pos c0]
  simp_all? only [c0,yDv,↓reduceIte]
  rw [if_pos nd]
  rfl
 .rw [if_neg c0]
  by_cases c1:c%4=1
  .rw [if_pos c1,eX]
   simp_all? only [eX,c0,c1,s1,g1,yDv,eM]
   repeat first|rw [if_neg (by omega)]|rw [if_pos (by first|omega|(simp_all? only [yfX];omega)|exact nd)]
   rw [yDs X 0]
   rfl
  .rw [if_neg c1,eX]
   simp_all? only [eX,c0,c1,s1,g1,ygk,s2,g2,yDv,eM]
   repeat first|rw [if_neg (by omega)]|rw [if_pos (by first|omega|(simp_all? only [yfX];omega)|exact nd)]
   rw [yDt X (yrn c)]
   rfl
end
theorem yxG:(("sleeper":Str) = "none")=False:=eq_false (by rfl')
theorem yBs:(("layer":Str) = "none")=False:=eq_false (by rfl')
theorem yEN:(("none":Str) = "layer")=False:=eq_false (by rfl')
theorem yxH:(("sleeper":Str) = "layer")=False:=eq_false (by rfl')
theorem yEO:(("none":Str) = "sleeper")=False:=eq_false (by rfl')
theorem yDw:(("layer":Str) = "sleeper")=False:=eq_false (by rfl')
section
variable {h:AH}{ρ:PSt}
def dgK (d k:PV) (h:AH):Option (PV×AH):=match ysw d h,keyOf k with|some (ks,xs),some j=>(match ykg ks xs j with|some x=>some (x,h)|none=>none)|_,_=>none
theorem ygr {ed ek:XE}:ybn ed ek ρ h=ob (ed ρ h) fun d h1=>ob (ek ρ h1) fun k h2=>dgK d k h2:=id rfl
def dpK (ρ:PSt) (v d k:PV) (h:AH):Option (Out×AH):=match d,keyOf k with
 | .loc n,some j=>(match h[n]? with|some (.dct ks xs)=>if ks.length<1000 then some (.nx ρ,h.set n (.dct (ydc ks xs j v).1 (ydc ks xs j v).2)) else none|_=>none)
 | _,_=>none
theorem yAJ {ed ek ev:XE}:yfx ed ek ev ρ h=ob (ev ρ h) fun v h1=>ob (ed ρ h1) fun d h2=>ob (ek ρ h2) fun k h3=>dpK ρ v d k h3:=id rfl
variable {n W:Nat}{l:LH}
structure Dg (h:AH) (n W:Nat) (l:LH):Prop where
 ds:dgK (.loc n) (.str "deeds") h=some (.lst ((ykV l).map txV),h)
 kd:dgK (.loc n) (.str "kind") h=some (.str (kdS l.k),h)
 at_:dgK (.loc n) (.str "at") h=some (.int (l.a:Nat),h)
 bx:dgK (.loc n) (.str "box") h=some (.int (bxO W l:Nat),h)
 nu:dgK (.loc n) (.str "number") h=some (.int l.n,h)
 st:dgK (.loc n) (.str "stamp") h=some (.int l.st,h)
theorem yhl (e:h[n]?=some (dcN W l)):Dg h n W l:=by
 refine ⟨?_,?_,?_,?_,?_,?_⟩<;>unfold dgK ysw<;>simp only [e,keyOf]<;>kernel_rfl!
theorem yra (e:h[n]?=some (dcN W l)) (v:Nat):dpK ρ (.int (v:Nat)) (.loc n) (.str "at") h=some (.nx ρ,h.set n (dcN W { l with a:=v })):=by
 unfold dpK
 simp only [e,keyOf]
 kernel_rfl!
theorem yDx (e:h[n]?=some (dcN W l)) (v:Int):dpK ρ (.int v) (.loc n) (.str "stamp") h=some (.nx ρ,h.set n (dcN W { l with st:=v })):=by
 unfold dpK
 simp only [e,keyOf]
 kernel_rfl!
variable {nB nS d:Nat}{bx sp:List Int}
theorem yAK (e1:h[d]?=some (dcN bx.length l)) (e2:h[nB]?=some (.lst (bx.map .int))) (e3:h[nS]?=some (.lst (sp.map .int))) (wf:WF sp l) (hs:sp.length=bx.length) (h1:1<=bx.length):yeK [.loc d,.loc nB,.loc nS] h=some (.tup (yjt bx sp l),h):=by
 obtain ⟨q1,q2,q3,q4,q5,q6⟩:=yhl e1
 have hb:l.X%bx.length<bx.length:=Nat.mod_lt _ (by omega)
 have i2:=ydp e2 hb
 have i3:=ydp e3 (show l.X%bx.length<sp.length by omega)
 unfold yeK
 rw [yp]
 show ob (yo _ _ [.val (.loc d),.val (.loc nB),.val (.loc nS)] h) fnK=_
 have k2:=wf.k2
 obtain ⟨k,X,m,a,st,v⟩:=l
 dsimp only at k2 hb i2 i3 q2 q3 q4 q5 q6
 rcases k2 with ⟨rfl,rfl,rfl⟩|⟨rfl,ha,rfl⟩|⟨rfl,ha⟩
 .simp_all? only [ygr,q2,kdS]
  rfl
 .rcases (show a=0\/a=1\/a=2\/a=3 by omega) with rfl|rfl|rfl|rfl
  .simp_all? only [ygr,q2,q3,kdS,yxG,yxH,↓reduceIte]
   rfl
  .simp_all? only [ygr,q2,q3,q4,kdS,yxG,yxH,bxO,i2,↓reduceIte]
   rfl
  .simp_all? only [ygr,q2,q3,q4,q6,kdS,yxG,yxH,bxO,i3,↓reduceIte]
   rw [if_neg (by decide),if_neg (by decide),if_pos (by rfl)]
   show _=some (PV.tup (if st=sp.getD (X%bx.length) 0 then [.str "asleep",.int 2] else [.str "anew",.int 2]),h)
   by_cases z:st=sp.getD (X%bx.length) 0
   .rw [if_neg (fun q=>q z),if_pos z]
    rfl
   .rw [if_pos z,if_neg z]
  .simp_all? only [ygr,q2,q3,kdS,yxG,yxH,↓reduceIte]
   rfl
 .by_cases z:a=4
  .subst z
   simp_all? only [ygr,q2,q3,kdS,yBs,↓reduceIte]
   rfl
  .have zg:((3:Int)<((a:Nat):Int))=False:=eq_false (by omega)
   have hat:atI [PV.tup [.str "gone",.int 0],.tup [.str "gone",.int 1],.tup [.str "gone",.int 2],.tup [.str "done",.int 3]] ((a:Nat):Int)=some (.tup (yjt bx sp ⟨2,X,m,a,st,v⟩)):=by
    rcases (show a=0\/a=1\/a=2\/a=3 by omega) with rfl|rfl|rfl|rfl<;>rfl
   simp_all? only [ygr,q2,q3,kdS,yBs,zg,hat,↓reduceIte]
end
noncomputable def EnO (e:PV):Prop:=∃ (i n:Int) (p:Nat×Int) (bf:List Int),e=.tup [.int i,.int n,.tup [.str "done"],.lst [],.lst [ydg p],.lst (bf.map .int)]
def LO (bx sp:List Int) (nB nS:Nat) (ids:List Nat) (ls:List LH):List (Nat×Nd):=(nB,.lst (bx.map .int))::(nS,.lst (sp.map .int))::List.zipWith (fun i l=>(i,dcN bx.length l)) ids ls
structure LS (h:AH) (g:HC) (bx sp:List Int) (en:List PV) (as:List (Nat×Lc)) (ls:List LH) (ids:List Nat) (nB nS:Nat):Prop where
 X:HH h g bx.length bx sp en as (ls.map (ybT bx.length)) (LO bx sp nB nS ids ls)
 hs:sp.length=bx.length
 h1:1<=bx.length
 h16:bx.length<=16
 li:ids.length=ls.length
 wf:∀ l∈ls,WF sp l
 l8:ls.length<=8
 ev:∀ e∈en,EnO e
 el:en.length<=900
def stS (l:LH):Str:=match l.k,l.a with
 | 0,_=>"ended"
 | 1,3=>"asleep"
 | 1,_=>"awake"
 | _,4=>"ended"
 | _,_=>"awake"
def whS (l:LH):Nat:=match l.k,l.a with
 | 2,4=>1
 | _,_=>0
theorem yAL {W:Nat}{sp:List Int}{l:LH}(w:WF sp l):stX (ybT W l)=stS l/\(ybT W l).nth=whS l:=by
 have k2:=w.k2
 obtain ⟨k,X,m,a,st,v⟩:=l
 dsimp only at k2
 rcases k2 with ⟨rfl,rfl,rfl⟩|⟨rfl,ha,rfl⟩|⟨rfl,ha⟩
 .exact ⟨rfl,rfl⟩
 .rcases (show a=0\/a=1\/a=2\/a=3 by omega) with rfl|rfl|rfl|rfl
  all_goals exact ⟨rfl,rfl⟩
 .rcases (show a=0\/a=1\/a=2\/a=3\/a=4 by omega) with rfl|rfl|rfl|rfl|rfl
  all_goals exact ⟨rfl,rfl⟩
section
variable {h:AH}{g:HC}{bx sp:List Int}{en:List PV}{as:List (Nat×Lc)}{ls:List LH}{ids:List Nat}{nB nS:Nat}
theorem LS.la (S:LS h g bx sp en as ls ids nB nS):as.length=ls.length:=by rw [S.X.ly.len,length_map]
theorem LS.b (S:LS h g bx sp en as ls ids nB nS):h[nB]?=some (.lst (bx.map .int)):=S.X.get 0 rfl
theorem LS.s (S:LS h g bx sp en as ls ids nB nS):h[nS]?=some (.lst (sp.map .int)):=S.X.get 1 rfl
theorem LS.d (S:LS h g bx sp en as ls ids nB nS) {i:Nat}{l:LH}{n:Nat}(el:ls[i]?=some l) (en:ids[i]?=some n):h[n]?=some (dcN bx.length l):=S.X.get (i+2) (by
 unfold LO
 show (List.zipWith (fun i l=>(i,dcN bx.length l)) ids ls)[i]?=_
 rw [List.getElem?_zipWith,el,en])
theorem LS.id (S:LS h g bx sp en as ls ids nB nS) {i:Nat}{l:LH}(el:ls[i]?=some l):∃ n,ids[i]?=some n:=⟨ids[i]'(by have:=(List.getElem?_eq_some_iff.mp el).1;have:=S.li;omega),List.getElem?_eq_getElem _⟩
theorem LS.foc (S:LS h g bx sp en as ls ids nB nS) {i:Nat}{l:LH}(el:ls[i]?=some l):∃ as1 a as2 ls1 ls2,as=as1++a::as2/\ls=ls1++l::ls2/\as1.length=i/\ls1.length=i/\HH h g bx.length bx sp en (as1++a::as2) (ls1.map (ybT bx.length)++ybT bx.length l::ls2.map (ybT bx.length)) (LO bx sp nB nS ids ls):=by
 obtain ⟨hi,rfl⟩:=List.getElem?_eq_some_iff.mp el
 have ha:i<as.length:=by rw [S.la];exact hi
 have e1:as=as.take i++as[i]::as.drop (i+1):=by rw [List.getElem_cons_drop,List.take_append_drop]
 have e2:ls=ls.take i++ls[i]::ls.drop (i+1):=by rw [List.getElem_cons_drop,List.take_append_drop]
 refine ⟨as.take i,as[i],as.drop (i+1),ls.take i,ls.drop (i+1),e1,e2,by rw [length_take];omega,by rw [length_take];omega,?_⟩
 have X:=S.X
 rw [<- e1,<- map_cons,<- map_append,<- e2]
 exact X
theorem LS.ask (S:LS h g bx sp en as ls ids nB nS) {i:Nat}{l:LH}(el:ls[i]?=some l):ych [.loc g.H,.int (i:Nat)] h=some (.str (stS l),h)/\yci [.loc g.H,.int (i:Nat)] h=some (.int (whS l:Nat),h):=by
 obtain ⟨as1,a,as2,ls1,ls2,e1,e2,l1,l2,X⟩:=S.foc el
 have w:=S.wf l (mem_of_getElem? el)
 have hl:as1.length=(ls1.map (ybT bx.length)).length:=by rw [length_map];omega
 have q1:=yAD X hl
 have q2:=yAC X hl
 rw [l1] at q1 q2
 obtain ⟨s1,s2⟩:=yAL (W:=bx.length) w
 rw [s1] at q1
 rw [s2] at q2
 exact ⟨q1,q2⟩
end
section
variable {h:AH}{g:HC}{bx sp:List Int}{en:List PV}{as:List (Nat×Lc)}{ls:List LH}{ids:List Nat}{nB nS:Nat}
theorem yAM {i n:Nat}{h:AH}(e:ids[i]?=some n):ycC (.lst (ids.map .loc)) (.int (i:Nat)) h=some (.loc n,h):=by
 rw [yzj,ydS (show (ids.map PV.loc)[i]?=some (.loc n) by rw [getElem?_map,e];rfl)]
 rfl
theorem yAN {i n:Nat}(e:ids[i]?=some n):atI (ids.map PV.loc) (i:Nat)=some (.loc n):=ydS (show (ids.map PV.loc)[i]?=some (.loc n) by rw [getElem?_map,e];rfl)
theorem yuM {n i:Nat}{x:PV}(e:(yhG 0 n)[i]?=some x):i<n/\x=.int (i:Nat):=by
 unfold yhG at e
 rw [getElem?_map] at e
 by_cases hi:i<n
 .rw [List.getElem?_range hi] at e
  cases e
  exact ⟨hi,by show PV.int (0+(i:Int))=_;rw [Int.zero_add]⟩
 .rw [getElem?_eq_none (by simpa using hi)] at e
  cases e
theorem yEo:(("awake":Str) = "ended")=False:=eq_false (by rfl')
theorem yAO (S:LS h g bx sp en as ls ids nB nS) {i:Nat}{l:LH}{d:PVar}(el:ls[i]?=some l):∃ d',ssB [.val (.loc g.H),.val (.lst (ids.map .loc)),.val (.int (i:Nat)),d] h=some (.nx [.val (.loc g.H),.val (.lst (ids.map .loc)),.val (.int (i:Nat)),d'],h):=by
 obtain ⟨n,en⟩:=S.id el
 obtain ⟨q1,q2,q3,q4,q5,q6⟩:=yhl (S.d el en)
 have ix:=yAM (h:=h) en
 have ai:=yAN en
 obtain ⟨a1,a2⟩:=S.ask el
 have hH:=S.X.at_.get 0 rfl
 have k2:=(S.wf l (mem_of_getElem? el)).k2
 obtain ⟨k,X,m,a,st,v⟩:=l
 refine ⟨.val (.str (stS ⟨k,X,m,a,st,v⟩)),?_⟩
 unfold ssB
 dsimp only at k2 q2 q3
 rcases k2 with ⟨rfl,rfl,rfl⟩|⟨rfl,ha,rfl⟩|⟨rfl,ha⟩
 .simp_all? only [ygr,ix,ai,q2,q3,kdS,yei,yw (m:="state") hH (by rfl'),yw (m:="which") hH (by rfl'),a1,a2,stS,whS,yEN]
  rfl
 .by_cases z:a=3
  .subst z
   simp_all? only [ygr,ix,ai,q2,q3,kdS,yei,yw (m:="state") hH (by rfl'),yw (m:="which") hH (by rfl'),a1,a2,stS,whS,yxG,yxH]
   rfl
  .have z3:(((a:Nat):Int)=3)=False:=eq_false (by omega)
   have z4:(((a:Nat):Int)=4)=False:=eq_false (by omega)
   have s1:stS ⟨1,X,0,a,st,v⟩ = "awake"/\whS ⟨1,X,0,a,st,v⟩=0:=by
    rcases (show a=0\/a=1\/a=2 by omega) with rfl|rfl|rfl<;>exact ⟨rfl,rfl⟩
   simp_all? only [ygr,ix,ai,q2,q3,kdS,yei,yw (m:="state") hH (by rfl'),yw (m:="which") hH (by rfl'),a1,a2,s1.1,s1.2,yxG,yxH,z3,z4]
   rfl
 .by_cases z:a=4
  .subst z
   simp_all? only [ygr,ix,ai,q2,q3,kdS,yei,yw (m:="state") hH (by rfl'),yw (m:="which") hH (by rfl'),a1,a2,stS,whS,yBs,yDw,yEo]
   rfl
  .have z4:(((a:Nat):Int)=4)=False:=eq_false (by omega)
   have s1:stS ⟨2,X,m,a,st,v⟩ = "awake"/\whS ⟨2,X,m,a,st,v⟩=0:=by
    rcases (show a=0\/a=1\/a=2\/a=3 by omega) with rfl|rfl|rfl|rfl<;>exact ⟨rfl,rfl⟩
   simp_all? only [ygr,ix,ai,q2,q3,kdS,yei,yw (m:="state") hH (by rfl'),yw (m:="which") hH (by rfl'),a1,a2,s1.1,s1.2,yBs,yDw,yEo,z4]
   rfl
theorem ykE (S:LS h g bx sp en as ls ids nB nS):ycx [.loc g.H,.lst (ids.map .loc)] h=some (.bl true,h):=by
 unfold ycx
 rw [yp]
 show ob (yo (ynE (ynF (yb (xCB ycD (yb (yf 1) yi)) yi)) (yy 2) ssB) _ [.val (.loc g.H),.val (.lst (ids.map .loc)),.no,.no] h) fnK=_
 have ir:ynF (yb (xCB ycD (yb (yf 1) yi)) yi) [.val (.loc g.H),.val (.lst (ids.map .loc)),.no,.no] h=some (yhG 0 ls.length,h):=by
  refine (ymH (j:=(ls.length:Int)) (h1:=h) ?_ (by omega) (by have:=S.l8;omega))
  show some ([PV.int ((ids.map PV.loc).length:Nat)],h)=_
  rw [length_map,S.li]
 symm
 rw [ir,yce]
 refine ygR (fun i ρ h1=>h1=h/\∃ u v,ρ=[.val (.loc g.H),.val (.lst (ids.map .loc)),u,v]) ⟨rfl,.no,.no,rfl⟩ ?_ ?_
 .intro i x ρ h1 hx ⟨e1,u,v,e2⟩
  subst e1;subst e2
  obtain ⟨hi,rfl⟩:=yuM hx
  obtain ⟨d',q⟩:=yAO (d:=v) S (List.getElem?_eq_getElem hi)
  exact ⟨_,_,_,rfl,.inl q,rfl,_,_,rfl⟩
 .intro ρ h1 ⟨e1,u,v,e2⟩
  subst e1;subst e2
  rfl
end
def swL (W:Nat) (l:LH):List PV:=match l.k,l.a with
 | 1,2=>[ydg (l.X%W,l.v)]
 | 1,3=>[ydg (l.X%W,l.v)]
 | _,_=>[]
theorem yEP {W:Nat}{sp:List Int}{l:LH}(w:WF sp l):(ybT W l).s=sOf W l/\sortI (sK (sOf W l).sn) (sA (sOf W l).sn)=some (swL W l):=by
 have k2:=w.k2
 obtain ⟨k,X,m,a,st,v⟩:=l
 dsimp only at k2
 rcases k2 with ⟨rfl,rfl,rfl⟩|⟨rfl,ha,rfl⟩|⟨rfl,ha⟩
 .exact ⟨rfl,rfl⟩
 .rcases (show a=0\/a=1\/a=2\/a=3 by omega) with rfl|rfl|rfl|rfl
  all_goals exact ⟨rfl,rfl⟩
 .rcases (show a=0\/a=1\/a=2\/a=3\/a=4 by omega) with rfl|rfl|rfl|rfl|rfl
  all_goals exact ⟨rfl,rfl⟩
def lkV (W:Nat) (l:LH):PV:=.lst [.str (stS l),.int (whS l:Nat),.lst ((sOf W l).hs.map .int),.lst (swL W l)]
def yjg (bx sp:List Int) (en:List PV) (ls:List LH):List PV:=[.lst (bx.map .int),.lst (sp.map .int),.lst en,.int (ls.length:Nat)]++ls.map (lkV bx.length)
section
variable {h:AH}{g:HC}{bx sp:List Int}{en:List PV}{as:List (Nat×Lc)}{ls:List LH}{ids:List Nat}{nB nS:Nat}
theorem LS.tell (S:LS h g bx sp en as ls ids nB nS) {i:Nat}{l:LH}(el:ls[i]?=some l):ycT [.loc g.H,.int (i:Nat)] h=some (.lst ((sOf bx.length l).hs.map .int),h)/\ydN [.loc g.H,.int (i:Nat)] h=some (.lst (swL bx.length l),h):=by
 obtain ⟨as1,a,as2,ls1,ls2,e1,e2,l1,l2,X⟩:=S.foc el
 have w:=S.wf l (mem_of_getElem? el)
 have hl:as1.length=(ls1.map (ybT bx.length)).length:=by rw [length_map];omega
 obtain ⟨s1,s2⟩:=yEP (W:=bx.length) w
 have q1:=yAE X hl
 have q2:=yEL X hl (by rw [s1];exact s2)
 rw [l1] at q1 q2
 rw [s1] at q1
 exact ⟨q1,q2⟩
theorem EnO.shp {e:PV}(x:EnO e):Shp e:=by
 obtain ⟨i,n,p,bf,rfl⟩:=x
 exact ⟨_,_,_,_,_,_,rfl⟩
theorem yjh {α:Type}{f:PV->PV->Option Bool}{k:α->PV}:∀ {l:List α},(∀ a∈l,f (k a) (k a)=some true)->yfO f (l.map k) (l.map k)=some true
 | [],_=>rfl
 | a::l,q=>ybm (q a mem_cons_self) (yjh fun b hb=>q b (mem_cons_of_mem _ hb))
theorem yrb {n:Nat}(p:Nat×Int):eqP (n+2) h (ydg p) (ydg p)=some true:=yma (ybm yhj (ybm yhj rfl))
theorem EnO.eq {n:Nat}{e:PV}(x:EnO e):eqP (n+4) h e e=some true:=by
 obtain ⟨i,m,p,bf,rfl⟩:=x
 exact yma (ybm yhj (ybm yhj (ybm (yma (ybm yqQ rfl)) (ybm (yeg rfl) (ybm (yeg (ybm (yrb p) rfl)) (ybm (yeg (yeM bf)) rfl))))))
theorem sw_eq {n W:Nat}(l:LH):yfO (eqP (n+2) h) (swL W l) (swL W l)=some true:=by
 unfold swL
 split
 .exact ybm (yrb _) rfl
 .exact ybm (yrb _) rfl
 .rfl
theorem look_same (hE:∀ e∈en,EnO e):ysF (.lst (yjg bx sp en ls)) (.lst (yjg bx sp en ls)) h=some (.bl false,h):=by
 have e0:yfO (eqP 40 h) (yjg bx sp en ls) (yjg bx sp en ls)=some true:=by
  unfold yjg
  refine ybm (yeg (yeM bx)) (ybm (yeg (yeM sp)) (ybm (yeg ?_) (ybm yhj (yjh fun l _=>?_))))
  .have:=yjh (f:=eqP 39 h) (k:=fun e:PV=>e) (l:=en) fun e he=>(hE e he).eq
   rwa [List.map_id''] at this
   exact fun _=>rfl
  .exact yeg (ybm yqQ (ybm yhj (ybm (yeg (yeM _)) (ybm (yeg (sw_eq l)) rfl))))
 unfold ysF pairE ybs
 simp only [e0,if_true]
 rfl
end
section
variable {h:AH}{g:HC}{bx sp:List Int}{en:List PV}{as:List (Nat×Lc)}{ls:List LH}{ids:List Nat}{nB nS:Nat}
theorem yAP (S:LS h g bx sp en as ls ids nB nS) {i:Nat}{l:LH}{N:PVar}{acc:List PV}(el:ls[i]?=some l) (hl:acc.length<=100):lkB [.val (.loc g.H),N,.own (.lst acc),.val (.int (i:Nat))] h=some (.nx [.val (.loc g.H),N,.own (.lst (acc++[lkV bx.length l])),.val (.int (i:Nat))],h):=by
 obtain ⟨a1,a2⟩:=S.ask el
 obtain ⟨a3,a4⟩:=S.tell el
 have hH:=S.X.at_.get 0 rfl
 unfold lkB
 rw [yun (xs:=acc) rfl]
 simp_all? only [yei,yw (m:="state") hH (by rfl'),yw (m:="which") hH (by rfl'),yw (m:="slots") hH (by rfl'),yw (m:="saw") hH (by rfl'),a1,a2,a3,a4]
 rw [if_pos (by omega)]
 rfl
theorem yji (S:LS h g bx sp en as ls ids nB nS):ycf [.loc g.H,.int (ls.length:Nat)] h=some (.lst (yjg bx sp en ls),h):=by
 have hH:=S.X.at_.get 0 rfl
 have q1:=yuK S.X
 have q2:=yqT S.X
 have q3:=ytt S.X (fun e he=>(S.ev e he).shp) (by have:=S.el;omega)
 have q4:=yDr S.X
 rw [S.la] at q4
 unfold ycf
 rw [yp]
 show ob (yo _ (yo (ynE _ _ lkB) _) [.val (.loc g.H),.val (.int (ls.length:Nat)),.no,.no] h) fnK=_
 have ir:∀ ρ,ynF (yb (yf 1) yi) (.val (.loc g.H)::.val (.int (ls.length:Nat))::ρ) h=some (yhG 0 ls.length,h):=fun ρ=>ymH (j:=(ls.length:Int)) (h1:=h) rfl (by omega) (by have:=S.l8;omega)
 simp_all? only [yei,yw (m:="boxes") hH (by rfl'),yw (m:="stamps") hH (by rfl'),yw (m:="journal") hH (by rfl'),yw (m:="hands") hH (by rfl'),q1,q2,q3,q4,ir]
 refine ygR (fun i ρ h1=>h1=h/\∃ u,ρ=[.val (.loc g.H),.val (.int (ls.length:Nat)),.own (.lst ([.lst (bx.map .int),.lst (sp.map .int),.lst en,.int (ls.length:Nat)]++(ls.take i).map (lkV bx.length))),u]) ⟨rfl,.no,rfl⟩ ?_ ?_
 .intro i x ρ h1 hx ⟨e1,u,e2⟩
  subst e1;subst e2
  obtain ⟨hi,rfl⟩:=yuM hx
  have el:=List.getElem?_eq_getElem hi
  refine ⟨_,_,_,rfl,.inl (yAP S el (by rw [length_append,length_map,length_take];have:=S.l8;simp only [length_cons,length_nil];omega)),rfl,.val (.int (i:Nat)),?_⟩
  have e3:(ls.take (i+1)).map (lkV bx.length)=(ls.take i).map (lkV bx.length)++[lkV bx.length ls[i]]:=by
   rw [List.take_add_one,el,map_append]
   rfl
  rw [e3,append_assoc]
 .intro ρ h1 ⟨e1,u,e2⟩
  subst e1;subst e2
  unfold yhG
  rw [length_map,List.length_range,List.take_length]
  rfl
end
theorem aSL:("a":Str)∈SL:=by rfl'
theorem bSL:("b":Str)∈SL:=by rfl'
theorem nf0 {W:Nat}{t:Nat}{hs:List Int}{sd:List PV}{dd:List (List Key×List PV)}:NF W ⟨t,hs,sd,dd,[]⟩:=⟨List.nodup_nil,fun p hp=>(by cases hp),(by show 0<=900;omega)⟩
theorem nf1 {W k:Nat}{t:Nat}{hs:List Int}{sd:List PV}{dd:List (List Key×List PV)}{a b:Int}(hk:k<W):NF W ⟨t,hs,sd,dd,[(k,a,b)]⟩:=⟨by simp,fun p hp=>by rw [List.mem_singleton.mp hp];exact hk,(by show 1<=900;omega)⟩
theorem ok1 {t:Nat}{a b:Int}{dd:List Key×List PV}{sn:List (Nat×Int×Int)}(hd:dd.1.length<400):OkS ⟨t,[a,b,0,0,0,0,0,0],[],[dd],sn⟩:=⟨rfl,rfl,trivial,fun d h=>by rw [List.mem_singleton.mp h];exact hd,rfl⟩
theorem yDy {W:Nat}{sp:List Int}{l:LH}(w:WF sp l) (h1:1<=W):yAA W (ybT W l):=by
 have k2:=w.k2
 obtain ⟨k,X,m,a,st,v⟩:=l
 have hb:X%W<W:=Nat.mod_lt _ (by omega)
 dsimp only at k2
 rcases k2 with ⟨rfl,rfl,rfl⟩|⟨rfl,ha,rfl⟩|⟨rfl,ha⟩
 .exact ⟨.inr ⟨rfl,rfl⟩,nf0⟩
 .rcases (show a=0\/a=1\/a=2\/a=3 by omega) with rfl|rfl|rfl|rfl
  .exact ⟨.inl ⟨Nat.one_pos,rfl⟩,nf0⟩
  .exact ⟨.inl ⟨Nat.one_pos,rfl⟩,nf0⟩
  .exact ⟨.inl ⟨Nat.one_pos,rfl⟩,nf1 hb⟩
  .exact ⟨.inl ⟨Nat.one_pos,rfl⟩,nf1 hb⟩
 .rcases (show a=0\/a=1\/a=2\/a=3\/a=4 by omega) with rfl|rfl|rfl|rfl|rfl
  .exact ⟨.inl ⟨Nat.one_pos,rfl⟩,nf0⟩
  .exact ⟨.inl ⟨Nat.one_pos,rfl⟩,nf0⟩
  .exact ⟨.inl ⟨Nat.one_pos,rfl⟩,nf0⟩
  .exact ⟨.inl ⟨Nat.one_pos,rfl⟩,nf0⟩
  .exact ⟨.inr ⟨rfl,rfl⟩,nf0⟩
theorem ynj {xs:List Int}{b c:Nat}{v:Int}(hb:b<xs.length):(xs.set b v).getD c 0=if c=b then v else xs.getD c 0:=by
 rw [getD_eq_getElem?_getD,getD_eq_getElem?_getD,List.getElem?_set]
 by_cases e:b=c
 .subst e;simp [hb]
 .rw [if_neg e,if_neg fun z=>e z.symm]
theorem yDz {W b:Nat}{sp:List Int}{l:LH}(w:WF sp l) (hb:b<sp.length) (hW:W=sp.length):yeP (sp.set b (sp.getD b 0+1)) (ybT W l)=ybT W (ygq W b l):=by
 subst hW
 have k2:=w.k2
 have fr:=w.fr
 obtain ⟨k,X,m,a,st,v⟩:=l
 dsimp only at k2 fr
 rcases k2 with ⟨rfl,rfl,rfl⟩|⟨rfl,ha,rfl⟩|⟨rfl,ha⟩
 .rfl
 .rcases (show a=0\/a=1\/a=2\/a=3 by omega) with rfl|rfl|rfl|rfl
  .rfl
  .rfl
  .rfl
  .have fr:=fr rfl rfl
   have e1:stB [(X%sp.length,v,st)] (sp.set b (sp.getD b 0+1))=decide (X%sp.length=b):=by
    show (!decide ((sp.set b (sp.getD b 0+1)).getD (X%sp.length) 0=st) || false)=_
    rw [ynj hb,fr,Bool.or_false]
    by_cases z:X%sp.length=b
    .rw [if_pos z,z,decide_eq_true rfl,decide_eq_false (by omega)]
     rfl
    .rw [if_neg z,decide_eq_false z,decide_eq_true rfl]
     rfl
   unfold yeP ygq
   by_cases z:X%sp.length=b
   .rw [if_pos (show (asB (ybT sp.length ⟨1,X,0,3,st,v⟩) && stB (ybT sp.length ⟨1,X,0,3,st,v⟩).s.sn (sp.set b (sp.getD b 0+1)))=true from (by
     show (true && stB [(X%sp.length,v,st)] (sp.set b (sp.getD b 0+1)))=true
     rw [e1,z,decide_eq_true rfl];rfl)),if_pos ⟨rfl,rfl,z⟩]
    rfl
   .rw [if_neg (show ¬ (asB (ybT sp.length ⟨1,X,0,3,st,v⟩) && stB (ybT sp.length ⟨1,X,0,3,st,v⟩).s.sn (sp.set b (sp.getD b 0+1)))=true from (by
     show ¬ (true && stB [(X%sp.length,v,st)] (sp.set b (sp.getD b 0+1)))=true
     rw [e1,decide_eq_false z];decide)),if_neg fun q=>z q.2.2]
 .rcases (show a=0\/a=1\/a=2\/a=3\/a=4 by omega) with rfl|rfl|rfl|rfl|rfl
  all_goals rfl
def nxB (bx:List Int) (l:LH):List Int:=if yhM l=true then bx.set (l.X%bx.length) l.n else bx
def nxS (sp:List Int) (l:LH):List Int:=if yhM l=true then sp.set (l.X%sp.length) (sp.getD (l.X%sp.length) 0+1) else sp
def nxL (bx sp:List Int) (i:Nat) (l:LH) (ls:List LH):List LH:=if yhM l=true then (ls.set i (yeQ bx sp l)).map (ygq bx.length (l.X%bx.length)) else ls.set i (yeQ bx sp l)
theorem yhm {α:Type}{a b:List α}{x y:α}{i:Nat}(hi:a.length=i):(a++x::b).set i y=a++y::b:=by
 subst hi
 simp
section
variable {h:AH}{g:HC}{bx sp:List Int}{en:List PV}{as as1 as2:List (Nat×Lc)}{ls ls1 ls2:List LH}{ids:List Nat}{nB nS i:Nat}{l l':LH}{a:Nat×Lc}{own:List (Nat×Nd)}
structure Tn (h:AH) (g:HC) (bx sp:List Int) (en:List PV) (ls1 ls2:List LH) (l':LH) (own:List (Nat×Nd)) (i:Nat) (u:List PV):Prop where
 of:∃ h' as',yv [.loc g.H,.int (i:Nat)] h=some (.tup u,h')/\HH h' g bx.length bx sp en as' (ls1.map (ybT bx.length)++ybT bx.length l'::ls2.map (ybT bx.length)) own
variable (X:HH h g bx.length bx sp en (as1++a::as2) (ls1.map (ybT bx.length)++ybT bx.length l::ls2.map (ybT bx.length)) own) (hl:as1.length=(ls1.map (ybT bx.length)).length) (hi:as1.length=i) (h1:1<=bx.length) (hs:sp.length=bx.length)
include X hl hi
theorem ymd (w:WF sp l) (e:(stS l = "awake")=False):Tn h g bx sp en ls1 ls2 l own i [.str "idle"]:=by
 subst hi
 exact ⟨h,_,yDo X hl (by rw [(yAL w).1];exact e),X⟩
include h1
theorem yjj {r:Rw}(el:ybT bx.length l'={ ybT bx.length l with s:=(ybT bx.length l').s }) (hr:(ybT bx.length l).rows=(ytz l).map ycE) (hn:(ybT bx.length l).nth<(ybT bx.length l).ds.length) (hsl:(ybT bx.length l).sl=false) (er:(ytz l)[(ybT bx.length l).s.t]?=some r) (ok:OkS (ybT bx.length l).s) (okr:okR r) (hlk:yjc bx.length (ybT bx.length l).s r=false) (e:yto bx.length r (ybT bx.length l).s=some (ybT bx.length l').s) :
  Tn h g bx sp en ls1 ls2 l' own i [.str "gone",.int (ybT bx.length l).s.t]:=by
 subst hi
 obtain ⟨h',c',q1,q2⟩:=yDm X hl h1 hr hn hsl er ok okr hlk e
 exact ⟨h',_,q1,by rw [el];exact q2⟩
end
section
variable {h:AH}{g:HC}{bx sp:List Int}{en:List PV}{as1 as2:List (Nat×Lc)}{ls1 ls2:List LH}{i:Nat}{a:Nat×Lc}{own:List (Nat×Nd)}{X:Nat}{n st v:Int}
theorem yxh (H:HH h g bx.length bx sp en (as1++a::as2) (ls1.map (ybT bx.length)++ybT bx.length ⟨1,X,0,1,st,v⟩::ls2.map (ybT bx.length)) own) (hl:as1.length=(ls1.map (ybT bx.length)).length) (hi:as1.length=i) (h1:1<=bx.length) (hs:sp.length=bx.length) :
  Tn h g bx sp en ls1 ls2 (yeQ bx sp ⟨1,X,0,1,st,v⟩) own i (yjt bx sp ⟨1,X,0,1,st,v⟩):=by
 subst hi
 have hb:X%bx.length<bx.length:=Nat.mod_lt _ (by omega)
 obtain ⟨h',q1,q2⟩:=yDn (rws:=ytz ⟨1,X,0,1,st,v⟩) (p:="b") (q:="a") (k:=X%bx.length) H hl hs h1 rfl Nat.one_pos rfl nf0 rfl rfl (ok1 (by decide)) ⟨bSL,aSL⟩ (by kernel_rfl!) (by kernel_rfl!) hb
 refine ⟨h',as1++a::as2,q1,?_⟩
 have e:ybT bx.length (yeQ bx sp ⟨1,X,0,1,st,v⟩)={ ybT bx.length ⟨1,X,0,1,st,v⟩ with s:=⟨2,([(X:Int),0,0,0,0,0,0,0]:List Int).set (sx "b") (bx.getD (X%bx.length) 0),[],[([],[])],yej [] (X%bx.length) (bx.getD (X%bx.length) 0) (sp.getD (X%bx.length) 0)⟩ }:=by kernel_rfl!
 rw [e]
 exact q2
theorem yxi (H:HH h g bx.length bx sp en (as1++a::as2) (ls1.map (ybT bx.length)++ybT bx.length ⟨1,X,0,2,st,v⟩::ls2.map (ybT bx.length)) own) (hl:as1.length=(ls1.map (ybT bx.length)).length) (hi:as1.length=i) (h1:1<=bx.length) (hs:sp.length=bx.length) :
  Tn h g bx sp en ls1 ls2 (yeQ bx sp ⟨1,X,0,2,st,v⟩) own i (yjt bx sp ⟨1,X,0,2,st,v⟩):=by
 subst hi
 have hb:X%bx.length<bx.length:=Nat.mod_lt _ (by omega)
 have e1:stB [(X%bx.length,v,st)] sp = !decide (sp.getD (X%bx.length) 0=st):=by
  show (!decide (sp.getD (X%bx.length) 0=st) || false)=_
  rw [Bool.or_false]
 by_cases z:st=sp.getD (X%bx.length) 0
 .rw [show yeQ bx sp ⟨1,X,0,2,st,v⟩=⟨1,X,0,3,st,v⟩ from if_pos z,show yjt bx sp ⟨1,X,0,2,st,v⟩=[.str "asleep",.int 2] from if_pos z]
  rw [<- z,decide_eq_true rfl] at e1
  obtain ⟨h',q1,q2⟩:=yAB (rws:=ytz ⟨1,X,0,2,st,v⟩) H hl hs h1 rfl Nat.one_pos rfl (nf1 hb) e1 rfl (ok1 (by decide)) rfl
  exact ⟨h',_,q1,q2⟩
 .rw [show yeQ bx sp ⟨1,X,0,2,st,v⟩=⟨1,X,0,0,st,v⟩ from if_neg z,show yjt bx sp ⟨1,X,0,2,st,v⟩=[.str "anew",.int 2] from if_neg z]
  rw [decide_eq_false fun q=>z q.symm] at e1
  obtain ⟨h',c',q1,q2⟩:=yDp (rws:=ytz ⟨1,X,0,2,st,v⟩) (r:=.wait) (rows':=(ytz ⟨1,X,0,2,st,v⟩).map ycE) H hl hs h1 rfl Nat.one_pos rfl (nf1 hb) e1 rfl (ok1 (by decide)) trivial rfl (.inl ⟨Nat.one_pos,rfl⟩)
  exact ⟨h',_,q1,q2⟩
end
theorem yEp:(("ended":Str) = "awake")=False:=eq_false (by rfl')
theorem yEQ:(("asleep":Str) = "awake")=False:=eq_false (by rfl')
section
variable {h:AH}{g:HC}{bx sp:List Int}{en:List PV}{as as1 as2:List (Nat×Lc)}{ls ls1 ls2:List LH}{ids:List Nat}{nB nS i:Nat}{l:LH}{a:Nat×Lc}{own:List (Nat×Nd)}{X:Nat}{n st v:Int}
theorem yxj (H:HH h g bx.length bx sp en (as1++a::as2) (ls1.map (ybT bx.length)++ybT bx.length ⟨2,X,n,3,st,v⟩::ls2.map (ybT bx.length)) own) (hl:as1.length=(ls1.map (ybT bx.length)).length) (hi:as1.length=i) (h1:1<=bx.length) (hs:sp.length=bx.length) (hen:en.length<=900) (w:∀ y∈ls1++ls2,WF sp y) :
  ∃ h' as' e,yv [.loc g.H,.int (i:Nat)] h=some (.tup [.str "done",.int 3],h')/\EnO e/\HH h' g bx.length (bx.set (X%bx.length) n) (sp.set (X%sp.length) (sp.getD (X%sp.length) 0+1)) (en++[e]) as' (((ls1++⟨2,X,n,4,st,v⟩::ls2).map (ygq bx.length (X%bx.length))).map (ybT bx.length)) own:=by
 subst hi
 have hb:X%bx.length<bx.length:=Nat.mod_lt _ (by omega)
 have hbs:X%sp.length<sp.length:=Nat.mod_lt _ (by omega)
 have eX:((X:Nat):Int)%(bx.length:Nat)=((X%bx.length:Nat):Int):=rfl
 obtain ⟨h',as',q1,q2,_⟩:=yDq (rws:=ytz ⟨2,X,n,3,st,v⟩) (rows':=[]) (L:=[]) (ls:=[(X%bx.length,n)]) (d:=([.inl ((X:Int)%(bx.length:Int))],[.int n])) H hl hs h1 rfl Nat.one_pos rfl nf0 rfl rfl (ok1 (by show 1<400;decide)) rfl (by rw [eX];rfl) (fun p hp=>by rw [List.mem_singleton.mp hp];exact hb) rfl (.inr ⟨rfl,rfl⟩) (by omega) (fun y hy=>by
  rw [<- map_append] at hy
  obtain ⟨z,hz,rfl⟩:=List.mem_map.mp hy
  exact yDy (w z hz) h1)
 refine ⟨h',as',_,q1,⟨((as1.length:Nat):Int),((0:Nat):Int),(X%bx.length,n),[(X:Int),n,0,0,0,0,0,0],rfl⟩,?_⟩
 have e1:yxF bx [(X%bx.length,n)]=bx.set (X%bx.length) n:=rfl
 have e2:yqL sp [(X%bx.length,n)]=sp.set (X%sp.length) (sp.getD (X%sp.length) 0+1):=by rw [hs];rfl
 rw [e1,e2] at q2
 have e3:(ls1.map (ybT bx.length)++{ ybT bx.length ⟨2,X,n,3,st,v⟩ with nth:=(ybT bx.length ⟨2,X,n,3,st,v⟩).nth+1,bf:=(ybT bx.length ⟨2,X,n,3,st,v⟩).s.hs,rows:=[],s:=S0 (ybT bx.length ⟨2,X,n,3,st,v⟩).s.hs }::ls2.map (ybT bx.length)).map (yeP (sp.set (X%sp.length) (sp.getD (X%sp.length) 0+1)))=((ls1++⟨2,X,n,4,st,v⟩::ls2).map (ygq bx.length (X%bx.length))).map (ybT bx.length):=by
  have e4:∀ l∈ls1++ls2,yeP (sp.set (X%sp.length) (sp.getD (X%sp.length) 0+1)) (ybT bx.length l)=ybT bx.length (ygq bx.length (X%bx.length) l):=fun l hl=>by
   have:=yDz (w l hl) hbs hs.symm
   rw [this,hs]
  rw [map_append,map_cons,map_map,map_map,map_map,map_append,map_cons]
  congr 1
  .exact List.map_congr_left fun l hl=>e4 l (mem_append_left _ hl)
  .congr 1
   exact List.map_congr_left fun l hl=>e4 l (mem_append_right _ hl)
 rw [e3] at q2
 exact q2
theorem ytB (S:LS h g bx sp en as ls ids nB nS) (el:ls[i]?=some l):∃ h' as' en',yv [.loc g.H,.int (i:Nat)] h=some (.tup (yjt bx sp l),h')/\HH h' g bx.length (nxB bx l) (nxS sp l) en' as' ((nxL bx sp i l ls).map (ybT bx.length)) (LO bx sp nB nS ids ls)/\(∀ e∈en',EnO e)/\en'.length<=en.length+1/\(yhM l=false->en'=en):=by
 obtain ⟨as1,a,as2,ls1,ls2,e1,e2,l1,l2,X⟩:=S.foc el
 have w:=S.wf l (mem_of_getElem? el)
 have hl:as1.length=(ls1.map (ybT bx.length)).length:=by rw [length_map];omega
 have fin:yhM l=false->Tn h g bx sp en ls1 ls2 (yeQ bx sp l) (LO bx sp nB nS ids ls) i (yjt bx sp l)->_:=fun hd ⟨h',as',q1,q2⟩=>(⟨h',as',en,q1,by
  unfold nxB nxS nxL
  rw [hd,if_neg (by decide),if_neg (by decide),if_neg (by decide),e2,yhm l2,map_append,map_cons,<- e2]
  exact q2,S.ev,by omega,fun _=>rfl⟩:∃ h' as' en',yv [PV.loc g.H,PV.int (i:Nat)] h=some (PV.tup (yjt bx sp l),h')/\HH h' g bx.length (nxB bx l) (nxS sp l) en' as' ((nxL bx sp i l ls).map (ybT bx.length)) (LO bx sp nB nS ids ls)/\(∀ e∈en',EnO e)/\en'.length<=en.length+1/\(yhM l=false->en'=en))
 have k2:=w.k2
 have ww:∀ y∈ls1++ls2,WF sp y:=fun y hy=>S.wf y (by
  rw [e2]
  rcases List.mem_append.mp hy with z|z
  .exact mem_append_left _ z
  .exact mem_append_right _ (mem_cons_of_mem _ z))
 have xb:(0:Int)<=(l.X:Nat)/\((l.X:Nat):Int)<B64:=by have:=w.x;unfold B64;omega
 have nb:=w.n
 obtain ⟨k,x,m,c,st,v⟩:=l
 dsimp only at k2 xb nb
 rcases k2 with ⟨rfl,rfl,rfl⟩|⟨rfl,ha,rfl⟩|⟨rfl,ha⟩
 .exact fin rfl (ymd X hl l1 w yEp)
 .rcases (show c=0\/c=1\/c=2\/c=3 by omega) with rfl|rfl|rfl|rfl
  .exact fin rfl (yjj X hl l1 S.h1 (r:=.let_ "a" (x:Nat)) rfl rfl Nat.one_pos rfl rfl (ok1 (a:=0) (b:=0) (by decide)) ⟨aSL,xb⟩ rfl (by kernel_rfl!))
  .exact fin rfl (yxh X hl l1 S.h1 S.hs)
  .exact fin rfl (yxi X hl l1 S.h1 S.hs)
  .exact fin rfl (ymd X hl l1 w yEQ)
 .rcases (show c=0\/c=1\/c=2\/c=3\/c=4 by omega) with rfl|rfl|rfl|rfl|rfl
  .exact fin rfl (yjj X hl l1 S.h1 (r:=.let_ "a" (x:Nat)) rfl rfl Nat.one_pos rfl rfl (ok1 (a:=0) (b:=0) (by decide)) ⟨aSL,xb⟩ rfl (by kernel_rfl!))
  .exact fin rfl (yjj X hl l1 S.h1 (r:=.let_ "b" m) rfl rfl Nat.one_pos rfl rfl (ok1 (by decide)) ⟨bSL,nb⟩ rfl (by kernel_rfl!))
  .exact fin rfl (yjj X hl l1 S.h1 (r:=.put "a" "b") rfl rfl Nat.one_pos rfl rfl (ok1 (by decide)) ⟨aSL,bSL⟩ rfl (by kernel_rfl!))
  .obtain ⟨h',as',e,q1,q2,q3⟩:=yxj X hl l1 S.h1 S.hs S.el ww
   refine ⟨h',as',en++[e],q1,?_,?_,by simp,fun z=>by cases z⟩
   .show HH h' g bx.length (bx.set (x%bx.length) m) (sp.set (x%sp.length) (sp.getD (x%sp.length) 0+1)) (en++[e]) as' (((ls.set i ⟨2,x,m,4,st,v⟩).map (ygq bx.length (x%bx.length))).map (ybT bx.length)) _
    have e3:ls.set i ⟨2,x,m,4,st,v⟩=ls1++⟨2,x,m,4,st,v⟩::ls2:=by rw [e2,yhm l2]
    rw [e3]
    exact q3
   .intro y hy
    rcases List.mem_append.mp hy with z|z
    .exact S.ev y z
    .rw [List.mem_singleton.mp z];exact q2
  .exact fin rfl (ymd X hl l1 w yEp)
end
section
variable {h:AH}{g:HC}{w:Int}{bx sp bx' sp':List Int}{en:List PV}{as:List (Nat×Lc)}{xs:List HD}{ls:List LH}{ids:List Nat}{nB nS i d:Nat}{l l':LH}
theorem ynk {α:Type}{xs:List α}{i:Nat}{x:α}(e:xs[i]?=some x):∃ a b,xs=a++x::b/\a.length=i:=by
 obtain ⟨hi,rfl⟩:=List.getElem?_eq_some_iff.mp e
 exact ⟨xs.take i,xs.drop (i+1),by rw [List.getElem_cons_drop,List.take_append_drop],by rw [length_take];omega⟩
theorem yjk {α:Type}{xs:List α}{i:Nat}{x:α}(e:xs[i]?=some x):xs.set i x=xs:=by
 obtain ⟨hi,rfl⟩:=List.getElem?_eq_some_iff.mp e
 exact List.set_getElem_self hi
theorem HH.put (X:HH h g w bx' sp' en as xs (LO bx sp nB nS ids ls)) (el:ls[i]?=some l) (ed:ids[i]?=some d) (l':LH):HH (h.set d (dcN bx.length l')) g w bx' sp' en as xs (LO bx sp nB nS ids (ls.set i l')):=by
 obtain ⟨a1,a2,rfl,h1⟩:=ynk el
 obtain ⟨b1,b2,rfl,h2⟩:=ynk ed
 unfold LO at X ⊢
 rw [yhm h1]
 rw [List.zipWith_append (by omega),List.zipWith_cons_cons] at X ⊢
 exact HH.upd (o1:=(nB,.lst (bx.map .int))::(nS,.lst (sp.map .int))::List.zipWith (fun i l=>(i,dcN bx.length l)) b1 a1) (dcN bx.length l') X
theorem HH.dict (X:HH h g w bx' sp' en as xs (LO bx sp nB nS ids ls)) (el:ls[i]?=some l) (ed:ids[i]?=some d):h[d]?=some (dcN bx.length l):=X.get (i+2) (by
 unfold LO
 show (List.zipWith (fun i l=>(i,dcN bx.length l)) ids ls)[i]?=_
 rw [List.getElem?_zipWith,el,ed])
theorem yAQ {j n:Nat}{m:LH}{v0 v2 v3 v4:PVar}(X:HH h g w bx' sp' en as xs (LO bx sp nB nS ids ls)) (el:ls[i]?=some l) (ed:ids[i]?=some d) (k2:l.k=2) (em:ls[j]?=some m) (ej:ids[j]?=some n) (wf:∃ sp,WF sp m) :
  ∃ h',gnB [v0,.val (.loc d),v2,v3,v4,.val (.loc n)] h=some (.nx [v0,.val (.loc d),v2,v3,v4,.val (.loc n)],h')/\HH h' g w bx' sp' en as xs (LO bx sp nB nS ids (ls.set j (ygq bx.length (l.X%bx.length) m))):=by
 obtain ⟨q1,q2,q3,q4,q5,q6⟩:=yhl (X.dict em ej)
 have b1:=(yhl (X.dict el ed)).bx
 have eb:bxO bx.length l=l.X%bx.length:=by unfold bxO;simp only [k2]
 rw [eb] at b1
 have stay:ygq bx.length (l.X%bx.length) m=m->HH h g w bx' sp' en as xs (LO bx sp nB nS ids (ls.set j (ygq bx.length (l.X%bx.length) m))):=fun e=>by
  rw [e,yjk em]
  exact X
 obtain ⟨spm,wm⟩:=wf
 have k2:=wm.k2
 obtain ⟨k,x,n',a,st,v⟩:=m
 dsimp only at k2 q2 q3 q4
 unfold gnB
 rcases k2 with ⟨rfl,rfl,rfl⟩|⟨rfl,ha,rfl⟩|⟨rfl,ha⟩
 .refine ⟨h,?_,stay rfl⟩
  simp_all? only [ygr,q2,kdS,yEO]
 .by_cases a3:a=3
  .subst a3
   by_cases z:x%bx.length=l.X%bx.length
   .refine ⟨h.set n (dcN bx.length ⟨1,x,0,0,st,v⟩),?_,?_⟩
    .have d1:=fun ρ=>yra (ρ:=ρ) (X.dict em ej) 0
     have z':(((x%bx.length:Nat):Int)=((l.X%bx.length:Nat):Int))=True:=eq_true (by omega)
     simp_all? only [ygr,yAJ,q2,q3,q4,kdS,bxO,b1,z',d1]
     exact d1 _
    .have e:ygq bx.length (l.X%bx.length) ⟨1,x,0,3,st,v⟩=⟨1,x,0,0,st,v⟩:=if_pos ⟨rfl,rfl,z⟩
     rw [e]
     exact X.put em ej _
   .refine ⟨h,?_,stay (if_neg fun q=>z q.2.2)⟩
    have z':(((x%bx.length:Nat):Int)=((l.X%bx.length:Nat):Int))=False:=eq_false (by omega)
    simp_all? only [ygr,q2,q3,q4,kdS,bxO,b1,z']
    rfl
  .refine ⟨h,?_,stay (if_neg fun q=>a3 q.2.1)⟩
   have z':(((a:Nat):Int)=3)=False:=eq_false (by omega)
   simp_all? only [ygr,q2,q3,kdS,z']
 .refine ⟨h,?_,stay rfl⟩
  simp_all? only [ygr,q2,kdS,yDw]
end
section
variable {h:AH}{g:HC}{w:Int}{bx sp bx' sp':List Int}{en:List PV}{as:List (Nat×Lc)}{xs:List HD}{ls:List LH}{ids:List Nat}{nB nS i d:Nat}{l l':LH}
theorem yDA {W b:Nat}(k2:l.k=2):ygq W b l=l:=if_neg fun q=>by rw [k2] at q;exact absurd q.1 (by decide)
theorem yrc {v0 v2 v3 v4:PVar}(k2:l.k=2):∀ (i2:List Nat) (m2:List LH) (i1:List Nat) (m1:List LH) (h:AH) (u:PVar),HH h g w bx' sp' en as xs (LO bx sp nB nS (i1++i2) (m1++m2))->i1.length=m1.length->i2.length=m2.length->(m1++m2)[i]?=some l->(i1++i2)[i]?=some d->(∀ m∈m2,∃ sp,WF sp m) ->
  ∃ h' u',yhB (yy 5) gnB (i2.map .loc) [v0,.val (.loc d),v2,v3,v4,u] h=some (.nx [v0,.val (.loc d),v2,v3,v4,u'],h')/\HH h' g w bx' sp' en as xs (LO bx sp nB nS (i1++i2) (m1++m2.map (ygq bx.length (l.X%bx.length))))
 | [],[],i1,m1,h,u,X,_,_,_,_,_=>⟨h,u,rfl,X⟩
 | n::i2,m::m2,i1,m1,h,u,X,e1,e2,el,ed,wf=>by
  have em:(m1++m::m2)[m1.length]?=some m:=by simp
  have ej:(i1++n::i2)[m1.length]?=some n:=by rw [<- e1];simp
  obtain ⟨h1,q1,X1⟩:=yAQ (v0:=v0) (v2:=v2) (v3:=v3) (v4:=v4) X el ed k2 em ej (wf m mem_cons_self)
  rw [yhm rfl] at X1
  have el':(m1++ygq bx.length (l.X%bx.length) m::m2)[i]?=some l:=by
   by_cases z:m1.length=i
   .subst z
    rw [em] at el
    cases el
    rw [yDA k2]
    exact em
   .rw [<- yhm (x:=m) (y:=ygq bx.length (l.X%bx.length) m) (b:=m2) (a:=m1) rfl,getElem?_set_ne z]
    exact el
  have a1:i1++n::i2=(i1++[n])++i2:=by simp
  have a2:m1++ygq bx.length (l.X%bx.length) m::m2=(m1++[ygq bx.length (l.X%bx.length) m])++m2:=by simp
  rw [a1,a2] at X1
  rw [a1] at ed
  rw [a2] at el'
  obtain ⟨h2,u2,q2,X2⟩:=yrc k2 i2 m2 _ _ h1 (.val (.loc n)) X1 (by simp [e1]) (by simpa using e2) el' ed fun m hm=>wf m (mem_cons_of_mem _ hm)
  refine ⟨h2,u2,?_,?_⟩
  .rw [map_cons,yxe (ρ1:=[v0,.val (.loc d),v2,v3,v4,.val (.loc n)]) rfl q1]
   exact q2
  .rw [a1,map_cons,show m1++ygq bx.length (l.X%bx.length) m::m2.map (ygq bx.length (l.X%bx.length))=(m1++[ygq bx.length (l.X%bx.length) m])++m2.map (ygq bx.length (l.X%bx.length)) by simp]
   exact X2
theorem yme {l:LH}(e:yhM l=false):LO (nxB bx l) (nxS sp l) nB nS ids (nxL bx sp i l ls)=LO bx sp nB nS ids (ls.set i (yeQ bx sp l)):=by
 unfold nxB nxS nxL
 rw [e,if_neg (by decide),if_neg (by decide),if_neg (by decide)]
theorem yER:(("idle":Str) = "anew")=False:=eq_false (by rfl')
theorem yBt:(("gone":Str) = "anew")=False:=eq_false (by rfl')
theorem yES:(("seen":Str) = "anew")=False:=eq_false (by rfl')
theorem yET:(("asleep":Str) = "anew")=False:=eq_false (by rfl')
theorem yEU:(("done":Str) = "anew")=False:=eq_false (by rfl')
theorem yuN:(("gone":Str) = "idle")=False:=eq_false (by rfl')
theorem yEq:(("seen":Str) = "idle")=False:=eq_false (by rfl')
theorem yEr:(("asleep":Str) = "idle")=False:=eq_false (by rfl')
theorem yEs:(("done":Str) = "idle")=False:=eq_false (by rfl')
theorem yEV:(("idle":Str) = "seen")=False:=eq_false (by rfl')
theorem yBu:(("gone":Str) = "seen")=False:=eq_false (by rfl')
theorem yEW:(("asleep":Str) = "seen")=False:=eq_false (by rfl')
theorem yEX:(("done":Str) = "seen")=False:=eq_false (by rfl')
theorem yEY:(("anew":Str) = "seen")=False:=eq_false (by rfl')
theorem yEZ:(("idle":Str) = "done")=False:=eq_false (by rfl')
theorem yBv:(("gone":Str) = "done")=False:=eq_false (by rfl')
theorem yFa:(("asleep":Str) = "done")=False:=eq_false (by rfl')
theorem yFb:(("seen":Str) = "done")=False:=eq_false (by rfl')
theorem yFc:(("anew":Str) = "done")=False:=eq_false (by rfl')
theorem yxk {z:Str}{xs:List PV}{h:AH}:yck (.tup (.str z::xs)) (.int 0) h=some (.str z,h):=by rw [show yck (.tup (.str z::xs)) (.int 0) h=(match atI (.str z::xs) 0 with|some v=>some (v,h)|none=>none) from rfl,yCV]
variable {xs':List PV}{A B N:Nat}
theorem yrd:yS [.lst (ids.map .loc),.loc d,.tup (.str "idle"::xs'),.loc nB,.loc nS] h=some (.non,h):=by
 unfold yS
 rw [yp]
 show ob (yo _ _ [.val (.lst (ids.map .loc)),.val (.loc d),.val (.tup (.str "idle"::xs')),.val (.loc nB),.val (.loc nS),.no] h) fnK=_
 simp_all? only [yxk,yER,yEV,yEZ]
theorem ykF {W:Nat}{z:Str}(e:h[d]?=some (dcN W l)) (n1:(z = "anew")=False) (n2:(z = "idle")=False) (n3:(z = "seen")=False) (n4:(z = "done")=False):yS [.lst (ids.map .loc),.loc d,.tup (.str z::xs'),.loc nB,.loc nS] h=some (.non,h.set d (dcN W { l with a:=l.a+1 })):=by
 have q3:=(yhl e).at_
 have d1:=fun ρ=>yra (ρ:=ρ) e (l.a+1)
 rw [show ((l.a+1:Nat):Int)=(l.a:Int)+1 from rfl] at d1
 unfold yS
 rw [yp]
 show ob (yo _ _ [.val (.lst (ids.map .loc)),.val (.loc d),.val (.tup (.str z::xs')),.val (.loc nB),.val (.loc nS),.no] h) fnK=_
 simp_all? only [yxk,n1,n2,n3,n4,ygr,yAJ,q3,d1]
theorem yAR {W:Nat}(e:h[d]?=some (dcN W l)):yS [.lst (ids.map .loc),.loc d,.tup (.str "anew"::xs'),.loc nB,.loc nS] h=some (.non,h.set d (dcN W { l with a:=0 })):=by
 have d1:∀ ρ,dpK ρ (.int 0) (.loc d) (.str "at") h=some (.nx ρ,h.set d (dcN W { l with a:=0 })):=fun ρ=>yra e 0
 unfold yS
 rw [yp]
 show ob (yo _ _ [.val (.lst (ids.map .loc)),.val (.loc d),.val (.tup (.str "anew"::xs')),.val (.loc nB),.val (.loc nS),.no] h) fnK=_
 simp_all? only [yxk,yEY,yFc,yAJ,d1]
end
section
variable {h:AH}{g:HC}{w:Int}{bx sp bx' sp':List Int}{en:List PV}{as:List (Nat×Lc)}{xs:List HD}{ls:List LH}{ids:List Nat}{nB nS i d:Nat}{l:LH}{xs':List PV}
theorem yAS (v':Int) (X:HH h g w bx' sp' en as xs (LO bx sp nB nS ids ls)) (el:ls[i]?=some l) (ed:ids[i]?=some d) (k1:l.k=1) (hb:l.X%bx.length<sp.length) :
  ∃ h',yS [.lst (ids.map .loc),.loc d,.tup (.str "seen"::xs'),.loc nB,.loc nS] h=some (.non,h')/\HH h' g w bx' sp' en as xs (LO bx sp nB nS ids (ls.set i { l with a:=l.a+1,st:=sp.getD (l.X%bx.length) 0,v:=v' })):=by
 have e:=X.dict el ed
 have q3:=(yhl e).at_
 have d1:=fun ρ=>yra (ρ:=ρ) e (l.a+1)
 rw [show ((l.a+1:Nat):Int)=(l.a:Int)+1 from rfl] at d1
 have X1:=X.put el ed { l with a:=l.a+1 }
 have el1:(ls.set i { l with a:=l.a+1 })[i]?=some { l with a:=l.a+1 }:=getElem?_set_self (List.getElem?_eq_some_iff.mp el).1
 have e1:=X1.dict el1 ed
 have b1:=(yhl e1).bx
 have eb:bxO bx.length { l with a:=l.a+1 }=l.X%bx.length:=by unfold bxO;simp only [k1]
 rw [eb] at b1
 have i1:=ydp (X1.get 1 rfl) hb
 have d2:=fun ρ=>yDx (ρ:=ρ) e1 (sp.getD (l.X%bx.length) 0)
 have X2:=X1.put el1 ed { l with a:=l.a+1,st:=sp.getD (l.X%bx.length) 0,v:=v' }
 rw [show (ls.set i { l with a:=l.a+1 }).set i { l with a:=l.a+1,st:=sp.getD (l.X%bx.length) 0,v:=v' }=ls.set i { l with a:=l.a+1,st:=sp.getD (l.X%bx.length) 0,v:=v' } from List.set_set ..] at X2
 refine ⟨_,?_,X2⟩
 unfold yS
 rw [yp]
 show ob (yo _ _ [.val (.lst (ids.map .loc)),.val (.loc d),.val (.tup (.str "seen"::xs')),.val (.loc nB),.val (.loc nS),.no] h) fnK=_
 simp_all? only [yxk,yES,yEq,yFb,ygr,yAJ,q3,d1,b1,i1,d2]
 rfl
theorem yAT (X:HH h g w bx' sp' en as xs (LO bx sp nB nS ids ls)) (el:ls[i]?=some l) (ed:ids[i]?=some d) (k2:l.k=2) (hb:l.X%bx.length<bx.length) (hs:sp.length=bx.length) (li:ids.length=ls.length) (wf:∀ m∈ls.set i { l with a:=l.a+1 },∃ sp,WF sp m) :
  ∃ h',yS [.lst (ids.map .loc),.loc d,.tup (.str "done"::xs'),.loc nB,.loc nS] h=some (.non,h')/\HH h' g w bx' sp' en as xs (LO (bx.set (l.X%bx.length) l.n) (sp.set (l.X%sp.length) (sp.getD (l.X%sp.length) 0+1)) nB nS ids ((ls.set i { l with a:=l.a+1 }).map (ygq bx.length (l.X%bx.length)))):=by
 have e:=X.dict el ed
 have q3:=(yhl e).at_
 have d1:=fun ρ=>yra (ρ:=ρ) e (l.a+1)
 rw [show ((l.a+1:Nat):Int)=(l.a:Int)+1 from rfl] at d1
 have X1:=X.put el ed { l with a:=l.a+1 }
 have el1:(ls.set i { l with a:=l.a+1 })[i]?=some { l with a:=l.a+1 }:=getElem?_set_self (List.getElem?_eq_some_iff.mp el).1
 have eb:bxO bx.length { l with a:=l.a+1 }=l.X%bx.length:=by unfold bxO;simp only [k2]
 have e1:=yhl (X1.dict el1 ed)
 have b1:=e1.bx
 rw [eb] at b1
 have u1:=e1.nu
 have s1:=X1.get 0 rfl
 have X2:HH ((h.set d (dcN bx.length { l with a:=l.a+1 })).set nB (.lst ((bx.set (l.X%bx.length) l.n).map .int))) g w bx' sp' en as xs (LO (bx.set (l.X%bx.length) l.n) sp nB nS ids (ls.set i { l with a:=l.a+1 })):=by
  have:=X1.upd (o1:=[]) (.lst ((bx.set (l.X%bx.length) l.n).map .int))
  unfold LO
  rw [length_set]
  exact this
 generalize hk1:h.set d (dcN bx.length { l with a:=l.a+1 })=k1 at *
 have t1:=fun (eo ei ev:XE) (ρ:PSt) (a1:ev ρ k1=some (.int l.n,k1)) (a2:eo ρ k1=some (.loc nB,k1)) (a3:ei ρ k1=some (.int (l.X%bx.length:Nat),k1))=>yje (k:=l.X%bx.length) a1 a2 a3 s1 hb
 have e2:=yhl (X2.dict el1 ed)
 have b2:=e2.bx
 rw [length_set,eb] at b2
 generalize hk2:k1.set nB (.lst ((bx.set (l.X%bx.length) l.n).map .int))=k2' at *
 have s2:=X2.get 1 rfl
 have i2:=ydp s2 (show l.X%bx.length<sp.length by omega)
 have X3:HH (k2'.set nS (.lst ((sp.set (l.X%bx.length) (sp.getD (l.X%bx.length) 0+1)).map .int))) g w bx' sp' en as xs (LO (bx.set (l.X%bx.length) l.n) (sp.set (l.X%bx.length) (sp.getD (l.X%bx.length) 0+1)) nB nS ids (ls.set i { l with a:=l.a+1 })):=X2.upd (o1:=[_]) _
 have t2:=fun (eo ei ev:XE) (ρ:PSt) (a1:ev ρ k2'=some (.int (sp.getD (l.X%bx.length) 0+1),k2')) (a2:eo ρ k2'=some (.loc nS,k2')) (a3:ei ρ k2'=some (.int (l.X%bx.length:Nat),k2'))=>yje (k:=l.X%bx.length) a1 a2 a3 s2 (by omega)
 generalize hk3:k2'.set nS (.lst ((sp.set (l.X%bx.length) (sp.getD (l.X%bx.length) 0+1)).map .int))=k3 at *
 obtain ⟨h',u',q5,X5⟩:=yrc (v0:=.val (.lst (ids.map .loc))) (v2:=.val (.tup (.str "done"::xs'))) (v3:=.val (.loc nB)) (v4:=.val (.loc nS)) (l:={ l with a:=l.a+1 }) k2 ids (ls.set i { l with a:=l.a+1 }) [] [] k3 .no X3 rfl (by rw [length_set];exact li) el1 ed wf
 rw [length_set] at X5
 have X5:HH h' g w bx' sp' en as xs (LO (bx.set (l.X%bx.length) l.n) (sp.set (l.X%bx.length) (sp.getD (l.X%bx.length) 0+1)) nB nS ids ((ls.set i { l with a:=l.a+1 }).map (ygq bx.length (l.X%bx.length)))):=X5
 refine ⟨h',?_,by rw [hs];exact X5⟩
 unfold yS
 rw [yp]
 show ob (yo _ (yo _ (ybx _ (yo (yfc _ _ _) (yo (yfc _ _ _) (ynE _ _ gnB))) _)) [.val (.lst (ids.map .loc)),.val (.loc d),.val (.tup (.str "done"::xs')),.val (.loc nB),.val (.loc nS),.no] h) fnK=_
 have r1:∀ ρ,yfc (yf 3) (ybn (yf 1) (xC (.str "box"))) (ybn (yf 1) (xC (.str "number"))) (.val (.lst (ids.map .loc))::.val (.loc d)::.val (.tup (.str "done"::xs'))::.val (.loc nB)::ρ) k1=some (.nx (.val (.lst (ids.map .loc))::.val (.loc d)::.val (.tup (.str "done"::xs'))::.val (.loc nB)::ρ),k2'):=fun ρ=>by
  refine t1 _ _ _ _ ?_ rfl ?_
  .simp_all? only [ygr,u1]
  .simp_all? only [ygr,b1]
 have r2:∀ ρ,yfc (yf 4) (ybn (yf 1) (xC (.str "box"))) (xOp yjr (xOp (ycC) (yf 4) (ybn (yf 1) (xC (.str "box")))) (xC (.int 1))) (.val (.lst (ids.map .loc))::.val (.loc d)::.val (.tup (.str "done"::xs'))::.val (.loc nB)::.val (.loc nS)::ρ) k2'=some (.nx (.val (.lst (ids.map .loc))::.val (.loc d)::.val (.tup (.str "done"::xs'))::.val (.loc nB)::.val (.loc nS)::ρ),k3):=fun ρ=>by
  refine t2 _ _ _ _ ?_ rfl ?_
  .simp_all? only [ygr,b2,i2]
  .simp_all? only [ygr,b2]
 have i7:∀ (ρ:PSt) (h:AH),xIL (yf 0) (.val (.lst (ids.map .loc))::ρ) h=some (ids.map .loc,h):=fun _ _=>ylT rfl
 simp_all? only [yxk,yEU,yEs,yEX,ygr,yAJ,q3,d1,r1,r2,i7,q5]
end
section
variable {h:AH}{g:HC}{w:Int}{bx sp bx' sp':List Int}{en en':List PV}{as:List (Nat×Lc)}{xs:List HD}{ls:List LH}{ids:List Nat}{nB nS i d:Nat}{l:LH}
theorem ytC (X:HH h g w bx' sp' en as xs (LO bx sp nB nS ids ls)) (el:ls[i]?=some l) (ed:ids[i]?=some d) (h1:1<=bx.length) (hs:sp.length=bx.length) (li:ids.length=ls.length) (wf:∀ m∈ls,WF sp m) :
  ∃ h',yS [.lst (ids.map .loc),.loc d,.tup (yjt bx sp l),.loc nB,.loc nS] h=some (.non,h')/\HH h' g w bx' sp' en as xs (LO (nxB bx l) (nxS sp l) nB nS ids (nxL bx sp i l ls)):=by
 have wl:=wf l (mem_of_getElem? el)
 have k2:=wl.k2
 have hb:l.X%bx.length<bx.length:=Nat.mod_lt _ (by omega)
 have dc:=X.dict el ed
 have stay:yhM l=false->yeQ bx sp l=l->HH h g w bx' sp' en as xs (LO (nxB bx l) (nxS sp l) nB nS ids (nxL bx sp i l ls)):=fun e1 e2=>by
  rw [yme e1,e2,yjk el]
  exact X
 have go:∀ l',yhM l=false->yeQ bx sp l=l'->HH (h.set d (dcN bx.length l')) g w bx' sp' en as xs (LO (nxB bx l) (nxS sp l) nB nS ids (nxL bx sp i l ls)):=fun l' e1 e2=>by
  rw [yme e1,e2]
  exact X.put el ed l'
 obtain ⟨k,x,n,a,st,v⟩:=l
 dsimp only at k2 hb
 rcases k2 with ⟨rfl,rfl,rfl⟩|⟨rfl,ha,rfl⟩|⟨rfl,ha⟩
 .exact ⟨h,yrd,stay rfl rfl⟩
 .rcases (show a=0\/a=1\/a=2\/a=3 by omega) with rfl|rfl|rfl|rfl
  .exact ⟨_,ykF dc yBt yuN yBu yBv,go _ rfl rfl⟩
  .obtain ⟨h',q1,q2⟩:=yAS (bx.getD (x%bx.length) 0) (xs':=[.int 1,.int (x%bx.length:Nat),.int (bx.getD (x%bx.length) 0)]) X el ed rfl (by dsimp only;omega)
   refine ⟨h',q1,?_⟩
   rw [yme rfl]
   exact q2
  .by_cases z:st=sp.getD (x%bx.length) 0
   .rw [show yjt bx sp ⟨1,x,0,2,st,v⟩=[.str "asleep",.int 2] from if_pos z]
    exact ⟨_,ykF dc yET yEr yEW yFa,go _ rfl (if_pos z)⟩
   .rw [show yjt bx sp ⟨1,x,0,2,st,v⟩=[.str "anew",.int 2] from if_neg z]
    exact ⟨_,yAR dc,go _ rfl (if_neg z)⟩
  .exact ⟨h,yrd,stay rfl rfl⟩
 .rcases (show a=0\/a=1\/a=2\/a=3\/a=4 by omega) with rfl|rfl|rfl|rfl|rfl
  .exact ⟨_,ykF dc yBt yuN yBu yBv,go _ rfl rfl⟩
  .exact ⟨_,ykF dc yBt yuN yBu yBv,go _ rfl rfl⟩
  .exact ⟨_,ykF dc yBt yuN yBu yBv,go _ rfl rfl⟩
  .obtain ⟨h',q1,q2⟩:=yAT (xs':=[.int 3]) X el ed rfl hb hs li (fun m hm=>by
    rcases List.mem_or_eq_of_mem_set hm with z|z
    .exact ⟨sp,wf m z⟩
    .rw [z]
     exact ⟨sp,.inr (.inr ⟨rfl,Nat.le_refl _⟩),wl.x,wl.n,fun z=>by cases z⟩)
   exact ⟨h',q1,q2⟩
  .exact ⟨h,yrd,stay rfl rfl⟩
theorem yxl (wl:WF sp l) (hs:sp.length=bx.length):WF sp (yeQ bx sp l):=by
 have k2:=wl.k2
 have x16:=wl.x
 have nb:=wl.n
 have fr:=wl.fr
 obtain ⟨k,x,n,a,st,v⟩:=l
 dsimp only at k2 x16 nb fr
 rcases k2 with ⟨rfl,rfl,rfl⟩|⟨rfl,ha,rfl⟩|⟨rfl,ha⟩
 .exact wl
 .rcases (show a=0\/a=1\/a=2\/a=3 by omega) with rfl|rfl|rfl|rfl
  .exact ⟨.inr (.inl ⟨rfl,by show 1<=3;decide,rfl⟩),x16,nb,fun _ z=>by cases z⟩
  .exact ⟨.inr (.inl ⟨rfl,by show 2<=3;decide,rfl⟩),x16,nb,fun _ z=>by cases z⟩
  .by_cases z:st=sp.getD (x%bx.length) 0
   .rw [show yeQ bx sp ⟨1,x,0,2,st,v⟩=⟨1,x,0,3,st,v⟩ from if_pos z]
    exact ⟨.inr (.inl ⟨rfl,by show 3<=3;decide,rfl⟩),x16,nb,fun _ _=>by rw [hs];exact z⟩
   .rw [show yeQ bx sp ⟨1,x,0,2,st,v⟩=⟨1,x,0,0,st,v⟩ from if_neg z]
    exact ⟨.inr (.inl ⟨rfl,by show 0<=3;decide,rfl⟩),x16,nb,fun _ z=>by cases z⟩
  .exact wl
 .rcases (show a=0\/a=1\/a=2\/a=3\/a=4 by omega) with rfl|rfl|rfl|rfl|rfl
  .exact ⟨.inr (.inr ⟨rfl,by show 1<=4;decide⟩),x16,nb,fun z=>by cases z⟩
  .exact ⟨.inr (.inr ⟨rfl,by show 2<=4;decide⟩),x16,nb,fun z=>by cases z⟩
  .exact ⟨.inr (.inr ⟨rfl,by show 3<=4;decide⟩),x16,nb,fun z=>by cases z⟩
  .exact ⟨.inr (.inr ⟨rfl,by show 4<=4;decide⟩),x16,nb,fun z=>by cases z⟩
  .exact wl
theorem yAU {b:Nat}(wl:WF sp l) (hb:b<sp.length) (hs:sp.length=bx.length):WF (sp.set b (sp.getD b 0+1)) (ygq bx.length b l):=by
 unfold ygq
 split
 .rename_i c
  have k2:=wl.k2
  refine ⟨.inr (.inl ⟨c.1,zero_le _,?_⟩),wl.x,wl.n,fun _ z=>by cases z⟩
  rcases k2 with q|q|q
  .rw [q.1] at c;exact absurd c.1 (by decide)
  .exact q.2.2
  .rw [q.1] at c;exact absurd c.1 (by decide)
 .rename_i c
  refine ⟨wl.k2,wl.x,wl.n,fun q1 q2=>?_⟩
  rw [length_set,ynj hb,if_neg fun z=>c ⟨q1,q2,by rw [<- hs];exact z⟩]
  exact wl.fr q1 q2
theorem yuO:(nxB bx l).length=bx.length/\(nxS sp l).length=sp.length/\(nxL bx sp i l ls).length=ls.length:=by
 unfold nxB nxS nxL
 refine ⟨?_,?_,?_⟩
 .split<;>simp
 .split<;>simp
 .split<;>simp
theorem yxm (wf:∀ m∈ls,WF sp m) (el:ls[i]?=some l) (h1:1<=bx.length) (hs:sp.length=bx.length):∀ m∈nxL bx sp i l ls,WF (nxS sp l) m:=by
 have w1:∀ m∈ls.set i (yeQ bx sp l),WF sp m:=fun m hm=>by
  rcases List.mem_or_eq_of_mem_set hm with z|z
  .exact wf m z
  .rw [z];exact yxl (wf l (mem_of_getElem? el)) hs
 unfold nxL nxS
 split
 .intro m hm
  obtain ⟨y,hy,rfl⟩:=List.mem_map.mp hm
  rw [hs]
  exact yAU (w1 y hy) (by rw [hs];exact Nat.mod_lt _ (by omega)) hs
 .exact w1
end
section
variable {h:AH}{g:HC}{bx sp:List Int}{en en':List PV}{as:List (Nat×Lc)}{ls:List LH}{ids:List Nat}{nB nS i:Nat}{l:LH}
theorem yAV:ysF (.tup (yjt bx sp l)) (.tup (yjt bx sp l)) h=some (.bl false,h):=by
 have e0:yfO (eqP 40 h) (yjt bx sp l) (yjt bx sp l)=some true:=by
  unfold yjt
  repeat' split
  all_goals first
   | exact ybm yqQ rfl
   | exact ybm yqQ (ybm yhj rfl)
   | exact ybm yqQ (ybm yhj (ybm yhj (ybm yhj rfl)))
 unfold ysF pairE
 simp only [e0]
 simp
theorem yAW (wl:WF sp l):∃ z xs,yjt bx sp l=.str z::xs/\(z = "idle"/\yeQ bx sp l=l/\yhM l=false\/(z = "idle")=False):=by
 have k2:=wl.k2
 obtain ⟨k,x,n,a,st,v⟩:=l
 dsimp only at k2
 rcases k2 with ⟨rfl,rfl,rfl⟩|⟨rfl,ha,rfl⟩|⟨rfl,ha⟩
 .exact ⟨_,_,rfl,.inl ⟨rfl,rfl,rfl⟩⟩
 .rcases (show a=0\/a=1\/a=2\/a=3 by omega) with rfl|rfl|rfl|rfl
  .exact ⟨_,_,rfl,.inr yuN⟩
  .exact ⟨_,_,rfl,.inr yEq⟩
  .by_cases z:st=sp.getD (x%bx.length) 0
   .exact ⟨_,_,if_pos z,.inr yEr⟩
   .exact ⟨_,_,if_neg z,.inr (eq_false (by rfl'))⟩
  .exact ⟨_,_,rfl,.inl ⟨rfl,rfl,rfl⟩⟩
 .rcases (show a=0\/a=1\/a=2\/a=3\/a=4 by omega) with rfl|rfl|rfl|rfl|rfl
  .exact ⟨_,_,rfl,.inr yuN⟩
  .exact ⟨_,_,rfl,.inr yuN⟩
  .exact ⟨_,_,rfl,.inr yuN⟩
  .exact ⟨_,_,rfl,.inr yEs⟩
  .exact ⟨_,_,rfl,.inl ⟨rfl,rfl,rfl⟩⟩
theorem yre {xs:List PV}:yfT ybG [.tup xs,.ty "tuple"] h=some (.bl true,h):=rfl
theorem yrf (S:LS h g bx sp en as ls ids nB nS) (el:ls[i]?=some l) (hen:en.length<=899):∃ h' as' en',ydf [.loc g.H,.lst (ids.map .loc),.int (i:Nat),.loc nB,.loc nS] h=some (.bl true,h')/\LS h' g (nxB bx l) (nxS sp l) en' as' (nxL bx sp i l ls) ids nB nS/\en'.length<=en.length+1:=by
 have wl:=S.wf l (mem_of_getElem? el)
 obtain ⟨d,ed⟩:=S.id el
 obtain ⟨h1,as',en',q1,X1,ev,hen',same⟩:=ytB S el
 obtain ⟨h2,q2,X2⟩:=ytC X1 el ed S.h1 S.hs S.li S.wf
 obtain ⟨n1,n2,n3⟩:=yuO (bx:=bx) (sp:=sp) (i:=i) (l:=l) (ls:=ls)
 have S2:LS h2 g (nxB bx l) (nxS sp l) en' as' (nxL bx sp i l ls) ids nB nS:=⟨by rw [n1];exact X2,by rw [n1,n2];exact S.hs,by rw [n1];exact S.h1,by rw [n1];exact S.h16,by rw [n3];exact S.li,yxm S.wf el S.h1 S.hs,by rw [n3];exact S.l8,ev,by omega⟩
 refine ⟨h2,as',en',?_,S2,hen'⟩
 have hH:=S.X.at_.get 0 rfl
 have lk:=yji S
 have ln:∀ h,ycD [.lst (ids.map .loc)] h=some (.int (ls.length:Nat),h):=fun h=>by
  show some (PV.int ((ids.map PV.loc).length:Nat),h)=_
  rw [length_map,S.li]
 have ix:=fun h=>yAM (h:=h) ed
 have ai:=yAN ed
 have du:=yAK (S.d el ed) S.b S.s wl S.hs S.h1
 have st:=ykE S2
 have hH2:=S2.X.at_.get 0 rfl
 have b2:=yuK S2.X
 have s2:=yqT S2.X
 have e2:=yni S2.b
 have e3:=yni S2.s
 have dn:=yAV (h:=h1) (bx:=bx) (sp:=sp) (l:=l)
 obtain ⟨z,xs,ez,hz⟩:=yAW (bx:=bx) wl
 rw [ez] at q1 q2 du dn
 unfold ydf
 rw [yp]
 show ob (yo _ _ [.val (.loc g.H),.val (.lst (ids.map .loc)),.val (.int (i:Nat)),.val (.loc nB),.val (.loc nS),.no,.no,.no] h) fnK=_
 rcases hz with ⟨rfl,es,ed'⟩|hz
 .have S1:LS h1 g bx sp en as' ls ids nB nS:=by
   have X1:=X1
   rw [same ed'] at X1
   unfold nxB nxS nxL at X1
   rw [ed',if_neg (by decide),if_neg (by decide),if_neg (by decide),es,yjk el] at X1
   exact ⟨X1,S.hs,S.h1,S.h16,S.li,S.wf,S.l8,S.ev,S.el⟩
  have lk1:=yji S1
  have ls1:=look_same (h:=h1) (bx:=bx) (sp:=sp) (ls:=ls) S.ev
  simp_all? only [yei,ln,lk,ix,ai,du,yw (m:="turn") hH (by rfl'),q1,yre,dn,yxk,lk1,ls1,q2,st,yw (m:="boxes") hH2 (by rfl'),yw (m:="stamps") hH2 (by rfl'),b2,s2,e2,e3]
 .simp_all? only [yei,ln,lk,ix,ai,du,yw (m:="turn") hH (by rfl'),q1,yre,dn,yxk,hz,q2,st,yw (m:="boxes") hH2 (by rfl'),yw (m:="stamps") hH2 (by rfl'),b2,s2,e2,e3]
end
abbrev nH:Str:="NoHand"
def yxI (n:Nat) (x:PV):Prop:=(∃ z:Int,x=.int z/\(z<0\/(n:Int)<=z))\/(∃ b,x=.bl b)\/x=.non\/x=.str "0"\/x=.tup [.int 0]
section
variable {h:AH}{g:HC}{bx sp:List Int}{en:List PV}{as:List (Nat×Lc)}{ls:List LH}{ids:List Nat}{nB nS:Nat}{x:PV}
theorem yrg (S:LS h g bx sp en as ls ids nB nS) (b:yxI ls.length x):yK [.loc g.H,x] h=some (nH,h):=by
 obtain ⟨f1,f2,f3,f4⟩:=ycG (S.X.at_.get 0 rfl)
 have e:h[g.cr]?=some (.lst ((as.map (·.1)).map .loc)):=S.X.at_.get 3 rfl
 have le:=yiL e
 rw [length_map,length_map,S.la] at le
 unfold yK ysO
 show rIf _ _ _ [.val (.loc g.H),.val x] h=_
 unfold rIf
 rcases b with ⟨z,rfl,hz⟩|⟨b,rfl⟩|rfl|rfl|rfl
 .have w:ybt [.int z] h=some (.bl true,h):=by kernel_rfl!
  by_cases z0:z<0
  .have l1:((0:Int)<=z)=False:=eq_false (by omega)
   simp_all? only [w,l1]
   rfl
  .have l1:((0:Int)<=z)=True:=eq_true (by omega)
   have l2:(z<(ls.length:Int))=False:=eq_false (by omega)
   simp_all? only [w,l1,l2,f3,le]
   rfl
 .have w:ybt [.bl b] h=some (.bl false,h):=by kernel_rfl!
  simp_all? only [w]
  rfl
 .have w:ybt [.non] h=some (.bl false,h):=by kernel_rfl!
  simp_all? only [w]
  rfl
 .have w:ybt [.str "0"] h=some (.bl false,h):=by kernel_rfl!
  simp_all? only [w]
  rfl
 .have w:ybt [.tup [.int 0]] h=some (.bl false,h):=by kernel_rfl!
  simp_all? only [w]
  rfl
theorem yAX {n k:Nat}{ns:List Str}{ys zs:List PV}{m:Str}{f:FnR}{e:XE}{a:XA}{ρ:PSt}(e0:h[n]?=some (.ins k ns ys)) (e1:e ρ h=some (.loc n,h)) (e2:a ρ h=some (zs,h)) (hm:m∉ns):ydl k m f e a ρ h=f (.loc n::zs) h:=by
 unfold ydl
 rw [e1,yce]
 unfold ydL
 simp only [e0]
 rw [if_pos ⟨trivial,hm⟩,e2,yce]
theorem yAY (S:LS h g bx sp en as ls ids nB nS) (b:yxI ls.length x):yee [.loc g.H,x] h=some (nH,h)/\ydH [.loc g.H,x] h=some (nH,h)/\ydI [.loc g.H,x] h=some (nH,h)/\ydJ [.loc g.H,x] h=some (nH,h)/\yez [.loc g.H,x] h=some (nH,h):=by
 have q:=yrg S b
 have e0:=S.X.at_.get 0 rfl
 have go:∀ ρ:PSt,ydl 15 "hand_at" yK (yf 0) (yb (yf 1) yi) (.val (.loc g.H)::.val x::ρ) h=some (nH,h):=fun ρ=>(yAX (m:="hand_at") e0 rfl rfl (by rfl')).trans q
 exact ⟨go _,go _,go _,go _,go _⟩
theorem yxn {k:Nat}(S:LS h g bx sp en as ls ids nB nS) (b:yxI ls.length x) (hk:k<5):ybY [.loc g.H,.int (k:Nat),x] h=some (nH,h):=by
 obtain ⟨q1,q2,q3,q4,q5⟩:=yAY S b
 have e0:=S.X.at_.get 0 rfl
 have go:∀ (m:Str) (f:FnR),f [.loc g.H,x] h=some (nH,h)->m∉(["numbers","marks","crew","entries"]:List Str)->ydl 15 m f (yf 0) (yb (yf 2) yi) [.val (.loc g.H),.val (.int (k:Nat)),.val x] h=some (nH,h):=fun m f e hm=>(yAX e0 rfl rfl hm).trans e
 have t1:=go "turn" _ q1 (by rfl')
 have t2:=go "state" _ q2 (by rfl')
 have t3:=go "which" _ q3 (by rfl')
 have t4:=go "slots" _ q4 (by rfl')
 have t5:=go "saw" _ q5 (by rfl')
 rcases (show k=0\/k=1\/k=2\/k=3\/k=4 by omega) with rfl|rfl|rfl|rfl|rfl
 .exact t1
 .exact t2
 .exact t3
 .exact t4
 .exact t5
theorem yDB {cs:List Str}{i:Nat}{r:XR}{s:XS}{ρ ρ':PSt}{c:Str}{h h1 h2:AH}(e:r ρ h=some (c,h1)) (hc:c∈cs) (es:s (ρ.set i (.val (.exc c))) h1=some (.nx ρ',h2)):yxA cs i r s ρ h=some (.nx (ρ'.set i .no),h2):=by
 unfold yxA
 rw [e]
 show (if _ then _ else _)=_
 rw [if_pos hc,es]
theorem yog {k:Nat}(S:LS h g bx sp en as ls ids nB nS) (b:yxI ls.length x) (hk:k<5):ycN [.loc g.H,.int (k:Nat),x] h=some (.bl true,h):=by
 have q:=yxn S b hk
 have q':ysN ybY (yb (yf 0) (yb (yf 1) (yb (yf 2) (yi)))) [.val (.loc g.H),.val (.int (k:Nat)),.val x,.val .non,.no] h=some (nH,h):=q
 have t1:yxA [nH] 4 (ysN ybY (yb (yf 0) (yb (yf 1) (yb (yf 2) (yi))))) (yca (yf 4) (yy 3)) [.val (.loc g.H),.val (.int (k:Nat)),.val x,.val .non,.no] h=some (.nx [.val (.loc g.H),.val (.int (k:Nat)),.val x,.val (.exc nH),.no],h):=(yDB (c:=nH) (h1:=h) (h2:=h) (ρ':=[.val (.loc g.H),.val (.int (k:Nat)),.val x,.val (.exc nH),.val (.exc nH)]) q' mem_cons_self rfl).trans rfl
 unfold ycN
 rw [yp]
 show ob (yo _ (yo _ _) [.val (.loc g.H),.val (.int (k:Nat)),.val x,.no,.no] h) fnK=_
 have i1:∀ h,yfz ybG ynT ynU [.exc nH,.xcl "NoHand"] h=some (.bl true,h):=fun _=>by kernel_rfl!
 have i2:∀ h,yfz ybG ynT ynU [.exc nH,.ty "ValueError"] h=some (.bl true,h):=fun _=>by kernel_rfl!
 have i3:∀ h,yfz ybG ynT ynU [.exc nH,.xcl "NoHands"] h=some (.bl false,h):=fun _=>by kernel_rfl!
 have i4:∀ h,yfz ybG ynT ynU [.exc nH,.xcl "NoBoxes"] h=some (.bl false,h):=fun _=>by kernel_rfl!
 have i5:∀ h,yfz ybG ynT ynU [.exc nH,.xcl "NoDeed"] h=some (.bl false,h):=fun _=>by kernel_rfl!
 have i6:∀ h,yfz ybG ynT ynU [.exc nH,.xcl "NoRow"] h=some (.bl false,h):=fun _=>by kernel_rfl!
 simp_all? only [t1,i1,i2,i3,i4,i5,i6]
end
section
variable {h:AH}{g:HC}{bx sp:List Int}{en:List PV}{as:List (Nat×Lc)}{ls:List LH}{ids:List Nat}{nB nS:Nat}
noncomputable def lwR (v0 v1:PVar) (nB nS n:Nat) (ids:List Nat) (H:Nat) (v7 v8 v9 v10 v11:PVar):PSt:=[v0,v1,.val (.loc nB),.val (.loc nS),.val (.int (n:Nat)),.val (.lst (ids.map .loc)),.val (.loc H),v7,v8,v9,v10,v11]
structure Cl (h':AH) (g:HC) (n e:Nat) (ids:List Nat) (nB nS:Nat):Prop where
 of:∃ bx sp en as ls,LS h' g bx sp en as ls ids nB nS/\ls.length=n/\en.length<=e
theorem yuP {x:PV}{M:Int}{v0 v1 v7 v10 v11:PVar}(S:LS h g bx sp en as ls ids nB nS) (b:yxI ls.length x):lwT (lwR v0 v1 nB nS ls.length ids g.H v7 (.val (.int M)) (.val x) v10 v11) h=some (.nx (lwR v0 v1 nB nS ls.length ids g.H v7 (.val (.int M)) (.val x) v10 (.val (.lst (yjg bx sp en ls)))),h):=by
 have lk:=yji S
 obtain ⟨k,hk,k5⟩:∃ k:Nat,M/2000%5=(k:Nat)/\k<5:=⟨(M/2000%5).toNat,by omega,by omega⟩
 have rf:=yog S b k5
 have sm:=look_same (h:=h) (bx:=bx) (sp:=sp) (ls:=ls) S.ev
 unfold lwT lwR
 rcases b with ⟨z,rfl,hz⟩|⟨b,rfl⟩|rfl|rfl|rfl
 .have w1:yfT ybG [.int z,.ty "int"] h=some (.bl true,h):=rfl
  have w2:yfT ybG [.int z,.ty "bool"] h=some (.bl false,h):=rfl
  by_cases z0:z<0
  .have l1:((0:Int)<=z)=False:=eq_false (by omega)
   simp_all? only [w1,w2,l1,lk,hk,rf,sm]
  .have l1:((0:Int)<=z)=True:=eq_true (by omega)
   have l2:(z<(ls.length:Int))=False:=eq_false (by omega)
   simp_all? only [w1,w2,l1,l2,lk,hk,rf,sm]
 .have w1:yfT ybG [.bl b,.ty "int"] h=some (.bl true,h):=rfl
  have w2:yfT ybG [.bl b,.ty "bool"] h=some (.bl true,h):=rfl
  simp_all? only [w1,w2,lk,hk,rf,sm]
 .have w1:yfT ybG [.non,.ty "int"] h=some (.bl false,h):=rfl
  simp_all? only [w1,lk,hk,rf,sm]
 .have w1:yfT ybG [.str "0",.ty "int"] h=some (.bl false,h):=rfl
  simp_all? only [w1,lk,hk,rf,sm]
 .have w1:yfT ybG [.tup [.int 0],.ty "int"] h=some (.bl false,h):=rfl
  simp_all? only [w1,lk,hk,rf,sm]
theorem yxo {i:Nat}{v0 v1 v7 v8 v10 v11:PVar}(S:LS h g bx sp en as ls ids nB nS) (hi:i<ls.length) (hen:en.length<=899):∃ h',lwT (lwR v0 v1 nB nS ls.length ids g.H v7 v8 (.val (.int (i:Nat))) v10 v11) h=some (.nx (lwR v0 v1 nB nS ls.length ids g.H v7 v8 (.val (.int (i:Nat))) v10 v11),h')/\Cl h' g ls.length (en.length+1) ids nB nS:=by
 obtain ⟨h',as',en',q1,S',he⟩:=yrf S (List.getElem?_eq_getElem hi) hen
 refine ⟨h',?_,⟨_,_,_,_,_,S',yuO.2.2,he⟩⟩
 have w1:yfT ybG [.int (i:Nat),.ty "int"] h=some (.bl true,h):=rfl
 have w2:yfT ybG [.int (i:Nat),.ty "bool"] h=some (.bl false,h):=rfl
 have l1:((0:Int)<=(i:Nat))=True:=eq_true (by omega)
 have l2:(((i:Nat):Int)<(ls.length:Nat))=True:=eq_true (by omega)
 unfold lwT lwR
 simp_all? only [w1,w2,l1,l2,q1]
end
section
variable {h:AH}{g:HC}{bx sp:List Int}{en:List PV}{as:List (Nat×Lc)}{ls:List LH}{ids:List Nat}{nB nS:Nat}
noncomputable def smV (n:Nat) (M:Int):List PV:=[.int (-1-M),.int ((n:Int)+M),.int 8,.int 18446744073709551616,.bl true,.bl false,.non,.str "0",.tup [.int 0]]
theorem yAZ {n:Nat}{M:Int}(hM:0<=M) (h8:n<=8):∃ x,atI (smV n M) (M/360%9)=some x/\yxI n x:=by
 have hk:=yna (M/360) (show (0:Int)<9 by decide)
 generalize M/360%9=k at *
 rcases (show k=0\/k=1\/k=2\/k=3\/k=4\/k=5\/k=6\/k=7\/k=8 by omega) with rfl|rfl|rfl|rfl|rfl|rfl|rfl|rfl|rfl
 .exact ⟨_,rfl,.inl ⟨_,rfl,.inl (by omega)⟩⟩
 .exact ⟨_,rfl,.inl ⟨_,rfl,.inr (by omega)⟩⟩
 .exact ⟨_,rfl,.inl ⟨_,rfl,.inr (by omega)⟩⟩
 .exact ⟨_,rfl,.inl ⟨_,rfl,.inr (by omega)⟩⟩
 .exact ⟨_,rfl,.inr (.inl ⟨_,rfl⟩)⟩
 .exact ⟨_,rfl,.inr (.inl ⟨_,rfl⟩)⟩
 .exact ⟨_,rfl,.inr (.inr (.inl rfl))⟩
 .exact ⟨_,rfl,.inr (.inr (.inr (.inl rfl)))⟩
 .exact ⟨_,rfl,.inr (.inr (.inr (.inr rfl)))⟩
theorem ytD {c:Int}{v0 v1 v8 v9 v10 v11:PVar}(S:LS h g bx sp en as ls ids nB nS) (hen:en.length<=899):∃ h' u8 u9 u10 u11,lwB (lwR v0 v1 nB nS ls.length ids g.H (.val (.int c)) v8 v9 v10 v11) h=some (.nx (lwR v0 v1 nB nS ls.length ids g.H (.val (.int c)) u8 u9 u10 u11),h')/\Cl h' g ls.length (en.length+1) ids nB nS:=by
 have mk:MulOk c 69621=True:=ykd (by decide) (by decide)
 obtain ⟨M,eM,hM⟩:∃ M:Int,c*69621%2147483629=M/\0<=M:=⟨_,rfl,by omega⟩
 have ih:Cl h g ls.length (en.length+1) ids nB nS:=⟨_,_,_,_,_,S,rfl,by omega⟩
 have n0:(0<(ls.length:Int)+4)=True:=eq_true (by omega)
 unfold lwB lwR
 by_cases sp0:M/12%30=0
 .obtain ⟨x,ex,bx'⟩:=yAZ (n:=ls.length) hM S.l8
  have q:=yuP (M:=M) (v0:=v0) (v1:=v1) (v7:=.val (.int c)) (v10:=.val (.lst (smV ls.length M))) (v11:=v11) S bx'
  refine ⟨h,.val (.int M),.val x,.val (.lst (smV ls.length M)),.val (.lst (yjg bx sp en ls)),?_,ih⟩
  unfold lwR smV at q
  unfold smV at ex
  unfold smV
  simp_all? only [mk,eM,n0,sp0,ex]
  exact q
 .have sp1:(M/12%30=0)=False:=eq_false sp0
  have hz:=yna M (show (0:Int)<(ls.length:Int)+4 by omega)
  by_cases hi:2<=M%((ls.length:Int)+4)/\M%((ls.length:Int)+4)-2<(ls.length:Int)
  .obtain ⟨i,ei⟩:∃ i:Nat,M%((ls.length:Int)+4)-2=(i:Nat):=⟨(M%((ls.length:Int)+4)-2).toNat,by omega⟩
   obtain ⟨h',q,cl⟩:=yxo (i:=i) (v0:=v0) (v1:=v1) (v7:=.val (.int c)) (v8:=.val (.int M)) (v10:=v10) (v11:=v11) S (by omega) hen
   refine ⟨h',.val (.int M),.val (.int (i:Nat)),v10,v11,?_,cl⟩
   unfold lwR at q
   simp_all? only [mk,eM,n0,sp1,ei]
   exact q
  .have q:=yuP (M:=M) (x:=.int (M%((ls.length:Int)+4)-2)) (v0:=v0) (v1:=v1) (v7:=.val (.int c)) (v10:=v10) (v11:=v11) S (.inl ⟨_,rfl,by omega⟩)
   refine ⟨h,.val (.int M),.val (.int (M%((ls.length:Int)+4)-2)),v10,.val (.lst (yjg bx sp en ls)),?_,ih⟩
   unfold lwR at q
   simp_all? only [mk,eM,n0,sp1]
   exact q
theorem ynl {v0 v1:PVar}{n:Nat}:∀ (cs:List Int) (h:AH) (e:Nat) (v7 v8 v9 v10 v11:PVar),Cl h g n e ids nB nS->e+cs.length<=899->∃ h' u7 u8 u9 u10 u11,yhB (yy 7) lwB (cs.map .int) (lwR v0 v1 nB nS n ids g.H v7 v8 v9 v10 v11) h=some (.nx (lwR v0 v1 nB nS n ids g.H u7 u8 u9 u10 u11),h')/\Cl h' g n (e+cs.length) ids nB nS
 | [],h,e,v7,v8,v9,v10,v11,cl,_=>⟨h,v7,v8,v9,v10,v11,rfl,cl⟩
 | c::cs,h,e,v7,v8,v9,v10,v11,⟨bx,sp,en,as,ls,S,hn,he⟩,hb=>by
  rw [length_cons] at hb
  subst hn
  obtain ⟨h1,u8,u9,u10,u11,q,cl⟩:=ytD (c:=c) (v0:=v0) (v1:=v1) (v8:=v8) (v9:=v9) (v10:=v10) (v11:=v11) S (by omega)
  have cl':Cl h1 g ls.length (e+1) ids nB nS:=by
   obtain ⟨bx',sp',en',as',ls',S',a1,a2⟩:=cl
   exact ⟨bx',sp',en',as',ls',S',a1,by omega⟩
  obtain ⟨h2,w7,w8,w9,w10,w11,q2,cl2⟩:=ynl cs h1 (e+1) (.val (.int c)) u8 u9 u10 u11 cl' (by omega)
  refine ⟨h2,w7,w8,w9,w10,w11,?_,by rw [length_cons,show e+(cs.length+1)=e+1+cs.length by omega];exact cl2⟩
  rw [map_cons,yxe (ρ1:=lwR v0 v1 nB nS ls.length ids g.H (.val (.int c)) v8 v9 v10 v11) rfl q]
  exact q2
end
section
variable {h:AH}
theorem yBa {ts:List T}(g:gdL ts) (hn:ts.length<=79):Rdb (yti ts,ts.map rwT++[Rw.lay]):=fun h=>by
 refine ⟨_,?_,fun m A=>At.seen (d:=rdr (wdL ts) 0) (d':=rdr (wdL ts) (0+(wdL ts).length)) A⟩
 show yba ydM (yb (yba yij (yb (yf 0) yi)) yi) [.val (.str (yti ts))] h=_
 simp_all? only [ywW g hn,yob hn]
 rfl
theorem okA:yeV "a":=⟨97,by decide,by decide,by rfl'⟩
theorem okB:yeV "b":=⟨98,by decide,by decide,by rfl'⟩
theorem yDC {X:Nat}{n:Int}(hX:X<16) (hn:0<=n/\n<B64):∀ k:Nat,gdL (yty k X n)/\(yty k X n).length<=79:=by
 have xb:(0:Int)<=(X:Nat)/\((X:Nat):Int)<B64:=by unfold B64;omega
 intro k
 match k with
 | 0=>exact ⟨fun t ht=>(by cases ht),by show 0<=79;decide⟩
 | 1=>exact ⟨fun t ht=>by
   rcases mem_cons.mp ht with rfl|ht
   .exact ⟨okA,xb⟩
   rcases mem_cons.mp ht with rfl|ht
   .exact ⟨okB,okA⟩
   rw [List.mem_singleton.mp ht]
   exact trivial,by show 3<=79;decide⟩
 | k+2=>exact ⟨fun t ht=>by
   rcases mem_cons.mp ht with rfl|ht
   .exact ⟨okA,xb⟩
   rcases mem_cons.mp ht with rfl|ht
   .exact ⟨okB,hn⟩
   rw [List.mem_singleton.mp ht]
   exact ⟨okA,okB⟩,by show 3<=79;decide⟩
theorem yDD {sp:List Int}{l:LH}(w:WF sp l):(ykV l).length<=6/\∀ d∈ykV l,Rdb d:=by
 unfold ykV
 split
 .exact ⟨by decide,fun d hd=>by cases hd⟩
 .refine ⟨by show 1<=6;decide,fun d hd=>?_⟩
  rw [List.mem_singleton.mp hd]
  obtain ⟨g1,g2⟩:=yDC w.x w.n l.k
  exact yBa g1 g2
theorem yFd {W:Nat}{sp:List Int}{l:LH}(w:WF sp l) (a0:l.a=0):hd0 (ykV l)=ybT W l:=by
 have k2:=w.k2
 obtain ⟨k,X,m,a,st,v⟩:=l
 dsimp only at k2 a0
 subst a0
 rcases k2 with ⟨rfl,_,rfl⟩|⟨rfl,_,rfl⟩|⟨rfl,_⟩
 all_goals rfl
def yBb (ns:List Int):List Int:=ysh ns none (some 200)
theorem ytE (cs:List Int) (lo hi:Option Int):ysh (cs.map PV.int) lo hi=(ysh cs lo hi).map .int:=by
 unfold ysh
 rw [length_map,List.map_take,List.map_drop]
theorem yrh (ns:List Int):(yBb ns).length<=ns.length:=by
 unfold yBb ysh
 rw [length_take,length_drop]
 omega
theorem yDE {ns:List Int}{ρ:PSt}(hl:ns.length<=63):xIL csE (.val (.scr ns)::ρ) h=some ((yBb ns++[0,1,5,7,9,10,13]).map .int,h):=by
 have cl:=yrh ns
 unfold yBb at cl ⊢
 have k1:((((ysh ns none (some 200)).map PV.int).length+[PV.int 0,PV.int 1,PV.int 5,PV.int 7,PV.int 9,PV.int 10,PV.int 13].length)<=100000)=True:=eq_true (by rw [length_map];show _+7<=_;omega)
 have k2:∀ xs ys:List PV,ysD (.lst xs) (.lst ys) h=if xs.length+ys.length<=100000 then some (.lst (xs++ys),h) else none:=fun _ _=>rfl
 unfold xIL csE
 simp_all? only [ytE,k2,k1]
 rw [if_pos (by rw [length_map];omega),map_append]
 rfl
variable {ns bx sp:List Int}{ls:List LH}{ids:List Nat}{nB nS:Nat}
theorem yuQ {W:Nat}{ρ:PSt}:∀ (ids:List Nat) (ls:List LH),ids.length=ls.length->(∀ (i d:Nat) (l:LH),ids[i]?=some d->ls[i]?=some l->h[d]?=some (dcN W l))->ygn dsE (yeE [] ρ) (ids.map .loc) h=some (hsV (ls.map ykV),h)
 | [],[],_,_=>rfl
 | d::ids,l::ls,e,q=>by
  have ih:=yuQ (ρ:=ρ) ids ls (by simpa using e) fun i d l e1 e2=>q (i+1) d l (by simpa using e1) (by simpa using e2)
  have d1:=(yhl (q 0 d l rfl rfl)).ds
  have e1:dsE [.val (.loc d)] h=some (.lst ((ykV l).map txV),h):=by
   have lo:ybd [.lst ((ykV l).map txV)] h=some (Nd.lst ((ykV l).map txV),h):=rfl
   unfold dsE
   simp_all? only [ygr,d1,lo]
  show ob (dsE [.val (.loc d)] h) (fun y h1=>ob (ygn dsE (yeE [] ρ) (ids.map .loc) h1) fun ys h2=>some (y::ys,h2))=_
  rw [e1,yce,ih]
  rfl
theorem yBc {W:PVar}(A:At h (LO bx (replicate bx.length 0) nB nS ids ls)) (h1:1<=bx.length) (h16:bx.length<=16) (hb:∀ v∈bx,0<=v/\v<B64) (li:ids.length=ls.length) (w:∀ l∈ls,WF (replicate bx.length 0) l/\l.a=0) (l1:1<=ls.length) (l8:ls.length<=8) (hl:ns.length<=63) :
  ∃ h',ob (lwG [.val (.scr ns),W,.val (.loc nB),.val (.loc nS),.val (.int (ls.length:Nat)),.val (.lst (ids.map .loc)),.no,.no,.no,.no,.no,.no] h) fnK=some (.bl true,h'):=by
 obtain ⟨h2,g,as,q1,gH,XX⟩:=yqY (h:=h) (hs:=ls.map ykV) h1 h16 hb (fun p hp=>by
  obtain ⟨l,hl,rfl⟩:=List.mem_map.mp hp
  exact yDD (w l hl).1) (by rw [length_map];exact l1) (by rw [length_map];exact l8)
 have X:=XX _ A
 rw [map_map,show ls.map (hd0 ∘ ykV)=ls.map (ybT bx.length) from List.map_congr_left fun l hl=>yFd (w l hl).1 (w l hl).2] at X
 have S:LS h2 g bx (replicate bx.length 0) [] as ls ids nB nS:=⟨X,by simp,h1,h16,li,fun l hl=>(w l hl).1,l8,fun e he=>(by cases he),by decide⟩
 have cl:=yrh ns
 obtain ⟨h3,u7,u8,u9,u10,u11,q2,bx',sp',en',as',ls',S',hn,_⟩:=ynl (v0:=.val (.scr ns)) (v1:=W) (n:=ls.length) (yBb ns++[0,1,5,7,9,10,13]) h2 0 .no .no .no .no .no ⟨_,_,_,_,_,S,rfl,Nat.le_refl _⟩ (by rw [length_append];show _+(_+7)<=_;omega)
 refine ⟨h3,?_⟩
 have e0:h[nB]?=some (.lst (bx.map .int)):=A.get 0 rfl
 have lb:=yfy e0
 have dq:=yuQ (h:=h) (W:=bx.length) (ρ:=[.val (.scr ns),W,.val (.loc nB),.val (.loc nS),.val (.int (ls.length:Nat)),.val (.lst (ids.map .loc)),.no,.no,.no,.no,.no,.no]) ids ls li fun i d l e1 e2=>A.get (i+2) (by
  unfold LO
  show (List.zipWith (fun i l=>(i,dcN bx.length l)) ids ls)[i]?=_
  rw [List.getElem?_zipWith,e1,e2])
 have il:∀ ρ:PSt,xIL (yf 5) (.val (.scr ns)::W::.val (.loc nB)::.val (.loc nS)::.val (.int (ls.length:Nat))::.val (.lst (ids.map .loc))::ρ) h=some (ids.map .loc,h):=fun _=>ylT rfl
 have ll:((ids.map PV.loc).length<=100000)=True:=eq_true (by rw [length_map];omega)
 have cs:=fun ρ=>yDE (h:=h2) (ns:=ns) (ρ:=ρ) hl
 have st:=ykE S'
 rw [gH] at q2 st
 unfold lwR at q2
 unfold lwG
 simp_all? only [ypV,lb,il,ll,dq,q1,cs,q2,st]
end
def bxV (W:Nat) (c:Int):List Int:=(List.range W).map fun (k:Nat)=>yrn (c+31*(k:Int)*k)
def lsV (ns:List Int) (n:Nat):List LH:=(List.range n).map fun (k:Nat)=>yro (ns.getD (2+k) 0*48271%2147483647)
section
variable {h:AH}{ns:List Int}{W:Nat}
theorem yDF {ρ:PSt}(hρ:ρ[0]?=some (.val (.scr ns))) (h16:W<=16):ygn bxE (yeE [0] ρ) (yhG 0 W) h=some ((bxV W (ns.getD 1 0)).map .int,h):=by
 have c1:yV [.scr ns,.int 1] h=some (.int (ns.getD 1 0),h):=yga 1
 have hi:∀ x,yeE [0] ρ x=[.val x,.val (.scr ns)]:=fun x=>by
  unfold yeE ypo
  simp [hρ]
 unfold yhG bxV
 rw [map_map]
 refine (yfU (fun k:Nat=>PV.int (0+(k:Int))) _ fun k hk=>?_)
 have hk:=List.mem_range.mp hk
 rw [hi]
 have m1:PX.MulOk 31 (k:Int)=True:=ykd (by omega) (by omega)
 have m2:PX.MulOk (31*(k:Int)) (k:Int)=True:=ykd (by omega) (by omega)
 have z:(0:Int)+(k:Int)=k:=by omega
 rw [z]
 unfold bxE
 simp_all? only [c1,m1,m2,ygk]
 rfl
theorem yuR {ρ:PSt}(hi:∀ x,yeE [1,0] ρ x=[.val x,.val (.int (W:Nat)),.val (.scr ns)]) (hW:1<=W):∀ (ks:List Nat) (h:AH),ygn heE (yeE [1,0] ρ) (ks.map fun (k:Nat)=>.int (0+(k:Int))) h=some (((List.range' h.length ks.length).map .loc),h++(ks.map fun k=>dcN W (yro (ns.getD (2+k) 0*48271%2147483647))))
 | [],h=>by
  show some ([],h)=some ([],h++[])
  rw [append_nil]
 | k::ks,h=>by
  have e1:heE [.val (.int (0+(k:Int))),.val (.int (W:Nat)),.val (.scr ns)] h=some (.loc h.length,h++[dcN W (yro (ns.getD (2+k) 0*48271%2147483647))]):=by
   have z:(2:Int)+(0+(k:Int))=((2+k:Nat):Int):=by omega
   have c1:=yga (h:=h) (ns:=ns) (2+k)
   have mk:PX.MulOk (ns.getD (2+k) 0) 48271=True:=ykd (by decide) (by decide)
   have lh:=ytA (h:=h) hW (ns.getD (2+k) 0*48271%2147483647)
   unfold heE
   simp_all? only [z,c1,mk,lh]
  have ih:=yuR hi hW ks (h++[dcN W (yro (ns.getD (2+k) 0*48271%2147483647))])
  show ob (heE (yeE [1,0] ρ (.int (0+(k:Int)))) h) (fun y h1=>ob (ygn heE (yeE [1,0] ρ) (ks.map fun (k:Nat)=>.int (0+(k:Int))) h1) fun ys h2=>some (y::ys,h2))=_
  rw [hi,e1,yce,ih,yce,length_cons,List.range'_succ,map_cons,map_cons,append_assoc,length_append]
  rfl
theorem yBd {ds:List Nd}{m:List (Nat×Nd)}(A:At h m):At (h++ds) (m++(List.range' h.length ds.length).zip ds):=by
 induction ds generalizing h m with
 | nil=>simpa using A
 | cons d ds ih =>
  have A1:At (h++[d]) (m++[(h.length,d)]):=At.new d (a:=m) (b:=[]) (by simpa using A)
  have:=ih A1
  rw [append_assoc,append_assoc,length_append] at this
  rw [length_cons,List.range'_succ,zip_cons_cons]
  exact this
theorem yuS {W:Nat}:∀ (a:List Nat) (ls:List LH),a.zip (ls.map (dcN W))=List.zipWith (fun i l=>(i,dcN W l)) a ls
 | [],_=>by simp
 | _::_,[]=>by simp
 | a::as,l::ls=>by
  rw [map_cons,zip_cons_cons,List.zipWith_cons_cons,yuS as ls]
theorem yBe (ns:List Int) (hl:ns.length<=63):∃ h',ytb [.scr ns] h=some (.bl true,h'):=by
 obtain ⟨W,hW⟩:∃ W:Nat,1+ns.getD 0 0%16=(W:Nat):=⟨(1+ns.getD 0 0%16).toNat,by omega⟩
 obtain ⟨N,hN⟩:∃ N:Nat,1+ns.getD 0 0/16%8=(N:Nat):=⟨(1+ns.getD 0 0/16%8).toNat,by omega⟩
 have h1:1<=W:=by omega
 have h16:W<=16:=by omega
 have n1:1<=N:=by omega
 have n8:N<=8:=by omega
 have c0:∀ h,yV [.scr ns,.int 0] h=some (.int (ns.getD 0 0),h):=fun _=>yga 0
 have i1:ynF (yb (yf 1) (yi)) [.val (.scr ns),.val (.int (W:Nat)),.no,.no,.no,.no,.no,.no,.no,.no,.no,.no] h=some (yhG 0 W,h):=ymH (j:=(W:Int)) rfl (by omega) (by omega)
 have l1:((yhG 0 W).length<=100000)=True:=eq_true (by simp [yhG];omega)
 have b1:=yDF (h:=h) (ns:=ns) (W:=W) (ρ:=[.val (.scr ns),.val (.int (W:Nat)),.no,.no,.no,.no,.no,.no,.no,.no,.no,.no]) rfl h16
 have bl:(bxV W (ns.getD 1 0)).length=W:=by simp [bxV]
 have bb:∀ i∈bxV W (ns.getD 1 0),0<=i/\i<B64:=fun i hi=>by
  obtain ⟨k,_,rfl⟩:=List.mem_map.mp hi
  exact yhk _
 generalize bxV W (ns.getD 1 0)=bx at *
 subst bl
 have A0:At h []:=⟨List.nodup_nil,fun p hp=>by cases hp⟩
 have A1:At (h++[Nd.lst (bx.map .int)]) [(h.length,.lst (bx.map .int))]:=At.new _ (a:=[]) A0
 have A2:At (h++[Nd.lst (bx.map .int)]++[Nd.lst ((replicate bx.length (0:Int)).map .int)]) [(h.length,.lst (bx.map .int)),((h++[Nd.lst (bx.map .int)]).length,.lst ((replicate bx.length (0:Int)).map .int))]:=At.new _ (a:=[_]) A1
 generalize hB:h.length=nB at *
 generalize hk1:h++[Nd.lst (bx.map .int)]=k1 at *
 generalize hS:k1.length=nS at *
 generalize hk2:k1++[Nd.lst ((replicate bx.length (0:Int)).map .int)]=k2 at *
 have hc:=yuR (ns:=ns) (W:=bx.length) (ρ:=[.val (.scr ns),.val (.int (bx.length:Nat)),.val (.loc nB),.val (.loc nS),.val (.int (N:Nat)),.no,.no,.no,.no,.no,.no,.no]) (fun _=>rfl) h1 (List.range N) k2
 have A3:=yBd (ds:=(lsV ns N).map (dcN bx.length)) A2
 have e3:((List.range N).map fun k=>dcN bx.length (yro (ns.getD (2+k) 0*48271%2147483647)))=(lsV ns N).map (dcN bx.length):=by
  unfold lsV
  rw [map_map]
  rfl
 have ll:(lsV ns N).length=N:=by simp [lsV]
 rw [yuS,length_map] at A3
 rw [e3,List.length_range] at hc
 rw [ll] at A3
 have w:∀ l∈lsV ns N,WF (replicate bx.length 0) l/\l.a=0:=fun l hl=>by
  obtain ⟨k,_,rfl⟩:=List.mem_map.mp hl
  exact yDu _ _
 obtain ⟨h',q⟩:=yBc (ns:=ns) (W:=.val (.int (bx.length:Nat))) (nB:=nB) (nS:=nS) (ids:=List.range' k2.length N) (ls:=lsV ns N) A3 h1 h16 bb (by rw [ll,List.length_range']) w (by rw [ll];exact n1) (by rw [ll];exact n8) hl
 rw [ll] at q
 refine ⟨h',?_⟩
 have i2:ynF (yb (yf 4) (yi)) [.val (.scr ns),.val (.int (bx.length:Nat)),.val (.loc nB),.val (.loc nS),.val (.int (N:Nat)),.no,.no,.no,.no,.no,.no,.no] k2=some (yhG 0 N,k2):=ymH (j:=(N:Int)) rfl (by omega) (by omega)
 have l2:((yhG 0 N).length<=100000)=True:=eq_true (by simp [yhG];omega)
 have hc:ygn heE (yeE [1,0] [.val (.scr ns),.val (.int (bx.length:Nat)),.val (.loc nB),.val (.loc nS),.val (.int (N:Nat)),.no,.no,.no,.no,.no,.no,.no]) (yhG 0 N) k2=some ((List.range' k2.length N).map .loc,k2++(lsV ns N).map (dcN bx.length)):=hc
 have rp:=yEn bx.length
 unfold ytb
 rw [yp]
 show ob (yo _ (yo (yca (ygK (yel _ _ bxE)) _) (yo _ (yo _ (yo (yca (xFz (yel _ _ heE)) _) lwG)))) [.val (.scr ns),.no,.no,.no,.no,.no,.no,.no,.no,.no,.no,.no] h) fnK=_
 have cW:(-1000000<=((bx.length:Nat):Int)/\((bx.length:Nat):Int)<=100000/\1*((bx.length:Nat):Int).toNat<=100000)=True:=eq_true (by omega)
 simp_all? only [c0,hW,hN,i1,l1,b1,rp,cW,hB,hk1,hS,hk2,i2,l2,hc,↓reduceIte]
 exact q
end
end
def top (i:Nat):Stmt:=PySem.Challenge.pw_retryhall_k28_idle_and_no_hand.main.body.getD i (.Pass ⟨0,0,0,0⟩)
abbrev FR:=Str×Str×Stmt×Nat×List Str
abbrev fRw (x q:Str) (s:Stmt) (k:Nat) (n:List Str):FR:=(x,q,s,k,n)
abbrev mRw (k:Nat) (x:Str) (n:Nat):Nat×Str×Nat:=(k,x,n)
def r0:FR:=fRw "__init__" "Log.__init__" (inClass (top 9) 0) 1 ["self"]
def r1:FR:=fRw "write" "Log.write" (inClass (top 9) 1) 3 ["self","box","number","top"]
def r2:FR:=fRw "own" "Log.own" (inClass (top 9) 2) 2 ["self","box","layer"]
def r3:FR:=fRw "see" "Log.see" (inClass (top 9) 7) 3 ["self","box","number"]
def r4:FR:=fRw "saw" "Log.saw" (inClass (top 9) 8) 1 ["self"]
def r5:FR:=fRw "wrote" "Log.wrote" (inClass (top 9) 9) 1 ["self","lowest"]
def r6:FR:=fRw "is_whole" "is_whole" (top 17) 1 ["value"]
def r7:FR:=fRw "is_number" "is_number" (top 18) 1 ["value"]
def r8:FR:=fRw "is_made_of" "is_made_of" (top 24) 2 ["text","signs"]
def r9:FR:=fRw "number_of" "number_of" (top 19) 1 ["text","number"]
def r10:FR:=fRw "is_slot" "is_slot" (top 21) 1 ["text"]
def r11:FR:=fRw "slot_index" "slot_index" (top 22) 1 ["slot"]
def r12:FR:=fRw "__init__" "Doer.__init__" (inClass (top 26) 0) 3 ["self","slots","width"]
def r13:FR:=fRw "held_in" "Doer.held_in" (inClass (top 26) 1) 2 ["self","slot"]
def r14:FR:=fRw "hold" "Doer.hold" (inClass (top 26) 2) 3 ["self","slot","number"]
def r15:FR:=fRw "box_at" "Doer.box_at" (inClass (top 26) 3) 2 ["self","place"]
def r16:FR:=fRw "do_put" "Doer.do_put" (inClass (top 26) 5) 3 ["self","place","slot"]
def r17:FR:=fRw "sees_at" "Doer.sees_at" (inClass (top 26) 6) 2 ["self","place"]
def r18:FR:=fRw "take_seen" "Doer.take_seen" (inClass (top 26) 8) 4 ["self","slot","place","numbers","box"]
def r19:FR:=fRw "__init__" "Run.__init__" (inClass (top 29) 0) 4 ["self","rows","slots","width"]
def r20:FR:=fRw "row" "Run.row" (inClass (top 29) 1) 1 ["self"]
def r21:FR:=fRw "is_stale" "Run.is_stale" (inClass (top 29) 2) 2 ["self","stamps"]
def r22:FR:=fRw "takes" "takes" (top 28) 2 ["begun_by","row"]
def r23:FR:=fRw "taker_layer" "Run.taker_layer" (inClass (top 29) 3) 2 ["self","row","layer"]
def r24:FR:=fRw "is_looked_over" "Run.is_looked_over" (inClass (top 29) 4) 1 ["self","row"]
def r25:FR:=fRw "see_next" "Run.see_next" (inClass (top 29) 5) 3 ["self","numbers","stamps","row","box"]
def r26:FR:=fRw "go_plain" "Run.go_plain" (inClass (top 29) 7) 2 ["self","row"]
def r27:FR:=fRw "go" "Run.go" (inClass (top 29) 6) 1 ["self","row"]
def r28:FR:=fRw "state" "Hand.state" (inClass (top 30) 1) 1 ["self"]
def r29:FR:=fRw "new_run" "Hand.new_run" (inClass (top 30) 2) 1 ["self","rows"]
def r30:FR:=fRw "begin_anew" "Hand.begin_anew" (inClass (top 30) 3) 1 ["self"]
def r31:FR:=fRw "fall_asleep" "Hand.fall_asleep" (inClass (top 30) 4) 1 ["self"]
def r32:FR:=fRw "go_on" "Hand.go_on" (inClass (top 30) 5) 2 ["self","slots"]
def r33:FR:=fRw "__init__" "Hand.__init__" (inClass (top 30) 0) 3 ["self","deeds","width"]
def r34:FR:=fRw "__init__" "Let.__init__" (inClass (top 34) 0) 3 ["self","slot","number"]
def r35:FR:=fRw "__init__" "Take.__init__" (inClass (top 36) 0) 3 ["self","slot","place"]
def r36:FR:=fRw "__init__" "Put.__init__" (inClass (top 37) 0) 3 ["self","place","slot"]
def r37:FR:=fRw "long" "Let.long" (inClass (top 34) 2) 1 ["self"]
def r38:FR:=fRw "long" "Take.long" (inClass (top 36) 2) 1 ["self"]
def r39:FR:=fRw "long" "Put.long" (inClass (top 37) 2) 1 ["self"]
def r40:FR:=fRw "long" "Wait.long" (inClass (top 42) 1) 1 ["self"]
def r41:FR:=fRw "list_long" "list_long" (top 32) 1 ["parts"]
def r42:FR:=fRw "plain_rows" "plain_rows" (top 47) 1 ["part"]
def r43:FR:=fRw "part_rows" "part_rows" (top 46) 2 ["part","first"]
def r44:FR:=fRw "list_rows" "list_rows" (top 45) 2 ["parts","first","rows","part"]
def r45:FR:=fRw "rows_of" "rows_of" (top 44) 1 ["deed"]
def r46:FR:=fRw "__init__" "Reader.__init__" (inClass (top 56) 0) 2 ["self","words"]
def r47:FR:=fRw "words_of" "words_of" (top 55) 1 ["text"]
def r48:FR:=fRw "ahead" "Reader.ahead" (inClass (top 56) 1) 1 ["self"]
def r49:FR:=fRw "taken" "Reader.taken" (inClass (top 56) 2) 1 ["self","word"]
def r50:FR:=fRw "pass_over" "Reader.pass_over" (inClass (top 56) 3) 2 ["self","wanted","word"]
def r51:FR:=fRw "slot_taken" "Reader.slot_taken" (inClass (top 56) 4) 1 ["self","word"]
def r52:FR:=fRw "number_taken" "Reader.number_taken" (inClass (top 56) 6) 1 ["self","word","number"]
def r53:FR:=fRw "plain_taken" "Reader.plain_taken" (inClass (top 56) 13) 2 ["self","word","slot","place","name"]
def r54:FR:=fRw "part_taken" "Reader.part_taken" (inClass (top 56) 9) 2 ["self","around","word"]
def r55:FR:=fRw "list_taken" "Reader.list_taken" (inClass (top 56) 7) 2 ["self","around","parts"]
def r56:FR:=fRw "read" "read" (top 54) 1 ["text","reader","deed"]
def r57:FR:=fRw "check_boxes" "check_boxes" (top 61) 1 ["boxes"]
def r58:FR:=fRw "rows_of_deeds" "rows_of_deeds" (top 63) 1 ["texts"]
def r59:FR:=fRw "rows_of_hands" "rows_of_hands" (top 62) 1 ["hands"]
def r60:FR:=fRw "__init__" "Hall.__init__" (inClass (top 64) 0) 3 ["self","boxes","hands"]
def r61:FR:=fRw "boxes" "Hall.boxes" (inClass (top 64) 1) 1 ["self"]
def r62:FR:=fRw "stamps" "Hall.stamps" (inClass (top 64) 2) 1 ["self"]
def r63:FR:=fRw "hand_at" "Hall.hand_at" (inClass (top 64) 4) 2 ["self","hand"]
def r64:FR:=fRw "state" "Hall.state" (inClass (top 64) 5) 2 ["self","hand"]
def r65:FR:=fRw "which" "Hall.which" (inClass (top 64) 6) 2 ["self","hand"]
def r66:FR:=fRw "slots" "Hall.slots" (inClass (top 64) 7) 2 ["self","hand"]
def r67:FR:=fRw "saw" "Hall.saw" (inClass (top 64) 8) 2 ["self","hand"]
def r68:FR:=fRw "hands" "Hall.hands" (inClass (top 64) 3) 1 ["self"]
def r69:FR:=fRw "journal" "Hall.journal" (inClass (top 64) 9) 1 ["self"]
def r70:FR:=fRw "wake_stale" "Hall.wake_stale" (inClass (top 64) 13) 1 ["self","member"]
def r71:FR:=fRw "end_deed" "Hall.end_deed" (inClass (top 64) 14) 5 ["self","hand","end","laid","slots","member"]
def r72:FR:=fRw "lay_down" "Hall.lay_down" (inClass (top 64) 12) 2 ["self","hand","run","laid","pair","box"]
def r73:FR:=fRw "looked_over_told" "Hall.looked_over_told" (inClass (top 64) 11) 3 ["self","hand","row_number","member","row","box"]
def r74:FR:=fRw "turn" "Hall.turn" (inClass (top 64) 10) 2 ["self","hand","member","row_number"]
def r75:FR:=fRw "hand_at" "Hall.hand_at" (inClass (top 64) 4) 2 ["self","hand"]
def r76:FR:=fRw "turn" "Hall.turn" (inClass (top 64) 10) 2 ["self","hand","member","row_number"]
def r77:FR:=fRw "state" "Hall.state" (inClass (top 64) 5) 2 ["self","hand"]
def r78:FR:=fRw "which" "Hall.which" (inClass (top 64) 6) 2 ["self","hand"]
def r79:FR:=fRw "slots" "Hall.slots" (inClass (top 64) 7) 2 ["self","hand"]
def r80:FR:=fRw "saw" "Hall.saw" (inClass (top 64) 8) 2 ["self","hand"]
def r81:FR:=fRw "_law_asked" "_law_asked" (top 69) 3 ["_law_hall","_law_way","_law_hand_here"]
def r82:FR:=fRw "_law_cell_at" "_law_cell_at" (top 66) 2 ["_law_script","_law_k"]
def r83:FR:=fRw "_law_number_by" "_law_number_by" (top 67) 1 ["_law_cell","_law_part"]
noncomputable def r84:FR:=fRw "_law_hand" "_law_hand" (top 68) 2 ["_law_cell","_law_many","_law_box","_law_start","_law_deed","_law_number"]
def r85:FR:=fRw "_law_refused" "_law_refused" (top 70) 3 ["_law_hall","_law_way","_law_hand_here","_law_error","e"]
def r86:FR:=fRw "_law_look" "_law_look" (top 71) 2 ["_law_hall","_law_many","_law_found","_law_hand_here"]
def r87:FR:=fRw "_law_due" "_law_due" (top 72) 3 ["_law_one","_law_boxes","_law_stamps"]
noncomputable def r88:FR:=fRw "_law_gone" "_law_gone" (top 73) 5 ["_law_hands","_law_one","_law_due_here","_law_boxes","_law_stamps","_law_other"]
def r89:FR:=fRw "_law_states" "_law_states" (top 74) 2 ["_law_hall","_law_hands","_law_k","_law_due_here"]
noncomputable def r90:FR:=fRw "_law_turned" "_law_turned" (top 75) 5 ["_law_hall","_law_hands","_law_hand_here","_law_boxes","_law_stamps","_law_ahead","_law_due_here","_law_found"]
noncomputable def r91:FR:=fRw "law" "law" (top 76) 1 ["_law_script","_law_many","_law_boxes","_law_stamps","_law_count","_law_hands","_law_hall","_law_cell","_law_mixed","_law_hand_here","_law_some","_law_ahead"]
def fT:List FR:=[r0,r1,r2,r3,r4,r5,r6,r7,r8,r9,r10,r11,r12,r13,r14,r15,r16,r17,r18,r19,r20,r21,r22,r23,r24,r25,r26,r27,r28,r29,r30,r31,r32,r33,r34,r35,r36,r37,r38,r39,r40,r41,r42,r43,r44,r45,r46,r47,r48,r49,r50,r51,r52,r53,r54,r55,r56,r57,r58,r59,r60,r61,r62,r63,r64,r65,r66,r67,r68,r69,r70,r71,r72,r73,r74,r75,r76,r77,r78,r79,r80,r81,r82,r83,r84,r85,r86,r87,r88,r89,r90,r91]
def fR (n:Nat):FR:=fT.getD n r0
def FR.ps (r:FR):List Str:=r.2.2.2.2.take r.2.2.2.1
abbrev fP (n:Nat):List Str:=FR.ps (fR n)
def AllP {α:Type}(p:α->Prop):List α->Prop
 | []=>True
 | c::cs=>p c/\AllP p cs
theorem AllP.get {α:Type}{p:α->Prop}{d:α}(hd:p d):∀ {cs:List α},AllP p cs->∀ k:Nat,p (cs.getD k d)
 | [],_,_=>hd
 | _::_,a,0=>a.1
 | _::_,a,k+1=>AllP.get hd a.2 k
theorem AllP.mem {α:Type}{p:α->Prop}:∀ {cs:List α},AllP p cs->∀ i∈cs,p i
 | c::cs,a,i,hi=>by
  rcases mem_cons.mp hi with rfl|hi
  .exact a.1
  .exact AllP.mem a.2 i hi
theorem yuT:AllP (fun r:FR=>ydC r.2.2.2.2 r.ps (yT r.2.2.1)) fT:=by
 repeat' first|exact True.intro|refine And.intro ?_ ?_|exact ⟨rfl,rfl,rfl,by rfl',rfl,by rfl',by rfl'⟩
theorem sc (n:Nat) {r:FR}(h:fR n=r:=by rfl):ydC r.2.2.2.2 r.ps (yT r.2.2.1):=h ▸ AllP.get (p:=fun r:FR=>ydC r.2.2.2.2 r.ps (yT r.2.2.1)) yuT.1 yuT n
def mT:List (Nat×Str×Nat):=[mRw 1 "long" 37,mRw 3 "long" 38,mRw 4 "long" 39,mRw 9 "long" 40,mRw 11 "write" 1,mRw 11 "own" 2,mRw 11 "see" 3,mRw 11 "saw" 4,mRw 11 "wrote" 5,mRw 12 "held_in" 13,mRw 12 "hold" 14,mRw 12 "box_at" 15,mRw 12 "do_put" 16,mRw 12 "sees_at" 17,mRw 12 "take_seen" 18,mRw 12 "row" 20,mRw 12 "is_stale" 21,mRw 12 "taker_layer" 23,mRw 12 "is_looked_over" 24,mRw 12 "see_next" 25,mRw 12 "go" 27,mRw 12 "go_plain" 26,mRw 14 "state" 28,mRw 14 "new_run" 29,mRw 14 "begin_anew" 30,mRw 14 "fall_asleep" 31,mRw 14 "go_on" 32,mRw 15 "boxes" 61,mRw 15 "stamps" 62,mRw 15 "hands" 68,mRw 15 "hand_at" 63,mRw 15 "state" 64,mRw 15 "which" 65,mRw 15 "slots" 66,mRw 15 "saw" 67,mRw 15 "journal" 69,mRw 15 "wake_stale" 70,mRw 15 "end_deed" 71,mRw 15 "lay_down" 72,mRw 15 "looked_over_told" 73,mRw 15 "turn" 74,mRw 15 "hand_at" 75,mRw 15 "turn" 76,mRw 15 "state" 77,mRw 15 "which" 78,mRw 15 "slots" 79,mRw 15 "saw" 80,mRw 15 "hand_at" 75,mRw 15 "turn" 76,mRw 15 "state" 77,mRw 15 "which" 78,mRw 15 "slots" 79,mRw 15 "saw" 80,mRw 10 "ahead" 48,mRw 10 "taken" 49,mRw 10 "pass_over" 50,mRw 10 "slot_taken" 51,mRw 10 "number_taken" 52,mRw 10 "list_taken" 55,mRw 10 "part_taken" 54,mRw 10 "plain_taken" 53]
noncomputable def gT:List (Str×Nat):=[("is_whole",6),("is_number",7),("is_made_of",8),("number_of",9),("is_slot",10),("slot_index",11),("takes",22),("list_long",41),("plain_rows",42),("part_rows",43),("list_rows",44),("rows_of",45),("words_of",47),("read",56),("check_boxes",57),("rows_of_deeds",58),("rows_of_hands",59),("_law_asked",81),("_law_cell_at",82),("_law_number_by",83),("_law_hand",84),("_law_refused",85),("_law_look",86),("_law_due",87),("_law_gone",88),("_law_states",89),("_law_turned",90),("law",91)]
def kT:List (Nat×Nat):=[(1,34),(3,35),(4,36),(10,46),(11,0),(12,19),(13,12),(14,33),(15,60)]
def cT:List Str:=["Part","Let","Reckon","Take","Put","If","Either","Try","Throw","Wait","Reader","Log","Run","Doer","Hand","Hall"]
noncomputable def zT:List Str:=["ValueError","all","any","bool","int","isinstance","len","list","range","reversed","sorted","str","sum","tuple"]
noncomputable def nT:List (Str×List Nat):=[("stack",[11]),("last_seen",[11]),("held",[12]),("width",[12,14]),("log",[12]),("rows",[12]),("at",[10,12]),("seen_stamps",[12]),("sides",[12]),("deeds",[14]),("nth",[14]),("sleeps",[14]),("before",[14]),("run",[14]),("numbers",[15]),("marks",[15]),("crew",[15]),("entries",[15]),("words",[10]),("slot",[1,3,4]),("number",[1]),("place",[3,4])]
theorem ml1 {α:Type}{P:List α->Prop}(h:∀ a,P [a]):∀ us:List α,us.length=1->P us
 | [_],_=>h _
theorem ml2 {α:Type}{P:List α->Prop}(h:∀ a b,P [a,b]):∀ us:List α,us.length=2->P us
 | [_,_],_=>h _ _
theorem ml3 {α:Type}{P:List α->Prop}(h:∀ a b c,P [a,b,c]):∀ us:List α,us.length=3->P us
 | [_,_,_],_=>h _ _ _
theorem ml4 {α:Type}{P:List α->Prop}(h:∀ a b c d,P [a,b,c,d]):∀ us:List α,us.length=4->P us
 | [_,_,_,_],_=>h _ _ _ _
theorem ml5 {α:Type}{P:List α->Prop}(h:∀ a b c d e,P [a,b,c,d,e]):∀ us:List α,us.length=5->P us
 | [_,_,_,_,_],_=>h _ _ _ _ _
set_option genInjectivity false in
set_option genSizeOf false in
structure Ads where
 A:Nat->Addr
 fl:Nat->Addr×FuncData
 k_FIGURES:Tok
 k_MOST_AROUND:Tok
 k_MOST_BOXES:Tok
 k_MOST_DEEDS:Tok
 k_MOST_HANDS:Tok
 k_MOST_ROWS:Tok
 k_SLOTS:Tok
 k_WIDE:Tok
abbrev Ads.a (t:Ads) (n:Nat):Addr:=(t.fl n).1
abbrev Ads.d (t:Ads) (n:Nat):FuncData:=(t.fl n).2
abbrev ykW (K:PySem.W.Frag) (t:Ads):Ck:=⟨K,t.A⟩
structure Txt (K:PySem.W.Frag) (mg:Str->Option Value) (t:Ads):Prop where
 f:∀ n,Fun K (fR n).1 (fR n).2.1 (fR n).2.2.1 (t.a n) (t.d n)
 b:∀ n,Binds K (t.d n) (fP n) []
 G:∀ n,mg (gT.getD n ("is_whole",6)).1=some (.ref (t.a (gT.getD n ("is_whole",6)).2))
 C:∀ n,mg (cT.getD n "Part")=some (.ref (t.A n))
 J:∀ n,Mk K (t.A (kT.getD n (1,34)).1) (t.a (kT.getD n (1,34)).2)
 M:∀ n,Meth K (t.A (mT.getD n (mRw 1 "long" 37)).1) (mT.getD n (mRw 1 "long" 37)).2.1 (t.a (mT.getD n (mRw 1 "long" 37)).2.2)
 mk_Part:makesIn K (t.A 0)=true
 io_Part:findIn K (.ref (t.A 0)) "__init__" = some (some (.builtin "object.__init__"))
 kp_Part:keepIn K (.ref (t.A 0))=true
 mk_Wait:makesIn K (t.A 9)=true
 io_Wait:findIn K (.ref (t.A 9)) "__init__" = some (some (.builtin "object.__init__"))
 kp_Wait:keepIn K (.ref (t.A 9))=true
 cf_Doer:ysY K (t.A 13) "__init__" (t.a 12)
 cl:∀ k,Cls K (t.A k)
 N:∀ n,∀ k∈(nT.getD n ("stack",[11])).2,Cls K (t.A k)/\NoAttr K (t.A k) (nT.getD n ("stack",[11])).1
 isa:∀ r∈ybG,∀ (H:Hp) (a dx:Addr) (fs:List (Str×V)),H a=some (.ins (t.A r.1) dx fs)->IsI K H (.ref a) (.ref (t.A r.2.1)) r.2.2
 Z:∀ n,mg (zT.getD n "ValueError")=none
 m_FIGURES:mg "FIGURES" = some (.str "0123456789" t.k_FIGURES)
 m_MOST_AROUND:mg "MOST_AROUND" = some (.int 8 t.k_MOST_AROUND)
 m_MOST_BOXES:mg "MOST_BOXES" = some (.int 16 t.k_MOST_BOXES)
 m_MOST_DEEDS:mg "MOST_DEEDS" = some (.int 6 t.k_MOST_DEEDS)
 m_MOST_HANDS:mg "MOST_HANDS" = some (.int 8 t.k_MOST_HANDS)
 m_MOST_ROWS:mg "MOST_ROWS" = some (.int 80 t.k_MOST_ROWS)
 m_SLOTS:mg "SLOTS" = some (.str "abcdefgh" t.k_SLOTS)
 m_WIDE:mg "WIDE" = some (.int 18446744073709551616 t.k_WIDE)
 m_HallError:mg "HallError" = some (.ref (xAd K "HallError"))
 m_NoHand:mg "NoHand" = some (.ref (xAd K "NoHand"))
 m_NoHands:mg "NoHands" = some (.ref (xAd K "NoHands"))
 m_NoBoxes:mg "NoBoxes" = some (.ref (xAd K "NoBoxes"))
 m_NoDeed:mg "NoDeed" = some (.ref (xAd K "NoDeed"))
 m_NoRow:mg "NoRow" = some (.ref (xAd K "NoRow"))
 x_NoHand:XCls K (xAd K "NoHand")
 xs__law_refused:∀ k∈(["NoHand"]:List Str),XSub K (xAd K k) (xAd K "HallError")
 isx:∀ r∈ynT,(∀ a,PySem.W.KitX K (.ref a) (.ref (xAd K r.1)) (fun h=>∃ ox,PySem.W.InstAt h a ox (xAd K r.1) none))/\PySem.W.kitOne K (.ref (xAd K r.1)) (.ref (xAd K r.2.1))=some r.2.2
 isy:∀ r∈ynU,(∀ a,PySem.W.KitX K (.ref a) (.ref (xAd K r.1)) (fun h=>∃ ox,PySem.W.InstAt h a ox (xAd K r.1) none))/\PySem.W.kitOne K (.ref (xAd K r.1)) (.type r.2.1)=some r.2.2
theorem Txt.F {K:PySem.W.Frag}{mg:Str->Option Value}{t:Ads}(T:Txt K mg t) (n:Nat) (r:FR) (h:fR n=r:=by rfl):Fun K r.1 r.2.1 r.2.2.1 (t.a n) (t.d n):=h ▸ T.f n
theorem Txt.k {K:PySem.W.Frag}{mg:Str->Option Value}{t:Ads}(T:Txt K mg t) (n:Nat):keepIn K (.ref (t.a n))=true:=(T.f n).kp
section
variable {P:Program}{w:World}{K:PySem.W.Frag}{mg:Str->Option Value}{base:Heap}{t:Ads}
theorem ybS {n:Nat}{ck:Ck}{vs:List V}{H:Hp}{Q:VK}{E:XK}(h:spE ck n (fun _ _=>none) vs H Q E):False:=by
 obtain ⟨_,_,_,_,_,_,_,_,q,_⟩:=h
 cases q
theorem yxp {f:Addr}{fd:FuncData}{ps:List Str}{k n:Nat}{ck:Ck}:FnOk P w K mg base CX0 k f fd ps (spE ck n fun _ _=>none):=⟨fun vs H Q E h=>(ybS h).elim,fun A outer s H args us vs Q E _ _ _ _ h=>(ybS h).elim⟩
local macro_rules | `(‹($n,$i,$r,$k,$p)›)=>`(FnOk $(Lean.mkIdent `P) $(Lean.mkIdent `w) $(Lean.mkIdent `K) $(Lean.mkIdent `mg) $(Lean.mkIdent `base) CX0 $n ($(Lean.mkIdent `t).a $i) ($(Lean.mkIdent `t).d $i) (FR.ps $r) (spE (ykW $(Lean.mkIdent `K) $(Lean.mkIdent `t)) $k $p))
structure yFe (P:Program) (w:World) (K:PySem.W.Frag) (mg:Str->Option Value) (base:Heap) (t:Ads) (n:Nat):Prop where
 yhn:‹(n+1,41,r41,1,(yec n))›
 m_long:ylm P w K mg base (n+1) t.A "long" (fun k=>spE (ykW K t) 1 (yqq n k))
variable (T:Txt K mg t)
include T
theorem yho:FnOk P w K mg base CX0 (0+1) (t.a 34) (t.d 34) (FR.ps r34) (spI (ykW K t) 2 1 ydF):=zin (T.F 34 r34) (sc 34) rfl (by decide) fun cdv Ar outer sh H E hr=>(ycp (ycR (T.N 19) z_v) (yfe (ycR (T.N 20) z_v)))
theorem ygs:FnOk P w K mg base CX0 (0+1) (t.a 35) (t.d 35) (FR.ps r35) (spI (ykW K t) 2 3 ydo):=zin (T.F 35 r35) (sc 35) rfl (by decide) fun cdv Ar outer sh H E hr=>(ycp (ycR (T.N 19) z_v) (yfe (ycR (T.N 21) z_v)))
theorem yhp:FnOk P w K mg base CX0 (0+1) (t.a 36) (t.d 36) (FR.ps r36) (spI (ykW K t) 2 4 ydG):=zin (T.F 36 r36) (sc 36) rfl (by decide) fun cdv Ar outer sh H E hr=>(ycp (ycR (T.N 21) z_v) (yfe (ycR (T.N 19) z_v)))
theorem ymf:‹(0+1,37,r37,1,yih)›:=zfn (T.F 37 r37) (sc 37) fun cdv Ar outer sh H E hr=>(yd (yj yh))
theorem ykG:‹(0+1,38,r38,1,yhd)›:=zfn (T.F 38 r38) (sc 38) fun cdv Ar outer sh H E hr=>(yd (yj yh))
theorem ymg:‹(0+1,39,r39,1,yii)›:=zfn (T.F 39 r39) (sc 39) fun cdv Ar outer sh H E hr=>(yd (yj yh))
theorem ykH:‹(0+1,40,r40,1,yhe)›:=zfn (T.F 40 r40) (sc 40) fun cdv Ar outer sh H E hr=>(yd (yj yh))
theorem yri:∀ n,yFe P w K mg base t n
 | 0=>⟨yxp,fun c=>⟨T.cl c,.inl fun _ _ _ _ h=>ybS h⟩⟩
 | n+1=>by
  have I:=yri n
  have yxq:=I.yhn
  have G_long:=I.m_long
  exact ⟨zfn (T.F 41 r41) (sc 41) fun cdv Ar outer sh H E hr=>(yd (yj (ydu (yrH rfl) yCf (T.Z 12) (ya (ycX (ygg [] (ydm z_v) (fun _ _ _ _ _ _=>(ywu z_v G_long)))) ye)))),
   fun c=>⟨T.cl c,match c with|0=>.inl fun _ _ _ _ h=>ybS h|1=>.inr ⟨_,_,_,(T.M 0),(ymf T).mono (by omega),(T.b 37)⟩|2=>.inl fun _ _ _ _ h=>ybS h|3=>.inr ⟨_,_,_,(T.M 1),(ykG T).mono (by omega),(T.b 38)⟩|4=>.inr ⟨_,_,_,(T.M 2),(ymg T).mono (by omega),(T.b 39)⟩|5=>.inl fun _ _ _ _ h=>ybS h|6=>.inl fun _ _ _ _ h=>ybS h|7=>.inl fun _ _ _ _ h=>ybS h|8=>.inl fun _ _ _ _ h=>ybS h|9=>.inr ⟨_,_,_,(T.M 3),(ykH T).mono (by omega),(T.b 40)⟩|10=>.inl fun _ _ _ _ h=>ybS h|11=>.inl fun _ _ _ _ h=>ybS h|12=>.inl fun _ _ _ _ h=>ybS h|13=>.inl fun _ _ _ _ h=>ybS h|14=>.inl fun _ _ _ _ h=>ybS h|15=>.inl fun _ _ _ _ h=>ybS h|c+16=>.inl fun _ _ _ _ h=>ybS h⟩⟩
theorem yjl:‹(0+1,42,r42,1,ygh)›:=zfn (T.F 42 r42) (sc 42) fun cdv Ar outer sh H E hr=>(yc (yD (ybp (ydu yM (yfa (K:=ckX _ _) T.isa) (T.Z 5) (ya z_v (ya (yfA (T.C 1)) ye)))) (yd (yj (ycX (ycP (ya (ycQ (ya yn (ya (yC (T.N 19) z_v) (ya (yC (T.N 20) z_v) ye)))) ye))))) yl) (yc (yD (ybp (ydu yM (yfa (K:=ckX _ _) T.isa) (T.Z 5) (ya z_v (ya (yfA (T.C 2)) ye)))) (yd yx) yl) (yc (yD (ybp (ydu yM (yfa (K:=ckX _ _) T.isa) (T.Z 5) (ya z_v (ya (yfA (T.C 3)) ye)))) (yd (yj (ycX (ycP (ya (ycQ (ya yn (ya (yC (T.N 19) z_v) (ya (yC (T.N 21) z_v) ye)))) ye))))) yl) (yc (yD (ybp (ydu yM (yfa (K:=ckX _ _) T.isa) (T.Z 5) (ya z_v (ya (yfA (T.C 4)) ye)))) (yd (yj (ycX (ycP (ya (ycQ (ya yn (ya (yC (T.N 21) z_v) (ya (yC (T.N 19) z_v) ye)))) ye))))) yl) (yc (yD (ybp (ydu yM (yfa (K:=ckX _ _) T.isa) (T.Z 5) (ya z_v (ya (yfA (T.C 8)) ye)))) (yd yx) yl) (yc (yD (ybp (ydu yM (yfa (K:=ckX _ _) T.isa) (T.Z 5) (ya z_v (ya (yfA (T.C 9)) ye)))) (yd (yj (ycX (ycP (ya (ycQ (ya yn ye)) ye))))) yl) (yd (yj (ycX (ycP ye))))))))))
theorem ykI:‹(1+1,43,r43,2,yfh)›:=zfn (T.F 43 r43) (sc 43) fun cdv Ar outer sh H E hr=>(yc (yD (yhC (yeO (ybp (ydu yM (yfa (K:=ckX _ _) T.isa) (T.Z 5) (ya z_v (ya (yfA (T.C 5)) ye)))) (yeO (ybp (ydu yM (yfa (K:=ckX _ _) T.isa) (T.Z 5) (ya z_v (ya (yfA (T.C 6)) ye)))) (ydt (ybp (ydu yM (yfa (K:=ckX _ _) T.isa) (T.Z 5) (ya z_v (ya (yfA (T.C 7)) ye)))))))) (yd yx) yl) (yd (yj (yR (yjl T) (T.G 8) (T.k 42) (T.b 42) (ya z_v ye)))))
theorem ykJ:‹(2+1,44,r44,2,yed)›:=zfn (T.F 44 r44) (sc 44) fun cdv Ar outer sh H E hr=>have nd:=(sc 44 (r:=r44)).nd;(yc (ylN (ycP ye)) (yc (yie (ydm z_v) yev (yd (yzI (yR (ykI T) (T.G 9) (T.k 43) (T.b 43) (ya z_v (ya (yco ydj yeZ z_v (yzJ (T.Z 6))) ye)))))) (ylO (yd (yj z_v)))))
theorem yoh:‹(3+1,45,r45,1,ydM)›:=zfn (T.F 45 r45) (sc 45) fun cdv Ar outer sh H E hr=>(yd (yj (ycX (yqa yyn yCe (yR (ykJ T) (T.G 10) (T.k 44) (T.b 44) (ya z_v (ya yh ye))) (ycX (ycP (ya (ycQ (ya yn ye)) ye)))))))
theorem yjm:‹(0+1,8,r8,2,ydw)›:=zfn (T.F 8 r8) (sc 8) fun cdv Ar outer sh H E hr=>(yd (yj (ydu (yms rfl) yyR (T.Z 1) (ya (ycX (ygg ["signs"] (yzG z_v) (fun _ _ _ _ _ _=>(yfd yjH yyM z_v z_v)))) ye))))
theorem ykK:‹(1+1,9,r9,1,yea)›:=zfn (T.F 9 r9) (sc 9) fun cdv Ar outer sh H E hr=>have nd:=(sc 9 (r:=r9)).nd;(yc (yD (yhC (yeO (ycF (yeH yhD yhD yrk yrk yh (ydu yep ypx (T.Z 6) (ya z_v ye)) yh)) (ydt (ycF (ybp (yR (yjm T) (T.G 2) (T.k 8) (T.b 8) (ya z_v (ya (ymQ T.m_FIGURES) ye)))))))) (yd (yj ygo)) yl) (yc (yD (yhC (yeT (yq yL ycd (ybD yyk yCc z_v yh) yn) (yeu (yq yjv yuc z_v yn)))) (yd (yj ygo)) yl) (yc (yz (ysQ yjI yyP (T.Z 4) (ya z_v ye))) (yd (yj (ywr (yq yjw yub z_v (ygX T.m_WIDE)) z_v ygo))))))
theorem yoi:‹(0+1,10,r10,1,yfE)›:=zfn (T.F 10 r10) (sc 10) fun cdv Ar outer sh H E hr=>(yd (yj (yiR (yfd yL ycd (ydu yep ypx (T.Z 6) (ya z_v ye)) yh) (ylM (yfd yjH yyM z_v (ymQ T.m_SLOTS))))))
theorem yfk:‹(0+1,6,r6,1,ybt)›:=zfn (T.F 6 r6) (sc 6) fun cdv Ar outer sh H E hr=>(yd (yj (yiR (ydu yM (yfa (K:=ckX _ _) T.isa) (T.Z 5) (ya z_v (ya (ynR (T.Z 4)) ye))) (ylM (ysP (ydu yM (yfa (K:=ckX _ _) T.isa) (T.Z 5) (ya z_v (ya (ynR (T.Z 3)) ye))))))))
theorem ykL:‹(1+1,7,r7,1,ycH)›:=zfn (T.F 7 r7) (sc 7) fun cdv Ar outer sh H E hr=>(yd (yj (yiR (yR (yfk T) (T.G 0) (T.k 6) (T.b 6) (ya z_v ye)) (ylM (ywq yhD yjw yrk yub yh z_v (ygX T.m_WIDE))))))
theorem yfH:FnOk P w K mg base CX0 (0+1) (t.a 46) (t.d 46) (FR.ps r46) (spI (ykW K t) 1 10 ycJ):=zin (T.F 46 r46) (sc 46) rfl (by decide) fun cdv Ar outer sh H E hr=>(ycp (ycR (T.N 18) (ycX (ydv yE ybH (T.Z 7) (ya z_v ye)))) (yfe (ycR (T.N 6) yh)))
theorem ymh:‹(0+1,47,r47,1,yeJ)›:=zfn (T.F 47 r47) (sc 47) fun cdv Ar outer sh H E hr=>(yc (yD (yq yL ycd z_v yn) (yd (yj (ycX (ycP ye)))) yl) (yd (yj (yDb PySem.F.plainAttrs_str PySem.F.slot_str_split PySem.F.type_str_split ysZ m_split z_v (ya yn ye)))))
theorem ybN:‹(0+1,48,r48,1,yP)›:=zfn (T.F 48 r48) (sc 48) fun cdv Ar outer sh H E hr=>(yc (yD (yq yjw yub (yC (T.N 6) z_v) (ydu yB ycZ (T.Z 6) (ya (yC (T.N 18) z_v) ye))) (yd (yj (ybD yJ ybV (yC (T.N 18) z_v) (yC (T.N 6) z_v)))) yl) (yd (yj ygo)))
theorem ycA:‹(1+1,49,r49,1,ybo)›:=zfn (T.F 49 r49) (sc 49) fun cdv Ar outer sh H E hr=>have nd:=(sc 49 (r:=r49)).nd;(yc (yz (yt z_v (T.M 53) (ybN T) (T.b 48))) (yc (yD (yq ymm ysg z_v ygo) (yd yx) yl) (yc (ybA (T.N 6) z_v (yco ydj yeZ (yC (T.N 6) z_v) yh)) (yd (yj z_v)))))
theorem yfl:‹(2+1,50,r50,2,ybJ)›:=zfn (T.F 50 r50) (sc 50) fun cdv Ar outer sh H E hr=>have nd:=(sc 50 (r:=r50)).nd;(yc (yz (yt z_v (T.M 54) (ycA T) (T.b 49))) (yd (yD (yq yjv yuc z_v z_v) (yd yx) yl)))
theorem yZ:‹(2+1,51,r51,1,yF)›:=zfn (T.F 51 r51) (sc 51) fun cdv Ar outer sh H E hr=>have nd:=(sc 51 (r:=r51)).nd;(yc (yz (yt z_v (T.M 54) (ycA T) (T.b 49))) (yc (yD (ycF (ybp (yR (yoi T) (T.G 4) (T.k 10) (T.b 10) (ya z_v ye)))) (yd yx) yl) (yd (yj z_v))))
theorem yem:‹(2+1,52,r52,1,ybl)›:=zfn (T.F 52 r52) (sc 52) fun cdv Ar outer sh H E hr=>have nd:=(sc 52 (r:=r52)).nd;(yc (yz (yt z_v (T.M 54) (ycA T) (T.b 49))) (yc (yz (yR (ykK T) (T.G 3) (T.k 9) (T.b 9) (ya z_v ye))) (yc (yD (yq ymm ysg z_v ygo) (yd yx) yl) (yd (yj z_v)))))
theorem yeA:‹(3+1,53,r53,2,ybq)›:=zfn (T.F 53 r53) (sc 53) fun cdv Ar outer sh H E hr=>have nd:=(sc 53 (r:=r53)).nd;(yc (yD (yq yL ycd z_v yn) (yc (yz (yt z_v (T.M 56) (yZ T) (T.b 51))) (yd (yj (ycX (ykq (T.J 0) (yho T) (T.C 1) (T.b 34) (ya z_v (ya (yt z_v (T.M 57) (yem T) (T.b 52)) ye))))))) yl) (yc (yD (yq yL ycd z_v yn) (yc (yz (yt z_v (T.M 56) (yZ T) (T.b 51))) (yd (yj (ycX (ykq (T.J 1) (ygs T) (T.C 3) (T.b 35) (ya z_v (ya (yt z_v (T.M 56) (yZ T) (T.b 51)) ye))))))) yl) (yc (yD (yq yL ycd z_v yn) (yc (yz (yt z_v (T.M 56) (yZ T) (T.b 51))) (yd (yj (ycX (ykq (T.J 2) (yhp T) (T.C 4) (T.b 36) (ya z_v (ya (yt z_v (T.M 56) (yZ T) (T.b 51)) ye))))))) yl) (yc (yD (yq yL ycd z_v yn) (yc yx (yd yx)) yl) (yc (yD (yq yL ycd z_v yn) (yd (yj (ycX (ywt T.mk_Wait T.io_Wait T.kp_Wait (T.C 9))))) yl) (yc yx (yd yx)))))))
theorem ydb:‹(4+1,54,r54,2,ybf)›:=zfn (T.F 54 r54) (sc 54) fun cdv Ar outer sh H E hr=>have nd:=(sc 54 (r:=r54)).nd;(yc (yD (yq yoJ yyI z_v (ygX T.m_MOST_AROUND)) (yd yx) yl) (yc (yz (yt z_v (T.M 54) (ycA T) (T.b 49))) (yc (yD (yq yL ycd z_v yn) (yd yx) yl) (yc (yD (yq yL ycd z_v yn) (yd yx) yl) (yc (yD (yq yL ycd z_v yn) (yd yx) yl) (yd (yj (yA z_v (T.M 60) (yeA T) (T.b 53) (ya z_v ye)))))))))
theorem yeR:‹(5+1,55,r55,2,ybC)›:=zfn (T.F 55 r55) (sc 55) fun cdv Ar outer sh H E hr=>have nd:=(sc 55 (r:=r55)).nd;(yc (yD (yhC (yeO (yq ymm ysg (yt z_v (T.M 53) (ybN T) (T.b 48)) ygo) (ydt (yq yL ycd (yt z_v (T.M 53) (ybN T) (T.b 48)) yn)))) (yd (yj (ycX (ycP ye)))) yl) (yc (ylN (ycP (ya (yA z_v (T.M 59) (ydb T) (T.b 54) (ya z_v ye)) ye))) (yc (ymR (yq yL ycd (yt z_v (T.M 53) (ybN T) (T.b 48)) yn) (yc (ybz (yA z_v (T.M 55) (yfl T) (T.b 50) (ya yn ye))) (yd (yut (yA z_v (T.M 59) (ydb T) (T.b 54) (ya z_v ye)))))) (ylO (yd (yj z_v))))))
theorem yxr:‹(46+1,56,r56,1,yij)›:=zfn (T.F 56 r56) (sc 56) fun cdv Ar outer sh H E hr=>have nd:=(sc 56 (r:=r56)).nd;(yc (yz (yet (ykq (T.J 3) (yfH T) (T.C 10) (T.b 46) (ya (yR (ymh T) (T.G 12) (T.k 47) (T.b 47) (ya z_v ye)) ye)))) (yc (yz (yA z_v (T.M 58) (yeR T) (T.b 55) (ya yh ye))) (yc (yD (yq yuY yyK (yt z_v (T.M 53) (ybN T) (T.b 48)) ygo) (yd yx) yl) (yc (yD (yq yoJ yyI (yco ydj yeZ (yR (yri T 45).yhn (T.G 7) (T.k 41) (T.b 41) (ya z_v ye)) yh) (ygX T.m_MOST_ROWS)) (yd yx) yl) (yd (yj z_v))))))
theorem yhq:FnOk P w K mg base CX0 (0+1) (t.a 0) (t.d 0) (FR.ps r0) (spI (ykW K t) 0 11 yeU):=zin (T.F 0 r0) (sc 0) rfl (by decide) fun cdv Ar outer sh H E hr=>(ycp (ycR (T.N 0) (yet (ycP (ya (yet yqb) ye)))) (yfe (ycR (T.N 1) (yet yqb))))
theorem ykM:‹(0+1,1,r1,3,ydY)›:=zfn (T.F 1 r1) (sc 1) fun cdv Ar outer sh H E hr=>have nd:=(sc 1 (r:=r1)).nd;(yc (yz (ybD yJ ybV (yC (T.N 0) z_v) (yEk ytL yyJ yh))) (yd (yff z_v z_v z_v)))
theorem yoj:‹(0+1,2,r2,2,yew)›:=zfn (T.F 2 r2) (sc 2) fun cdv Ar outer sh H E hr=>have nd:=(sc 2 (r:=r2)).nd;(yc (ywA (T.Z 9) (yC (T.N 0) z_v) yev (yd (yD (yzH z_v z_v) (yd (yj (ybk z_v z_v))) yl))) (yd (yj ygo)))
theorem yok:‹(0+1,3,r3,3,yfD)›:=zfn (T.F 3 r3) (sc 3) fun cdv Ar outer sh H E hr=>(yd (yff (yC (T.N 1) z_v) z_v z_v))
theorem ygb:‹(0+1,4,r4,1,yex)›:=zfn (T.F 4 r4) (sc 4) fun cdv Ar outer sh H E hr=>(yd (yj (ycX (PXS.z_sortI (yC (T.N 1) z_v) (T.Z 10)))))
theorem ykN:‹(0+1,5,r5,1,ydZ)›:=zfn (T.F 5 r5) (sc 5) fun cdv Ar outer sh H E hr=>have nd:=(sc 5 (r:=r5)).nd;(yc (yz (ybD yJ ybV (yC (T.N 0) z_v) yh)) (yd (yj (ycX (PXS.z_sortI z_v (T.Z 10))))))
theorem yfI:‹(0+1,11,r11,1,ydx)›:=zfn (T.F 11 r11) (sc 11) fun cdv Ar outer sh H E hr=>(yd (yj (yDb PySem.F.plainAttrs_str PySem.F.slot_str_find PySem.F.type_str_find ywD ysj (ymQ T.m_SLOTS) (ya z_v ye))))
theorem yeB:‹(1+1,13,r13,2,ybW)›:=zfn (T.F 13 r13) (sc 13) fun cdv Ar outer sh H E hr=>(yd (yj (ybD yJ ybV (yC (T.N 2) z_v) (yR (yfI T) (T.G 5) (T.k 11) (T.b 11) (ya z_v ye)))))
theorem ygl:‹(1+1,14,r14,3,ycI)›:=zfn (T.F 14 r14) (sc 14) fun cdv Ar outer sh H E hr=>(yd (ygY z_v (yC (T.N 2) z_v) (yR (yfI T) (T.G 5) (T.k 11) (T.b 11) (ya z_v ye))))
theorem ycO:‹(2+1,15,r15,2,ybB)›:=zfn (T.F 15 r15) (sc 15) fun cdv Ar outer sh H E hr=>(yd (yj (yco ycl ydU (yA z_v (T.M 9) (yeB T) (T.b 13) (ya z_v ye)) (yC (T.N 3) z_v))))
theorem ygt:FnOk P w K mg base CX0 (2+1) (t.a 12) (t.d 12) (FR.ps r12) (spJ (ykW K t) 2 12 yey):=yEI (T.F 12 r12) (sc 12) rfl (by decide) fun cdv Ar outer sh H E hr=>(ycp (ycR (T.N 2) (yet (ydv yE ybH (T.Z 7) (ya z_v ye)))) (ycp (ycR (T.N 3) z_v) (yfe (ycR (T.N 4) (yet (ywB (T.J 4) (yhq T) (T.C 11) (T.b 0)))))))
theorem yhN:‹(3+1,16,r16,3,ycs)›:=zfn (T.F 16 r16) (sc 16) fun cdv Ar outer sh H E hr=>(yd (ybz (yA (yC (T.N 4) z_v) (T.M 4) (ykM T) (T.b 1) (ya (yA z_v (T.M 11) (ycO T) (T.b 15) (ya z_v ye)) (ya (yA z_v (T.M 9) (yeB T) (T.b 13) (ya z_v ye)) ye)))))
theorem yhr:‹(3+1,17,r17,2,ycK)›:=zfn (T.F 17 r17) (sc 17) fun cdv Ar outer sh H E hr=>(yd (yj (yfd ymm ysg (yA (yC (T.N 4) z_v) (T.M 5) (yoj T) (T.b 2) (ya (yA z_v (T.M 11) (ycO T) (T.b 15) (ya z_v ye)) ye)) ygo)))
theorem ygc:‹(3+1,18,r18,4,ycb)›:=zfn (T.F 18 r18) (sc 18) fun cdv Ar outer sh H E hr=>have nd:=(sc 18 (r:=r18)).nd;(yc (yz (yA z_v (T.M 11) (ycO T) (T.b 15) (ya z_v ye))) (yc (ybz (yA (yC (T.N 4) z_v) (T.M 6) (yok T) (T.b 3) (ya z_v (ya (ybD yJ ybV z_v z_v) ye)))) (yd (ybz (yA z_v (T.M 10) (ygl T) (T.b 14) (ya z_v (ya (ybD yJ ybV z_v z_v) ye)))))))
theorem ytF:‹(0+1,22,r22,2,yqp)›:=zfn (T.F 22 r22) (sc 22) fun cdv Ar outer sh H E hr=>(yc (yD (yq yL ycd (ybD yI ybj z_v yh) yn) (yd (yj (yfd yL ycd (ybD yI ybj z_v yh) yn))) yl) (yd (yj (yiR (yfd yL ycd (ybD yI ybj z_v yh) yn) (ylM (yfd yL ycd (ybD yI ybj z_v yh) (ybD yI ybj z_v yh)))))))
theorem yhs:FnOk P w K mg base CX0 (4+1) (t.a 19) (t.d 19) (FR.ps r19) (spI (ykW K t) 3 12 ydE):=zin (T.F 19 r19) (sc 19) rfl (by decide) fun cdv Ar outer sh H E hr=>(ycp (ywF T.cf_Doer (T.C 13) (ygt T) (T.b 12) (ya z_v (ya z_v ye))) (ycp (ycR (T.N 5) z_v) (ycp (ycR (T.N 6) yh) (ycp (ycR (T.N 7) (yet yqb)) (yfe (ycR (T.N 8) (yet (ycP ye))))))))
theorem yeN:‹(0+1,20,r20,1,ydn)›:=zfn (T.F 20 r20) (sc 20) fun cdv Ar outer sh H E hr=>(yd (yj (ybD yJ ybV (yC (T.N 5) z_v) (yC (T.N 6) z_v))))
theorem yeC:‹(0+1,21,r21,2,ybX)›:=zfn (T.F 21 r21) (sc 21) fun cdv Ar outer sh H E hr=>(yd (yj (ydu (ymZ rfl) yzD (T.Z 2) (ya (ycX (ywH ["stamps","self"] (yC (T.N 7) z_v) (fun _ _ _ _ _ _=>(yfd yjv yuc (ybD yJ ybV z_v z_v) (ybk (yC (T.N 7) z_v) z_v))))) ye))))
theorem yfJ:‹(1+1,23,r23,2,ybP)›:=zfn (T.F 23 r23) (sc 23) fun cdv Ar outer sh H E hr=>have nd:=(sc 23 (r:=r23)).nd;(yc (yz (ydu yB ycZ (T.Z 6) (ya (yC (T.N 8) z_v) ye))) (yc (ymR (yhC (yeT (yq yoJ yyI z_v yh) (yeu (ycF (ybp (yR (ytF T) (T.G 6) (T.k 22) (T.b 22) (ya (ybD yI ybj (ybD yJ ybV (yC (T.N 8) z_v) (yco yhS ynG z_v yh)) yh) (ya z_v ye)))))))) (yd (yz (yco yhS ynG z_v yh)))) (yd (yj z_v))))
theorem yeD:‹(4+1,24,r24,1,yY)›:=zfn (T.F 24 r24) (sc 24) fun cdv Ar outer sh H E hr=>have nd:=(sc 24 (r:=r24)).nd;(yc (yz (yt z_v (T.M 15) (yeN T) (T.b 20))) (yc (yD (yq yL ycd (ybD yI ybj z_v yh) yn) (yd (yj (yA z_v (T.M 13) (yhr T) (T.b 17) (ya (ybD yI ybj z_v yh) ye)))) yl) (yc (yD (yhC (yeO (yq yL ycd (ybD yI ybj z_v yh) yn) (ydt (yq yL ycd (ybD yI ybj z_v yh) yn)))) (yd (yj (yfd yL ycd (yA z_v (T.M 17) (yfJ T) (T.b 23) (ya z_v ye)) yh))) yl) (yd (yj (yfd yL ycd (ybD yI ybj z_v yh) yn))))))
theorem yht:‹(4+1,25,r25,3,ycL)›:=zfn (T.F 25 r25) (sc 25) fun cdv Ar outer sh H E hr=>have nd:=(sc 25 (r:=r25)).nd;(yc (yz (yt z_v (T.M 15) (yeN T) (T.b 20))) (yc (yz (yA z_v (T.M 11) (ycO T) (T.b 15) (ya (ybD yI ybj z_v yh) ye))) (yc (yff (yC (T.N 7) z_v) z_v (ybD yJ ybV z_v z_v)) (yc (ybz (yA z_v (T.M 14) (ygc T) (T.b 18) (ya (ybD yI ybj z_v yh) (ya (ybD yI ybj z_v yh) (ya z_v ye))))) (yc (ybA (T.N 6) z_v (yco ydj yeZ (yC (T.N 6) z_v) yh)) (yd (yj z_v)))))))
theorem yhu:‹(4+1,26,r26,2,yO)›:=zfn (T.F 26 r26) (sc 26) fun cdv Ar outer sh H E hr=>(yd (yD (yq yL ycd (ybD yI ybj z_v yh) yn) (yd (ybz (yA z_v (T.M 10) (ygl T) (T.b 14) (ya (ybD yI ybj z_v yh) (ya (ybD yI ybj z_v yh) ye))))) (yd (yD (yq yL ycd (ybD yI ybj z_v yh) yn) (yd yx) (yd (yD (yq yL ycd (ybD yI ybj z_v yh) yn) (yd (ybz (yA z_v (T.M 12) (yhN T) (T.b 16) (ya (ybD yI ybj z_v yh) (ya (ybD yI ybj z_v yh) ye))))) (yd yx)))))))
theorem yrj:‹(5+1,27,r27,1,yeb)›:=zfn (T.F 27 r27) (sc 27) fun cdv Ar outer sh H E hr=>have nd:=(sc 27 (r:=r27)).nd;(yc (yz (yt z_v (T.M 15) (yeN T) (T.b 20))) (yc (ybA (T.N 6) z_v (yco ydj yeZ (yC (T.N 6) z_v) yh)) (yd (yD (yq yL ycd (ybD yI ybj z_v yh) yn) (yd yx) (yd (yD (yq yL ycd (ybD yI ybj z_v yh) yn) (yd yx) (yd (yD (yhC (yeO (yq yL ycd (ybD yI ybj z_v yh) yn) (ydt (yq yL ycd (ybD yI ybj z_v yh) yn)))) (yd yx) (yd (yD (yhC (yeO (yq yL ycd (ybD yI ybj z_v yh) yn) (ydt (yq yL ycd (ybD yI ybj z_v yh) yn)))) (yc yx (yd yx)) (yd (yD (yq yL ycd (ybD yI ybj z_v yh) yn) (yc yx (yd yx)) (yd (ybz (yA z_v (T.M 21) (yhu T) (T.b 26) (ya z_v ye))))))))))))))))
theorem ydh:‹(0+1,28,r28,1,ybL)›:=zfn (T.F 28 r28) (sc 28) fun cdv Ar outer sh H E hr=>(yc (yD (yq yL ycd (yC (T.N 10) z_v) (ydu yB ycZ (T.Z 6) (ya (yC (T.N 9) z_v) ye))) (yd (yj yn)) yl) (yd (yj (ywr (ybp (yC (T.N 11) z_v)) yn yn))))
theorem ydq:‹(6+1,29,r29,1,ybF)›:=zfn (T.F 29 r29) (sc 29) fun cdv Ar outer sh H E hr=>have nd:=(sc 29 (r:=r29)).nd;(yc (yz (ywr (yq yjw yub (yC (T.N 10) z_v) (ydu yB ycZ (T.Z 6) (ya (yC (T.N 9) z_v) ye))) (ybD yJ ybV (yC (T.N 9) z_v) (yC (T.N 10) z_v)) (ycX (ycP ye)))) (yd (yj (yet (ykq (T.J 5) (yhs T) (T.C 12) (T.b 19) (ya z_v (ya (yC (T.N 12) z_v) (ya (yC (T.N 3) z_v) ye))))))))
theorem ydA:‹(7+1,30,r30,1,ybu)›:=zfn (T.F 30 r30) (sc 30) fun cdv Ar outer sh H E hr=>(yc (ybA (T.N 11) z_v yom) (yd (ybA (T.N 13) z_v (yt z_v (T.M 23) (ydq T) (T.b 29)))))
theorem yfm:‹(0+1,31,r31,1,ybI)›:=zfn (T.F 31 r31) (sc 31) fun cdv Ar outer sh H E hr=>(yd (ybA (T.N 11) z_v yom))
theorem yjn:‹(7+1,32,r32,2,ydy)›:=zfn (T.F 32 r32) (sc 32) fun cdv Ar outer sh H E hr=>(yc (ybA (T.N 10) z_v (yco ydj yeZ (yC (T.N 10) z_v) yh)) (yc (ybA (T.N 12) z_v (ycX (ydv yE ybH (T.Z 7) (ya z_v ye)))) (yd (ybA (T.N 13) z_v (yt z_v (T.M 23) (ydq T) (T.b 29))))))
theorem ygu:‹(7+1,33,r33,3,ybe)›:=zfn (T.F 33 r33) (sc 33) fun cdv Ar outer sh H E hr=>(yc (ybA (T.N 9) z_v (ycX (ydv yE ybH (T.Z 7) (ya z_v ye)))) (yc (ybA (T.N 3) z_v z_v) (yc (ybA (T.N 10) z_v yh) (yc (ybA (T.N 11) z_v yom) (yc (ybA (T.N 12) z_v (ycX (yqa yoY yvP (ycX (ycP (ya yh ye))) (ydu yep ypx (T.Z 6) (ya (ymQ T.m_SLOTS) ye))))) (yd (ybA (T.N 13) z_v (yt z_v (T.M 23) (ydq T) (T.b 29)))))))))
theorem yhO:‹(2+1,57,r57,1,yde)›:=zfn (T.F 57 r57) (sc 57) fun cdv Ar outer sh H E hr=>(yc (yD (ycF (yeH yhD yhD yrk yrk yh (ydu yB ycZ (T.Z 6) (ya z_v ye)) (ygX T.m_MOST_BOXES))) (yd yx) yl) (yd (yD (ycF (ybp (ydu (yms rfl) yyR (T.Z 1) (ya (ycX (ygg [] (ydm z_v) (fun _ _ _ _ _ _=>(yR (ykL T) (T.G 1) (T.k 7) (T.b 7) (ya z_v ye))))) ye)))) (yd yx) yl)))
theorem ygv:‹(47+1,58,r58,1,ybg)›:=zfn (T.F 58 r58) (sc 58) fun cdv Ar outer sh H E hr=>(yd (yj (ycX (ygg [] (ydm z_v) (fun _ _ _ _ _ _=>(yR (yoh T) (T.G 11) (T.k 45) (T.b 45) (ya (yR (yxr T) (T.G 13) (T.k 56) (T.b 56) (ya z_v ye)) ye)))))))
theorem ygw:‹(48+1,59,r59,1,ybM)›:=zfn (T.F 59 r59) (sc 59) fun cdv Ar outer sh H E hr=>(yc (yD (ycF (yeH yhD yhD yrk yrk yh (ydu yB ycZ (T.Z 6) (ya z_v ye)) (ygX T.m_MOST_HANDS))) (yd yx) yl) (yc (yD (ybp (ydu (ymZ rfl) yzD (T.Z 2) (ya (ycX (ygg [] (ydm z_v) (fun _ _ _ _ _ _=>(yfd yoJ yyI (ydu yB ycZ (T.Z 6) (ya z_v ye)) (ygX T.m_MOST_DEEDS))))) ye))) (yd yx) yl) (yd (yj (ycX (ygg [] (ydm z_v) (fun _ _ _ _ _ _=>(yR (ygv T) (T.G 15) (T.k 58) (T.b 58) (ya z_v ye)))))))))
theorem ygx:‹(49+1,60,r60,3,yct)›:=zfn (T.F 60 r60) (sc 60) fun cdv Ar outer sh H E hr=>(yc (ybz (yR (yhO T) (T.G 14) (T.k 57) (T.b 57) (ya z_v ye))) (yc (ybA (T.N 14) z_v (yet (ydv yE ybH (T.Z 7) (ya z_v ye)))) (yc (ybA (T.N 15) z_v (yet (yqa yoY yvP (ycX (ycP (ya yh ye))) (ydu yB ycZ (T.Z 6) (ya z_v ye))))) (yc (ybA (T.N 16) z_v (yet (ygg ["boxes"] (ydm (yR (ygw T) (T.G 16) (T.k 59) (T.b 59) (ya z_v ye))) (fun _ _ _ _ _ _=>(yql (T.J 7) (ygu T) (T.C 14) (T.b 33) (ya z_v (ya (ydu yB ycZ (T.Z 6) (ya z_v ye)) ye))))))) (yd (ybA (T.N 17) z_v (yet (ycP ye))))))))
theorem yfK:‹(0+1,61,r61,1,ycS)›:=zfn (T.F 61 r61) (sc 61) fun cdv Ar outer sh H E hr=>(yd (yj (ycX (ydv yE ybH (T.Z 7) (ya (yC (T.N 14) z_v) ye)))))
theorem yeW:‹(0+1,62,r62,1,ycu)›:=zfn (T.F 62 r62) (sc 62) fun cdv Ar outer sh H E hr=>(yd (yj (ycX (ydv yE ybH (T.Z 7) (ya (yC (T.N 15) z_v) ye)))))
theorem yjo:‹(0+1,68,r68,1,ydz)›:=zfn (T.F 68 r68) (sc 68) fun cdv Ar outer sh H E hr=>(yd (yj (ydu yB ycZ (T.Z 6) (ya (yC (T.N 16) z_v) ye))))
theorem ybO:‹(1+1,63,r63,2,yU)›:=zfn (T.F 63 r63) (sc 63) fun cdv Ar outer sh H E hr=>(yc (yD (yhC (yeO (ycF (ybp (yR (yfk T) (T.G 0) (T.k 6) (T.b 6) (ya z_v ye)))) (ydt (ycF (yeH yhD yjw yrk yub yh z_v (ydu yB ycZ (T.Z 6) (ya (yC (T.N 16) z_v) ye))))))) (yd yx) yl) (yd (yj (ybD yJ ybV (yC (T.N 16) z_v) z_v))))
theorem yfL:‹(2+1,64,r64,2,ych)›:=zfn (T.F 64 r64) (sc 64) fun cdv Ar outer sh H E hr=>(yd (yj (yt (yA z_v (T.M 30) (ybO T) (T.b 63) (ya z_v ye)) (T.M 22) (ydh T) (T.b 28))))
theorem yfM:‹(2+1,65,r65,2,yci)›:=zfn (T.F 65 r65) (sc 65) fun cdv Ar outer sh H E hr=>(yd (yj (yC (T.N 10) (yA z_v (T.M 30) (ybO T) (T.b 63) (ya z_v ye)))))
theorem yjp:‹(2+1,66,r66,2,ycT)›:=zfn (T.F 66 r66) (sc 66) fun cdv Ar outer sh H E hr=>(yd (yj (ycX (ydv yE ybH (T.Z 7) (ya (yC (T.N 2) (yC (T.N 13) (yA z_v (T.M 30) (ybO T) (T.b 63) (ya z_v ye)))) ye)))))
theorem ymi:‹(2+1,67,r67,2,ydN)›:=zfn (T.F 67 r67) (sc 67) fun cdv Ar outer sh H E hr=>(yd (yj (yt (yC (T.N 4) (yC (T.N 13) (yA z_v (T.M 30) (ybO T) (T.b 63) (ya z_v ye)))) (T.M 7) (ygb T) (T.b 4))))
theorem yhv:‹(0+1,69,r69,1,ycM)›:=zfn (T.F 69 r69) (sc 69) fun cdv Ar outer sh H E hr=>(yd (yj (ycX (ywG [] (yC (T.N 17) z_v) (fun _ _ _ _ _ _=>(ycQ (ya (ybD yI ybj z_v yh) (ya (ybD yI ybj z_v yh) (ya (ybD yI ybj z_v yh) (ya (ycX (ydv yE ybH (T.Z 7) (ya (ybD yI ybj z_v yh) ye))) (ya (ycX (ydv yE ybH (T.Z 7) (ya (ybD yI ybj z_v yh) ye))) (ya (ycX (ydv yE ybH (T.Z 7) (ya (ybD yI ybj z_v yh) ye))) ye))))))))))))
theorem yfN:‹(8+1,70,r70,1,ybc)›:=zfn (T.F 70 r70) (sc 70) fun cdv Ar outer sh H E hr=>have nd:=(sc 70 (r:=r70)).nd;(yd (ywz (yC (T.N 16) z_v) yev (yd (yD (yhC (yeT (yq yL ycd (yt z_v (T.M 22) (ydh T) (T.b 28)) yn) (yeu (ybp (yA (yC (T.N 13) z_v) (T.M 16) (yeC T) (T.b 21) (ya (yC (T.N 15) z_v) ye)))))) (yd (ybz (yt z_v (T.M 24) (ydA T) (T.b 30)))) yl))))
theorem ygy:‹(8+1,71,r71,5,ycv)›:=zfn (T.F 71 r71) (sc 71) fun cdv Ar outer sh H E hr=>have nd:=(sc 71 (r:=r71)).nd;(yc (yz (ybD yJ ybV (yC (T.N 16) z_v) z_v)) (yc (ybz (yDb plainAttrs_list PySem.F.slot_list_append PySem.F.type_list_append yfp yzt (yC (T.N 17) z_v) (ya (ycQ (ya z_v (ya (yC (T.N 10) z_v) (ya z_v (ya (yt (yC (T.N 4) (yC (T.N 13) z_v)) (T.M 7) (ygb T) (T.b 4)) (ya z_v (ya (ycX (ydv yE ybH (T.Z 7) (ya z_v ye))) ye))))))) ye))) (yd (ybz (yA z_v (T.M 26) (yjn T) (T.b 32) (ya z_v ye))))))
theorem ygz:‹(9+1,72,r72,2,ycw)›:=zfn (T.F 72 r72) (sc 72) fun cdv Ar outer sh H E hr=>have nd:=(sc 72 (r:=r72)).nd;(yc (yz (yC (T.N 13) (ybD yJ ybV (yC (T.N 16) z_v) z_v))) (yc (yz (yt (yC (T.N 4) z_v) (T.M 8) (ykN T) (T.b 5))) (yc (yie (ydm z_v) yev (yc (yz (ybD yI ybj z_v yh)) (yc (ygY (ybD yI ybj z_v yh) (yC (T.N 14) z_v) z_v) (yd (ygY (yco ydj yeZ (ybD yJ ybV (yC (T.N 15) z_v) z_v) yh) (yC (T.N 15) z_v) z_v))))) (yc (ybz (yA z_v (T.M 37) (ygy T) (T.b 71) (ya z_v (ya (ycQ (ya yn ye)) (ya z_v (ya (yC (T.N 2) z_v) ye)))))) (yd (ybz (yt z_v (T.M 36) (yfN T) (T.b 70))))))))
theorem ydP:‹(10+1,73,r73,3,yH)›:=zfn (T.F 73 r73) (sc 73) fun cdv Ar outer sh H E hr=>have nd:=(sc 73 (r:=r73)).nd;(yc (yz (ybD yJ ybV (yC (T.N 16) z_v) z_v)) (yc (yz (yt (yC (T.N 13) z_v) (T.M 15) (yeN T) (T.b 20))) (yc (yD (yq yL ycd (ybD yI ybj z_v yh) yn) (yc (yz (yA (yC (T.N 13) z_v) (T.M 19) (yht T) (T.b 25) (ya (yC (T.N 14) z_v) (ya (yC (T.N 15) z_v) ye)))) (yd (yj (ycQ (ya yn (ya z_v (ya z_v (ya (ybD yJ ybV (yC (T.N 14) z_v) z_v) ye)))))))) yl) (yc (yD (yq yL ycd (ybD yI ybj z_v yh) yn) (yc (ybz (yt z_v (T.M 25) (yfm T) (T.b 31))) (yd (yj (ycQ (ya yn (ya z_v ye)))))) yl) (yc (yD (yq yL ycd (ybD yI ybj z_v yh) yn) (yc yx (yd yx)) yl) (yc (ybz (yA z_v (T.M 38) (ygz T) (T.b 72) (ya z_v ye))) (yd (yj (ycQ (ya yn (ya z_v ye)))))))))))
theorem ykO:‹(11+1,74,r74,2,yv)›:=zfn (T.F 74 r74) (sc 74) fun cdv Ar outer sh H E hr=>have nd:=(sc 74 (r:=r74)).nd;(yc (yz (yA z_v (T.M 30) (ybO T) (T.b 63) (ya z_v ye))) (yc (yD (yq yjv yuc (yt z_v (T.M 22) (ydh T) (T.b 28)) yn) (yd (yj (ycQ (ya yn ye)))) yl) (yc (yz (yC (T.N 6) (yC (T.N 13) z_v))) (yc (yD (ycF (ybp (yt (yC (T.N 13) z_v) (T.M 18) (yeD T) (T.b 24)))) (yc (ybz (yt (yC (T.N 13) z_v) (T.M 20) (yrj T) (T.b 27))) (yd (yj (ycQ (ya yn (ya z_v ye)))))) yl) (yc (yD (ybp (yA (yC (T.N 13) z_v) (T.M 16) (yeC T) (T.b 21) (ya (yC (T.N 15) z_v) ye))) (yc (ybz (yt z_v (T.M 24) (ydA T) (T.b 30))) (yd (yj (ycQ (ya yn (ya z_v ye)))))) yl) (yd (yj (yA z_v (T.M 39) (ydP T) (T.b 73) (ya z_v (ya z_v ye))))))))))
theorem ybv:FnOk P w K mg base (CXr P w) (1+1) (t.a 75) (t.d 75) (FR.ps r75) (spR (ykW K t) 2 yK):=yfn (T.F 75 r75) (sc 75) fun cdv Ar outer sh H E hr=>(ykt (yhC (yeO (ycF (ybp (yR (yfk T) (T.G 0) (T.k 6) (T.b 6) (ya z_v ye)))) (ydt (ycF (yeH yhD yjw yrk yub yh z_v (ydu yB ycZ (T.Z 6) (ya (yC (T.N 16) z_v) ye))))))) (ycq (yta T.x_NoHand T.m_NoHand yn)) yzP)
theorem yhP:FnOk P w K mg base (CXr P w) (2+1) (t.a 76) (t.d 76) (FR.ps r76) (spR (ykW K t) 2 yee):=yfn (T.F 76 r76) (sc 76) fun cdv Ar outer sh H E hr=>have nd:=(sc 76 (r:=r76)).nd;(ycq (yzN (i:=2) (ydD z_v (T.M 47) (ybv T) (T.b 75) (ya z_v ye))))
theorem yhw:FnOk P w K mg base (CXr P w) (2+1) (t.a 77) (t.d 77) (FR.ps r77) (spR (ykW K t) 2 ydH):=yfn (T.F 77 r77) (sc 77) fun cdv Ar outer sh H E hr=>(ycq (yfC (yqn (ydD z_v (T.M 47) (ybv T) (T.b 75) (ya z_v ye)) (T.M 22) (ydh T) (T.b 28))))
theorem yhx:FnOk P w K mg base (CXr P w) (2+1) (t.a 78) (t.d 78) (FR.ps r78) (spR (ykW K t) 2 ydI):=yfn (T.F 78 r78) (sc 78) fun cdv Ar outer sh H E hr=>(ycq (yfC (yqm (ydD z_v (T.M 47) (ybv T) (T.b 75) (ya z_v ye)))))
theorem yhy:FnOk P w K mg base (CXr P w) (2+1) (t.a 79) (t.d 79) (FR.ps r79) (spR (ykW K t) 2 ydJ):=yfn (T.F 79 r79) (sc 79) fun cdv Ar outer sh H E hr=>(ycq (yfC (yDc yE (T.Z 7) (yqm (yqm (ydD z_v (T.M 47) (ybv T) (T.b 75) (ya z_v ye)))))))
theorem yjq:FnOk P w K mg base (CXr P w) (2+1) (t.a 80) (t.d 80) (FR.ps r80) (spR (ykW K t) 2 yez):=yfn (T.F 80 r80) (sc 80) fun cdv Ar outer sh H E hr=>(ycq (yfC (yqn (yqm (yqm (ydD z_v (T.M 47) (ybv T) (T.b 75) (ya z_v ye)))) (T.M 7) (ygb T) (T.b 4))))
theorem yhz:FnOk P w K mg base (CXr P w) (3+1) (t.a 81) (t.d 81) (FR.ps r81) (spR (ykW K t) 3 ybY):=yfn (T.F 81 r81) (sc 81) fun cdv Ar outer sh H E hr=>(ykt (yq yL ycd z_v yh) (ycq (yfC (ydD z_v (T.M 48) (yhP T) (T.b 76) (ya z_v ye)))) (ykt (yq yL ycd z_v yh) (ycq (yfC (ydD z_v (T.M 49) (yhw T) (T.b 77) (ya z_v ye)))) (ykt (yq yL ycd z_v yh) (ycq (yfC (ydD z_v (T.M 50) (yhx T) (T.b 78) (ya z_v ye)))) (ykt (yq yL ycd z_v yh) (ycq (yfC (ydD z_v (T.M 51) (yhy T) (T.b 79) (ya z_v ye)))) (ycq (yfC (ydD z_v (T.M 52) (yjq T) (T.b 80) (ya z_v ye))))))))
theorem ycB:‹(0+1,82,r82,2,yV)›:=zfn (T.F 82 r82) (sc 82) fun cdv Ar outer sh H E hr=>(yc (yD (yq yjw yub z_v (ydu yB ycZ (T.Z 6) (ya z_v ye))) (yd (yj (ybD yJ ybV z_v z_v))) yl) (yd (yj yh)))
theorem ydQ:‹(0+1,83,r83,1,ybE)›:=zfn (T.F 83 r83) (sc 83) fun cdv Ar outer sh H E hr=>have nd:=(sc 83 (r:=r83)).nd;(yc (yz (yco yfP ynH z_v yh)) (yc (yD (yq yL ycd (yco ycl ydU z_v yh) yh) (yd (yj (yco ycl ydU z_v yh))) yl) (yc (yD (yq yL ycd (yco ycl ydU z_v yh) yh) (yd (yj (yco yhS ynG (yco yhS ynG (yco yoF yvN yh yh) yh) (yco ycl ydU z_v yh)))) yl) (yd (yj (yco ycl ydU z_v (yco yoF yvN yh yh)))))))
theorem ykP:‹(1+1,84,r84,2,yef)›:=zfn (T.F 84 r84) (sc 84) fun cdv Ar outer sh H E hr=>have nd:=(sc 84 (r:=r84)).nd;(yc (yz (yco ycl ydU (yco yfP ynH z_v yh) yh)) (yc (yD (yq yL ycd (yco ycl ydU z_v yh) yh) (yd (yj (yet (ylR (ybh (ycX (ycP ye)) (ybh yn (ybh yh (ybh yh (ybh yh (ybh yh ylQ)))))))))) yl) (yc (yz (yco ydi yhX (yco ydi yhX yn (ysQ ygd yud (T.Z 11) (ya z_v ye))) yn)) (yc (yD (yq yL ycd (yco ycl ydU z_v yh) yh) (yc (yz (yco ydi yhX z_v yn)) (yd (yj (yet (ylR (ybh (ycX (ycP (ya z_v ye))) (ybh yn (ybh yh (ybh (yco ycl ydU z_v z_v) (ybh yh (ybh yh ylQ))))))))))) yl) (yc (yz (yR (ydQ T) (T.G 19) (T.k 83) (T.b 83) (ya z_v ye))) (yc (yz (yco ydi yhX (yco ydi yhX (yco ydi yhX z_v yn) (ysQ ygd yud (T.Z 11) (ya z_v ye))) yn)) (yd (yj (yet (ylR (ybh (ycX (ycP (ya z_v ye))) (ybh yn (ybh yh (ybh (yco ycl ydU z_v z_v) (ybh z_v (ybh yh ylQ))))))))))))))))
theorem yhA:‹(4+1,85,r85,3,ycN)›:=zfn (T.F 85 r85) (sc 85) fun cdv Ar outer sh H E hr=>have nd:=(sc 85 (r:=r85)).nd;(yc (yz ygo) (yc (yzQ (ywL (yhz T) (T.G 17) (T.k 81) (T.b 81) (fun _=>(ya z_v (ya z_v (ya z_v ye))))) (fun _ _=>(yd (yz z_v))) T.xs__law_refused T.m_HallError) (yc (yD (yhC (yeO (ycF (ybp (ydu ycg (yif (K:=ckX _ _) T.isa T.isx T.isy) (T.Z 5) (ya z_v (ya (yku T.m_NoHand) ye))))) (yeO (ycF (ybp (ydu ycg (yif (K:=ckX _ _) T.isa T.isx T.isy) (T.Z 5) (ya z_v (ya (ynR (T.Z 0)) ye))))) (ydt (ybp (ydu ycg (yif (K:=ckX _ _) T.isa T.isx T.isy) (T.Z 5) (ya z_v (ya (yku T.m_NoHands) ye)))))))) (yd (yj yom)) yl) (yd (yj (yiR (ysP (ydu ycg (yif (K:=ckX _ _) T.isa T.isx T.isy) (T.Z 5) (ya z_v (ya (yku T.m_NoBoxes) ye)))) (yiR (ysP (ydu ycg (yif (K:=ckX _ _) T.isa T.isx T.isy) (T.Z 5) (ya z_v (ya (yku T.m_NoDeed) ye)))) (ylM (ysP (ydu ycg (yif (K:=ckX _ _) T.isa T.isx T.isy) (T.Z 5) (ya z_v (ya (yku T.m_NoRow) ye))))))))))))
theorem ydB:‹(3+1,86,r86,2,ycf)›:=zfn (T.F 86 r86) (sc 86) fun cdv Ar outer sh H E hr=>have nd:=(sc 86 (r:=r86)).nd;(yc (ylN (ycP (ya (yt z_v (T.M 27) (yfK T) (T.b 61)) (ya (yt z_v (T.M 28) (yeW T) (T.b 62)) (ya (yt z_v (T.M 35) (yhv T) (T.b 69)) (ya (yt z_v (T.M 29) (yjo T) (T.b 68)) ye)))))) (yc (yie (yiS (T.Z 8) (ya z_v ye)) yev (yd (yut (ycX (ycP (ya (yA z_v (T.M 31) (yfL T) (T.b 64) (ya z_v ye)) (ya (yA z_v (T.M 32) (yfM T) (T.b 65) (ya z_v ye)) (ya (yA z_v (T.M 33) (yjp T) (T.b 66) (ya z_v ye)) (ya (yA z_v (T.M 34) (ymi T) (T.b 67) (ya z_v ye)) ye))))))))) (ylO (yd (yj z_v)))))
theorem ymj:‹(0+1,87,r87,3,yeK)›:=zfn (T.F 87 r87) (sc 87) fun cdv Ar outer sh H E hr=>(yc (yD (yhC (yeO (yq yL ycd (ybk z_v yn) yn) (ydt (yq yoJ yyI (ybk z_v yn) yh)))) (yd (yj (ycQ (ya yn ye)))) yl) (yc (yD (yq yL ycd (ybk z_v yn) yn) (yd (yj (ybD yJ ybV (ycX (ycP (ya (ycQ (ya yn (ya yh ye))) (ya (ycQ (ya yn (ya yh ye))) (ya (ycQ (ya yn (ya yh ye))) (ya (ycQ (ya yn (ya yh ye))) ye)))))) (ybk z_v yn)))) yl) (yc (yD (yq yL ycd (ybk z_v yn) yh) (yd (yj (ycQ (ya yn (ya yh (ya (ybk z_v yn) (ya (ybD yJ ybV z_v (ybk z_v yn)) ye))))))) yl) (yc (yD (yhC (yeT (yq yL ycd (ybk z_v yn) yh) (yeu (yq yjv yuc (ybk z_v yn) (ybD yJ ybV z_v (ybk z_v yn)))))) (yd (yj (ycQ (ya yn (ya yh ye))))) yl) (yd (yj (ybD yJ ybV (ycX (ycP (ya (ycQ (ya yn (ya yh ye))) (ya (ycQ (ya yn (ya yh ye))) (ya (ycQ (ya yn (ya yh ye))) (ya (ycQ (ya yn ye)) ye)))))) (ybk z_v yn))))))))
theorem ykQ:‹(0+1,88,r88,5,yS)›:=zfn (T.F 88 r88) (sc 88) fun cdv Ar outer sh H E hr=>have nd:=(sc 88 (r:=r88)).nd;(yc (yD (yq yL ycd (ybD yI ybj z_v yh) yn) (yd (yff z_v yn yh)) (yd (yD (yq yjv yuc (ybD yI ybj z_v yh) yn) (yd (yff z_v yn (yco ydj yeZ (ybk z_v yn) yh))) yl))) (yc (yD (yq yL ycd (ybD yI ybj z_v yh) yn) (yd (yff z_v yn (ybD yJ ybV z_v (ybk z_v yn)))) yl) (yd (yD (yq yL ycd (ybD yI ybj z_v yh) yn) (yc (ygY (ybk z_v yn) z_v (ybk z_v yn)) (yc (ygY (yco ydj yeZ (ybD yJ ybV z_v (ybk z_v yn)) yh) z_v (ybk z_v yn)) (yd (yie (ydm z_v) yev (yd (yD (yhC (yeT (yq yL ycd (ybk z_v yn) yn) (yeT (yq yL ycd (ybk z_v yn) yh) (yeu (yq yL ycd (ybk z_v yn) (ybk z_v yn)))))) (yd (yff z_v yn yh)) yl)))))) yl))))
theorem yeX:‹(3+1,89,r89,2,ycx)›:=zfn (T.F 89 r89) (sc 89) fun cdv Ar outer sh H E hr=>have nd:=(sc 89 (r:=r89)).nd;(yc (yie (yiS (T.Z 8) (ya (ydu yB ycZ (T.Z 6) (ya z_v ye)) ye)) yev (yc (yz yn) (yc (yD (yhC (yeO (yq yL ycd (ybk (ybD yJ ybV z_v z_v) yn) yn) (ydt (yq yL ycd (ybk (ybD yJ ybV z_v z_v) yn) yh)))) (yd (yz yn)) (yd (yD (yhC (yeT (yq yL ycd (ybk (ybD yJ ybV z_v z_v) yn) yn) (yeu (yq yL ycd (ybk (ybD yJ ybV z_v z_v) yn) yh)))) (yd (yz yn)) yl))) (yd (yD (yhC (yeO (yq yjv yuc (yA z_v (T.M 31) (yfL T) (T.b 64) (ya z_v ye)) z_v) (ydt (yq yjv yuc (yA z_v (T.M 32) (yfM T) (T.b 65) (ya z_v ye)) (ysQ yoM yyO (T.Z 4) (ya (yiR (yfd yL ycd (ybk (ybD yJ ybV z_v z_v) yn) yn) (ylM (yfd yL ycd z_v yn))) ye)))))) (yd (yj yom)) yl))))) (yd (yj yom)))
theorem yhQ:‹(12+1,90,r90,5,ydf)›:=zfn (T.F 90 r90) (sc 90) fun cdv Ar outer sh H E hr=>have nd:=(sc 90 (r:=r90)).nd;(yc (yz (yR (ydB T) (T.G 22) (T.k 86) (T.b 86) (ya z_v (ya (ydu yB ycZ (T.Z 6) (ya z_v ye)) ye)))) (yc (yz (yR (ymj T) (T.G 23) (T.k 87) (T.b 87) (ya (ybD yJ ybV z_v z_v) (ya z_v (ya z_v ye))))) (yc (yz (yA z_v (T.M 40) (ykO T) (T.b 74) (ya z_v ye))) (yc (yD (yhC (yeO (ycF (ybp (ydu yM (yfa (K:=ckX _ _) T.isa) (T.Z 5) (ya z_v (ya (ynR (T.Z 13)) ye))))) (ydt (yq (yqc (ykr hr)) ywg z_v z_v)))) (yd (yj yom)) yl) (yc (yD (yhC (yeT (yq yL ycd (ybD yI ybj z_v yh) yn) (yeu (yq (yqc (ykr hr)) ywg (yR (ydB T) (T.G 22) (T.k 86) (T.b 86) (ya z_v (ya (ydu yB ycZ (T.Z 6) (ya z_v ye)) ye))) z_v)))) (yd (yj yom)) yl) (yc (ybz (yR (ykQ T) (T.G 24) (T.k 88) (T.b 88) (ya z_v (ya (ybD yJ ybV z_v z_v) (ya z_v (ya z_v (ya z_v ye))))))) (yd (yj (yiR (yR (yeX T) (T.G 25) (T.k 89) (T.b 89) (ya z_v (ya z_v ye))) (yiR (yfd (yuu (ykr hr)) yzx (yt z_v (T.M 27) (yfK T) (T.b 61)) z_v) (ylM (yfd (yuu (ykr hr)) yzx (yt z_v (T.M 28) (yeW T) (T.b 62)) z_v))))))))))))
theorem yBf:‹(51+1,91,r91,1,ytb)›:=zfn (T.F 91 r91) (sc 91) fun cdv Ar outer sh H E hr=>have nd:=(sc 91 (r:=r91)).nd;(yc (yz (yco ydj yeZ yh (yco ycl ydU (yR (ycB T) (T.G 18) (T.k 82) (T.b 82) (ya z_v (ya yh ye))) yh))) (yc (ysX ["_law_script"] (yiS (T.Z 8) (ya z_v ye)) (fun _ _ _ _ _ _=>(yR (ydQ T) (T.G 19) (T.k 83) (T.b 83) (ya (yco ydj yeZ (yR (ycB T) (T.G 18) (T.k 82) (T.b 82) (ya z_v (ya yh ye))) (yco yml yse (yco yml yse yh z_v) z_v)) ye)))) (yc (yz (yet (yqa yoY yvP (ycX (ycP (ya yh ye))) z_v))) (yc (yz (yco ydj yeZ yh (yco ycl ydU (yco yfP ynH (yR (ycB T) (T.G 18) (T.k 82) (T.b 82) (ya z_v (ya yh ye))) yh) yh))) (yc (ysW ["_law_many","_law_script"] (yiS (T.Z 8) (ya z_v ye)) (fun _ _ _ _ _ _=>(yR (ykP T) (T.G 20) (T.k 84) (T.b 84) (ya (yco ycl ydU (yco yml yse (yR (ycB T) (T.G 18) (T.k 82) (T.b 82) (ya z_v (ya (yco ydj yeZ yh z_v) ye))) yh) yh) (ya z_v ye))))) (yc (yz (yql (T.J 8) (ygx T) (T.C 15) (T.b 60) (ya (ycX (ydv yE ybH (T.Z 7) (ya z_v ye))) (ya (ycX (ygg [] (ydm z_v) (fun _ _ _ _ _ _=>(ycX (ydv yE ybH (T.Z 7) (ya (ybk z_v yn) ye)))))) ye)))) (yc (yie (ydm (ycX (yqa ywv yzv (ycX (yDa yvj yCd z_v yCZ (yws yh))) (ycX (ycP (ya yh (ya yh (ya yh (ya yh (ya yh (ya yh (ya yh ye)))))))))))) yev (yc (yz (yco ycl ydU (yco yml yse z_v yh) yh)) (yc (yz (yco yhS ynG (yco ycl ydU z_v (yco ydj yeZ z_v yh)) yh)) (yc (yD (yq yL ycd (yco ycl ydU (yco yfP ynH z_v yh) yh) yh) (yc (yz (ycX (ycP (ya (yco yhS ynG (yEk ytL yyJ yh) z_v) (ya (yco ydj yeZ z_v z_v) (ya yh (ya (yco yoF yvN yh yh) (ya yom (ya yom (ya ygo (ya yn (ya (ycQ (ya yh ye)) ye)))))))))))) (yd (yz (ybD yJ ybV z_v (yco ycl ydU (yco yfP ynH z_v yh) yh))))) yl) (yd (yD (yhC (yeT (ybp (ydu yM (yfa (K:=ckX _ _) T.isa) (T.Z 5) (ya z_v (ya (ynR (T.Z 4)) ye)))) (yeT (ycF (ybp (ydu yM (yfa (K:=ckX _ _) T.isa) (T.Z 5) (ya z_v (ya (ynR (T.Z 3)) ye))))) (yeu (yeH yhD yjw yrk yub yh z_v z_v))))) (yd (yD (ycF (ybp (yR (yhQ T) (T.G 26) (T.k 90) (T.b 90) (ya z_v (ya z_v (ya z_v (ya z_v (ya z_v ye)))))))) (yd (yj yom)) yl)) (yc (yz (yR (ydB T) (T.G 22) (T.k 86) (T.b 86) (ya z_v (ya z_v ye)))) (yd (yD (yhC (yeO (ycF (ybp (yR (yhA T) (T.G 21) (T.k 85) (T.b 85) (ya z_v (ya (yco ycl ydU (yco yfP ynH z_v yh) yh) (ya z_v ye)))))) (ydt (yq (yqc (ykr hr)) ywg (yR (ydB T) (T.G 22) (T.k 86) (T.b 86) (ya z_v (ya z_v ye))) z_v)))) (yd (yj yom)) yl))))))))) (yd (yj (yR (yeX T) (T.G 25) (T.k 89) (T.b 89) (ya z_v (ya z_v ye))))))))))))
def ytG (K:PySem.W.Frag):Sp:=fun vs H Q _=>∃ (a:Addr) (ns:List Int),vs=[.ref a]/\SqL K H a (ns.map V.int)/\ns.length<=63/\∀ H',Q (.bl true) H'
theorem yBg {A:Nat->Addr}:∀ vs H Q E,ytG K vs H Q E->spE ⟨K,A⟩ 1 ytb vs H Q E:=by
 rintro _ H Q E ⟨a,ns,rfl,hS,hl,q⟩
 obtain ⟨h',e⟩:=yBe (h:=[]) ns hl
 exact ⟨⟨H,H,[],[]⟩,[.scr ns],.bl true,h',rfl,⟨Same.refl _,rfl,List.nodup_nil,fun n d a e=>by simp at e⟩,⟨.ref a,[],rfl,⟨a,rfl,hS⟩,rfl⟩,rfl,e,fun v W' _ _ rv=>by rw [show v=_ from rv];exact q _⟩
end
structure FB (K:PySem.W.Frag) (r:FR) (p:Addr×FuncData):Prop where
 F:Fun K r.1 r.2.1 r.2.2.1 p.1 p.2
 b:Binds K p.2 r.ps []
theorem FB.of {K:PySem.W.Frag}{x q:Str}{s:Stmt}{k:Nat}{n:List Str}{f:Addr}{d:FuncData}(F:Fun K x q s f d) (b:Binds K d (n.take k) []):FB K (fRw x q s k n) (f,d):=⟨F,b⟩
def All2 {α β:Type}(R:α->β->Prop):List α->List β->Prop
 | r::rs,p::ps=>R r p/\All2 R rs ps
 | [],[]=>True
 | _,_=>False
theorem All2.get {α β:Type}{R:α->β->Prop}{d:α}{e:β}(h:R d e):∀ {rs:List α}{ps:List β},All2 R rs ps->∀ n:Nat,R (rs.getD n d) (ps.getD n e)
 | [],[],_,_=>h
 | _::_,_::_,a,0=>a.1
 | _::_,_::_,a,n+1=>All2.get h a.2 n
abbrev Ns1 (K:PySem.W.Frag) (x:Str) (f:Addr):Prop:=nsIn K mainGlobals x=some (some (.ref f))
structure TyR (K:PySem.W.Frag) (C:Addr):Prop where
 ha:findIn K (.ref C) "__class__" = some (some (.builtin "object.__class__"))
 hm:mroIn K C (.type "object")=some true
 ty:typeIn K (.ref C)=some (.type "type")
structure NS2 (K:PySem.W.Frag) (c d:Addr):Prop where
 sb:subIn K (.ref c) (.ref d)=some false
 ne:(c == d)=false
noncomputable def NSx (K:PySem.W.Frag) (pre:List Addr):List Addr->Prop
 | []=>True
 | c::cs=>AllP (NS2 K c) pre/\AllP (NS2 K c) cs/\NSx K (c::pre) cs
theorem NSx.get {K:PySem.W.Frag}{A:Nat->Addr}:∀ {cs pre:List Nat},NSx K (pre.map A) (cs.map A)->∀ i∈cs,∀ j,j∈pre\/j∈cs->i≠j->NS2 K (A i) (A j)
 | c::cs,pre,a,i,hi,j,hj,ne=>by
  rcases mem_cons.mp hi with rfl|hi
  .rcases hj with hj|hj
   .exact a.1.mem _ (List.mem_map_of_mem hj)
   .rcases mem_cons.mp hj with rfl|hj
    .exact absurd rfl ne
    .exact a.2.1.mem _ (List.mem_map_of_mem hj)
  .refine NSx.get (pre:=c::pre) a.2.2 i hi j ?_ ne
   rcases hj with hj|hj
   .exact .inl (mem_cons_of_mem _ hj)
   .rcases mem_cons.mp hj with rfl|hj
    .exact .inl mem_cons_self
    .exact .inr hj
theorem yxs {K:PySem.W.Frag}{A:Nat->Addr}(CL:∀ k,Cls K (A k)) (hn:PySem.W.specialIn K (.builtin "object.__class__") "__get__" = some (some (.builtin "getset_descriptor.__get__"))) (htk:PySem.W.takesIn K (.builtin "object.__class__")=some true) (cs:List Nat) (ty:AllP (TyR K) (cs.map A)) (sb:NSx K [] (cs.map A)) :
  ∀ r∈tbO cs,∀ (H:Hp) (a dx:Addr) (fs:List (Str×V)),H a=some (.ins (A r.1) dx fs)->IsI K H (.ref a) (.ref (A r.2.1)) r.2.2:=by
 intro r hr H a dx fs e
 unfold tbO at hr
 obtain ⟨i,hi,hr⟩:=List.mem_flatMap.mp hr
 obtain ⟨j,hj,rfl⟩:=List.mem_map.mp hr
 have t:=ty.mem _ (List.mem_map_of_mem hi)
 have t':=ty.mem _ (List.mem_map_of_mem hj)
 refine ⟨_,_,.ins e (CL i) t.ha hn htk t.hm,rfl,?_⟩
 by_cases q:i=j
 .subst q
  show _=some (i == i)
  rw [beq_self_eq_true]
  exact ymt
 .have n:=NSx.get (pre:=[]) sb i hi j (.inr hj) q
  show _=some (i == j)
  rw [beq_eq_false_iff_ne.mpr q]
  exact yfq n.ne t'.hm t'.ty n.sb
theorem zip_get {K:PySem.W.Frag}{c0:Str}{C0:Addr}:∀ {cs:List Str}{as:List Addr},AllP (fun p:Str×Addr=>Ns1 K p.1 p.2) ((c0::cs).zip (C0::as))->cs.length=as.length->∀ n:Nat,Ns1 K ((c0::cs).getD n c0) ((C0::as).getD n C0):=fun {cs as} h hl n=>by
 have h0:=h.1
 have:∀ (cs:List Str) (as:List Addr),AllP (fun p:Str×Addr=>Ns1 K p.1 p.2) (cs.zip as)->cs.length=as.length->∀ n:Nat,Ns1 K (cs.getD n c0) (as.getD n C0):=by
  intro cs
  induction cs with
  | nil=>intro as _ e n;cases as with|nil=>exact h0|cons _ _=>cases e
  | cons c cs ih=>intro as h e n;cases as with|nil=>cases e|cons a as=>cases n with|zero=>exact h.1|succ n=>exact ih as h.2 (by simpa using e) n
 exact this _ _ h (by simpa using hl) n
theorem all_mk {l:PySem.W.OpenLaw}{w:World}{K:PySem.W.Frag}{h:Heap}{mg:Str->Option Value}{fa C0 C1 C2 C3 C4 C5 C6 C7 C8 C9 C10 C11 C12 C13 C14 C15 f0 f1 f2 f3 f4 f5 f6 f7 f8 f9 f10 f11 f12 f13 f14 f15 f16 f17 f18 f19 f20 f21 f22 f23 f24 f25 f26 f27 f28 f29 f30 f31 f32 f33 f34 f35 f36 f37 f38 f39 f40 f41 f42 f43 f44 f45 f46 f47 f48 f49 f50 f51 f52 f53 f54 f55 f56 f57 f58 f59 f60 f61 f62 f63 f64 f65 f66 f67 f68 f69 f70 f71 f72 f73 f74 f75 f76 f77 f78 f79 f80 f81 f82 f83 f84 f85 f86 f87 f88 f89 f90 f91  X0 X1 X2 X3 X4 X5:Addr}{d0 d1 d2 d3 d4 d5 d6 d7 d8 d9 d10 d11 d12 d13 d14 d15 d16 d17 d18 d19 d20 d21 d22 d23 d24 d25 d26 d27 d28 d29 d30 d31 d32 d33 d34 d35 d36 d37 d38 d39 d40 d41 d42 d43 d44 d45 d46 d47 d48 d49 d50 d51 d52 d53 d54 d55 d56 d57 d58 d59 d60 d61 d62 d63 d64 d65 d66 d67 d68 d69 d70 d71 d72 d73 d74 d75 d76 d77 d78 d79 d80 d81 d82 d83 d84 d85 d86 d87 d88 d89 d90 d91:FuncData}{u1 u2 u3 u4 u5 u6 u7 u8:Tok}(X:K.In h) (G:h.Ns mainGlobals mg) (hfa:mg "law" = some (.ref fa))
  (hC:Ns1 K "Part" C0/\Ns1 K "Let" C1/\Ns1 K "Reckon" C2/\Ns1 K "Take" C3/\Ns1 K "Put" C4/\Ns1 K "If" C5/\Ns1 K "Either" C6/\Ns1 K "Try" C7/\Ns1 K "Throw" C8/\Ns1 K "Wait" C9/\Ns1 K "Reader" C10/\Ns1 K "Log" C11/\Ns1 K "Run" C12/\Ns1 K "Doer" C13/\Ns1 K "Hand" C14/\Ns1 K "Hall" C15/\True)
  (cl:AllP (Cls K) [C0,C1,C2,C3,C4,C5,C6,C7,C8,C9,C10,C11,C12,C13,C14,C15])
  (hK:Mk K C1 f34/\Mk K C3 f35/\Mk K C4 f36/\Mk K C10 f46/\Mk K C11 f0/\Mk K C12 f19/\Mk K C13 f12/\Mk K C14 f33/\Mk K C15 f60/\True)
  (mk0:makesIn K C0=true)
  (io0:findIn K (.ref C0) "__init__" = some (some (.builtin "object.__init__")))
  (kp0:keepIn K (.ref C0)=true)
  (mk9:makesIn K C9=true)
  (io9:findIn K (.ref C9) "__init__" = some (some (.builtin "object.__init__")))
  (kp9:keepIn K (.ref C9)=true)
  (hM:Meth K C1 "long" f37/\Meth K C3 "long" f38/\Meth K C4 "long" f39/\Meth K C9 "long" f40/\Meth K C11 "write" f1/\Meth K C11 "own" f2/\Meth K C11 "see" f3/\Meth K C11 "saw" f4/\Meth K C11 "wrote" f5/\Meth K C12 "held_in" f13/\Meth K C12 "hold" f14/\Meth K C12 "box_at" f15/\Meth K C12 "do_put" f16/\Meth K C12 "sees_at" f17/\Meth K C12 "take_seen" f18/\Meth K C12 "row" f20/\Meth K C12 "is_stale" f21/\Meth K C12 "taker_layer" f23/\Meth K C12 "is_looked_over" f24/\Meth K C12 "see_next" f25/\Meth K C12 "go" f27/\Meth K C12 "go_plain" f26/\Meth K C14 "state" f28/\Meth K C14 "new_run" f29/\Meth K C14 "begin_anew" f30/\Meth K C14 "fall_asleep" f31/\Meth K C14 "go_on" f32/\Meth K C15 "boxes" f61/\Meth K C15 "stamps" f62/\Meth K C15 "hands" f68/\Meth K C15 "hand_at" f63/\Meth K C15 "state" f64/\Meth K C15 "which" f65/\Meth K C15 "slots" f66/\Meth K C15 "saw" f67/\Meth K C15 "journal" f69/\Meth K C15 "wake_stale" f70/\Meth K C15 "end_deed" f71/\Meth K C15 "lay_down" f72/\Meth K C15 "looked_over_told" f73/\Meth K C15 "turn" f74/\Meth K C15 "hand_at" f75/\Meth K C15 "turn" f76/\Meth K C15 "state" f77/\Meth K C15 "which" f78/\Meth K C15 "slots" f79/\Meth K C15 "saw" f80/\Meth K C15 "hand_at" f75/\Meth K C15 "turn" f76/\Meth K C15 "state" f77/\Meth K C15 "which" f78/\Meth K C15 "slots" f79/\Meth K C15 "saw" f80/\Meth K C10 "ahead" f48/\Meth K C10 "taken" f49/\Meth K C10 "pass_over" f50/\Meth K C10 "slot_taken" f51/\Meth K C10 "number_taken" f52/\Meth K C10 "list_taken" f55/\Meth K C10 "part_taken" f54/\Meth K C10 "plain_taken" f53/\True)
  (cf13:ysY K C13 "__init__" f12)
  (hG:Ns1 K "is_whole" f6/\Ns1 K "is_number" f7/\Ns1 K "is_made_of" f8/\Ns1 K "number_of" f9/\Ns1 K "is_slot" f10/\Ns1 K "slot_index" f11/\Ns1 K "takes" f22/\Ns1 K "list_long" f41/\Ns1 K "plain_rows" f42/\Ns1 K "part_rows" f43/\Ns1 K "list_rows" f44/\Ns1 K "rows_of" f45/\Ns1 K "words_of" f47/\Ns1 K "read" f56/\Ns1 K "check_boxes" f57/\Ns1 K "rows_of_deeds" f58/\Ns1 K "rows_of_hands" f59/\Ns1 K "_law_asked" f81/\Ns1 K "_law_cell_at" f82/\Ns1 K "_law_number_by" f83/\Ns1 K "_law_hand" f84/\Ns1 K "_law_refused" f85/\Ns1 K "_law_look" f86/\Ns1 K "_law_due" f87/\Ns1 K "_law_gone" f88/\Ns1 K "_law_states" f89/\Ns1 K "_law_turned" f90/\Ns1 K "law" f91/\True)
  (hF:All2 (FB K) fT [(f0,d0),(f1,d1),(f2,d2),(f3,d3),(f4,d4),(f5,d5),(f6,d6),(f7,d7),(f8,d8),(f9,d9),(f10,d10),(f11,d11),(f12,d12),(f13,d13),(f14,d14),(f15,d15),(f16,d16),(f17,d17),(f18,d18),(f19,d19),(f20,d20),(f21,d21),(f22,d22),(f23,d23),(f24,d24),(f25,d25),(f26,d26),(f27,d27),(f28,d28),(f29,d29),(f30,d30),(f31,d31),(f32,d32),(f33,d33),(f34,d34),(f35,d35),(f36,d36),(f37,d37),(f38,d38),(f39,d39),(f40,d40),(f41,d41),(f42,d42),(f43,d43),(f44,d44),(f45,d45),(f46,d46),(f47,d47),(f48,d48),(f49,d49),(f50,d50),(f51,d51),(f52,d52),(f53,d53),(f54,d54),(f55,d55),(f56,d56),(f57,d57),(f58,d58),(f59,d59),(f60,d60),(f61,d61),(f62,d62),(f63,d63),(f64,d64),(f65,d65),(f66,d66),(f67,d67),(f68,d68),(f69,d69),(f70,d70),(f71,d71),(f72,d72),(f73,d73),(f74,d74),(f75,d75),(f76,d76),(f77,d77),(f78,d78),(f79,d79),(f80,d80),(f81,d81),(f82,d82),(f83,d83),(f84,d84),(f85,d85),(f86,d86),(f87,d87),(f88,d88),(f89,d89),(f90,d90),(f91,d91)])
  (hN:(NoAttr K C11 "stack"/\True)/\(NoAttr K C11 "last_seen"/\True)/\(NoAttr K C12 "held"/\True)/\(NoAttr K C12 "width"/\NoAttr K C14 "width"/\True)/\(NoAttr K C12 "log"/\True)/\(NoAttr K C12 "rows"/\True)/\(NoAttr K C10 "at"/\NoAttr K C12 "at"/\True)/\(NoAttr K C12 "seen_stamps"/\True)/\(NoAttr K C12 "sides"/\True)/\(NoAttr K C14 "deeds"/\True)/\(NoAttr K C14 "nth"/\True)/\(NoAttr K C14 "sleeps"/\True)/\(NoAttr K C14 "before"/\True)/\(NoAttr K C14 "run"/\True)/\(NoAttr K C15 "numbers"/\True)/\(NoAttr K C15 "marks"/\True)/\(NoAttr K C15 "crew"/\True)/\(NoAttr K C15 "entries"/\True)/\(NoAttr K C10 "words"/\True)/\(NoAttr K C1 "slot"/\NoAttr K C3 "slot"/\NoAttr K C4 "slot"/\True)/\(NoAttr K C1 "number"/\True)/\(NoAttr K C3 "place"/\NoAttr K C4 "place"/\True)/\True)
  (ty:AllP (TyR K) [C1,C2,C3,C4,C5,C6,C7,C8,C9])
  (sb:NSx K [] [C1,C2,C3,C4,C5,C6,C7,C8,C9])
  (hn:PySem.W.specialIn K (.builtin "object.__class__") "__get__" = some (some (.builtin "getset_descriptor.__get__")))
  (htk:PySem.W.takesIn K (.builtin "object.__class__")=some true)
  (hZ:AllP (fun b=>nsIn K mainGlobals b=some none) zT)
  (q1:nsIn K mainGlobals "FIGURES" = some (some (.str "0123456789" u1)))
  (q2:nsIn K mainGlobals "MOST_AROUND" = some (some (.int 8 u2)))
  (q3:nsIn K mainGlobals "MOST_BOXES" = some (some (.int 16 u3)))
  (q4:nsIn K mainGlobals "MOST_DEEDS" = some (some (.int 6 u4)))
  (q5:nsIn K mainGlobals "MOST_HANDS" = some (some (.int 8 u5)))
  (q6:nsIn K mainGlobals "MOST_ROWS" = some (some (.int 80 u6)))
  (q7:nsIn K mainGlobals "SLOTS" = some (some (.str "abcdefgh" u7)))
  (q8:nsIn K mainGlobals "WIDE" = some (some (.int 18446744073709551616 u8)))
  (xn0:nsIn K mainGlobals "HallError" = some (some (.ref X0)))
  (xn1:nsIn K mainGlobals "NoHand" = some (some (.ref X1)))
  (xn2:nsIn K mainGlobals "NoHands" = some (some (.ref X2)))
  (xn3:nsIn K mainGlobals "NoBoxes" = some (some (.ref X3)))
  (xn4:nsIn K mainGlobals "NoDeed" = some (some (.ref X4)))
  (xn5:nsIn K mainGlobals "NoRow" = some (some (.ref X5)))
  (xk0:XKit K X0)
  (xk1:XKit K X1)
  (xk2:XKit K X2)
  (xk3:XKit K X3)
  (xk4:XKit K X4)
  (xk5:XKit K X5)
  (xm1_0:mroIn K X1 (.ref X0)=some true)
  (xv1:mroIn K X1 (.type "ValueError")=some true)
  (xb1_2:subIn K (.ref X1) (.ref X2)=some false)
  (xe1_2:(X1 == X2)=false)
  (xb1_3:subIn K (.ref X1) (.ref X3)=some false)
  (xe1_3:(X1 == X3)=false)
  (xb1_4:subIn K (.ref X1) (.ref X4)=some false)
  (xe1_4:(X1 == X4)=false)
  (xb1_5:subIn K (.ref X1) (.ref X5)=some false)
  (xe1_5:(X1 == X5)=false) :
  ∃ fd:FuncData,(∀ (s:Shared) (v:Value),BindsTo s fd ⟨[v],[]⟩ [("_law_script",v)])/\∀ base:Heap,K.In base->base.Ns mainGlobals mg->FnOk l.prog w K mg base CX0 52 fa fd ["_law_script"] (ytG K):=by
 let t:Ads:=⟨fun k=>[C0,C1,C2,C3,C4,C5,C6,C7,C8,C9,C10,C11,C12,C13,C14,C15].getD k C0,fun n=>[(f0,d0),(f1,d1),(f2,d2),(f3,d3),(f4,d4),(f5,d5),(f6,d6),(f7,d7),(f8,d8),(f9,d9),(f10,d10),(f11,d11),(f12,d12),(f13,d13),(f14,d14),(f15,d15),(f16,d16),(f17,d17),(f18,d18),(f19,d19),(f20,d20),(f21,d21),(f22,d22),(f23,d23),(f24,d24),(f25,d25),(f26,d26),(f27,d27),(f28,d28),(f29,d29),(f30,d30),(f31,d31),(f32,d32),(f33,d33),(f34,d34),(f35,d35),(f36,d36),(f37,d37),(f38,d38),(f39,d39),(f40,d40),(f41,d41),(f42,d42),(f43,d43),(f44,d44),(f45,d45),(f46,d46),(f47,d47),(f48,d48),(f49,d49),(f50,d50),(f51,d51),(f52,d52),(f53,d53),(f54,d54),(f55,d55),(f56,d56),(f57,d57),(f58,d58),(f59,d59),(f60,d60),(f61,d61),(f62,d62),(f63,d63),(f64,d64),(f65,d65),(f66,d66),(f67,d67),(f68,d68),(f69,d69),(f70,d70),(f71,d71),(f72,d72),(f73,d73),(f74,d74),(f75,d75),(f76,d76),(f77,d77),(f78,d78),(f79,d79),(f80,d80),(f81,d81),(f82,d82),(f83,d83),(f84,d84),(f85,d85),(f86,d86),(f87,d87),(f88,d88),(f89,d89),(f90,d90),(f91,d91)].getD n (f0,d0),u1,u2,u3,u4,u5,u6,u7,u8⟩
 have CL:∀ k,Cls K (t.A k):=fun k=>AllP.get cl.1 cl k
 have FF:∀ n,FB K (fR n) (t.fl n):=fun n=>All2.get hF.1 hF n
 have hC:AllP (fun p:Str×Addr=>Ns1 K p.1 p.2) (cT.zip [C0,C1,C2,C3,C4,C5,C6,C7,C8,C9,C10,C11,C12,C13,C14,C15]):=hC
 have hG:AllP (fun r:Str×Nat=>Ns1 K r.1 (t.a r.2)) gT:=hG
 have hK:AllP (fun r:Nat×Nat=>Mk K (t.A r.1) (t.a r.2)) kT:=hK
 have hM:AllP (fun r:Nat×Str×Nat=>Meth K (t.A r.1) r.2.1 (t.a r.2.2)) mT:=hM
 have hN:AllP (fun r:Str×List Nat=>AllP (fun k=>NoAttr K (t.A k) r.1) r.2) nT:=hN
 have T:Txt K mg t:=⟨fun n=>(FF n).F,fun n=>(FF n).b,fun n=>mg_of X G (AllP.get (p:=fun r:Str×Nat=>Ns1 K r.1 (t.a r.2)) hG.1 hG n),fun n=>mg_of X G (zip_get hC rfl n),fun n=>AllP.get (p:=fun r:Nat×Nat=>Mk K (t.A r.1) (t.a r.2)) hK.1 hK n,fun n=>AllP.get (p:=fun r:Nat×Str×Nat=>Meth K (t.A r.1) r.2.1 (t.a r.2.2)) hM.1 hM n,mk0,io0,kp0,mk9,io9,kp9,cf13,CL,fun n k hk=>⟨CL k,(AllP.get (p:=fun r:Str×List Nat=>AllP (fun k=>NoAttr K (t.A k) r.1) r.2) hN.1 hN n).mem k hk⟩,yxs CL hn htk [1,2,3,4,5,6,7,8,9] ty sb,fun n=>PySem.W.mg_none_of X G (AllP.get (p:=fun b=>nsIn K mainGlobals b=some none) hZ.1 hZ n),mg_of X G q1,mg_of X G q2,mg_of X G q3,mg_of X G q4,mg_of X G q5,mg_of X G q6,mg_of X G q7,mg_of X G q8,(by rw [ycr xn0];exact mg_of X G xn0),(by rw [ycr xn1];exact mg_of X G xn1),(by rw [ycr xn2];exact mg_of X G xn2),(by rw [ycr xn3];exact mg_of X G xn3),(by rw [ycr xn4];exact mg_of X G xn4),(by rw [ycr xn5];exact mg_of X G xn5),(by rw [ycr xn1];exact xk1.cls),(all_cons (by rw [ycr xn1,ycr xn0];exact ⟨xk1.cls,xk0.cls,xm1_0⟩) (fun k hk=>absurd hk (by simp))),(all_cons (by simp only [ycr xn1];exact ⟨xk1.kit hn htk,ymt⟩) (all_cons (by simp only [ycr xn1,ycr xn2];exact ⟨xk1.kit hn htk,yfq xe1_2 xk2.mo xk2.ty xb1_2⟩) (all_cons (by simp only [ycr xn1,ycr xn3];exact ⟨xk1.kit hn htk,yfq xe1_3 xk3.mo xk3.ty xb1_3⟩) (all_cons (by simp only [ycr xn1,ycr xn4];exact ⟨xk1.kit hn htk,yfq xe1_4 xk4.mo xk4.ty xb1_4⟩) (all_cons (by simp only [ycr xn1,ycr xn5];exact ⟨xk1.kit hn htk,yfq xe1_5 xk5.mo xk5.ty xb1_5⟩) (fun k hk=>absurd hk (by simp))))))),(all_cons (by simp only [ycr xn1];exact ⟨xk1.kit hn htk,yzR (by rfl') xv1⟩) (fun k hk=>absurd hk (by simp)))⟩
 have e:=hfa.symm.trans (T.G 27)
 have e:fa=f91:=by injection e with e;injection e
 subst e
 refine ⟨d91,?_,fun base _ _=>(yBf T).imp (yBg T)⟩
 obtain ⟨_,_,_,_,_,_,_,_,_,e,_⟩:=(FF 91).F.ex
 have e:d91=_:=e
 subst e
 exact fun s v=>.of_eq rfl
theorem walk {l:PySem.W.OpenLaw}{q:Program}{loose:List Str}{XP:(Str->Option Value)->Heap->Prop}{YP:World->Heap->Prop}{d:DefRec}{K:Params->PySem.W.Frag}(hn:l.most=some 63) (hdf:d.params.defaults=[])
  (hY:∀ (w:World) (h:Heap),YP w h->(K w.params).In h)
  (F:∀ (w:World) (mg:Str->Option Value) (fa:Addr) (h:Heap),(K w.params).In h->h.Ns mainGlobals mg->mg d.name=some (.ref fa) ->
   ∃ fd:FuncData,(∀ (s:Shared) (u:Value),BindsTo s fd ⟨[u],[]⟩ [("_law_script",u)])/\∀ base:Heap,(K w.params).In base->base.Ns mainGlobals mg->FnOk l.prog w (K w.params) mg base CX0 52 fa fd ["_law_script"] (ytG (K w.params))) :
  PySem.W.WalkO q loose XP YP l.row.toRowW d [] (fun f vs=>PySem.call f vs) :=
 L2.walk_of (n:=63) (k:=52) (x:="_law_script") (CX:=fun _=>CX0) (sp:=fun w=>ytG (K w.params)) hn (by decide) hdf ⟨rfl,by decide,by decide⟩ hY F (fun _ _ a ns hl _ hS=>⟨a,ns,rfl,hS,hl,fun _=>rfl⟩) fun _ _ _ _ _ z=>z
end My
local macro_rules | `(tactic| walk_at "ka")=>`(tactic| first|exact True.intro|k_is|decide|((first|refine And.intro ?_ ?_|refine' L2.Cls.mk ?_ ?_ ?_ ?_|refine' My.TyR.mk ?_ ?_ ?_|refine' My.NS2.mk ?_ ?_)<;>walk_at "ka"))
local macro_rules | `(tactic| walk_at "kr")=>`(tactic| first|exact True.intro|(refine And.intro ?_ ?_<;>walk_at "kr")|walk_at "kx")
local macro_rules | `(tactic| walk_at "kx")=>`(tactic| first|(refine' L2.Meth.mk ?a ?b ?c;(case a=>k_is);(case b=>k_is);(case c=>k_is))|(refine' L2.Mk.mk ?a ?b ?c ?d;(case a=>k_is);(case b=>k_is);(case c=>k_is);(case d=>k_is))|(unfold L2.NoAttr;k_is)|(unfold My.Ns1;k_is)|k_is|(dsimp only;k_is))
local macro_rules | `(tactic| walk_at "kf")=>`(tactic| first|exact True.intro|(refine' And.intro (My.FB.of (L2.fun_mk ?a ?b ?c) ?d) ?e;(case a=>k_is);(case b=>k_is);(case c=>k_is);(case d=>first|exact L2.Binds.all (My.ml1 fun _=>rfl)|exact L2.Binds.all (My.ml2 fun _ _=>rfl)|exact L2.Binds.all (My.ml3 fun _ _ _=>rfl)|exact L2.Binds.all (My.ml4 fun _ _ _ _=>rfl)|exact L2.Binds.all (My.ml5 fun _ _ _ _ _=>rfl));(case e=>walk_at "kf")))
local macro_rules | `(tactic| walk_at "k4")=>`(tactic| (refine' ⟨?a,?b,?c,?d⟩;(case a=>k_is);(case b=>k_is);(case c=>k_is);(case d=>k_is)))
open PySem PySem.W PyProof.Rows
set_option maxRecDepth 100000 in
set_option maxHeartbeats 0 in
theorem PySem.Challenge.cw_retryhall_k28_idle_and_no_hand_holds : PySem.Challenge.rw_retryhall_k28_idle_and_no_hand.Holds := by
 refine hD_ ?_
 k_fill
 refine My.walk (l:=PySem.Challenge.rw_retryhall_k28_idle_and_no_hand) rfl rfl (fun w h Y=>PySem.W.kIn_of Y) ?F
 case F =>
  intro w mg fa h KX G hmg
  refine' My.all_mk KX G hmg ?hC ?cl ?hK ?mk0 ?io0 ?kp0 ?mk9 ?io9 ?kp9 ?hM ?cf13 ?hG ?hF ?hN ?ty ?sb ?hn ?htk ?hZ ?q1 ?q2 ?q3 ?q4 ?q5 ?q6 ?q7 ?q8 ?xn0 ?xn1 ?xn2 ?xn3 ?xn4 ?xn5 ?xk0 ?xk1 ?xk2 ?xk3 ?xk4 ?xk5 ?xm1_0 ?xv1 ?xb1_2 ?xe1_2 ?xb1_3 ?xe1_3 ?xb1_4 ?xe1_4 ?xb1_5 ?xe1_5
  (case hC=>walk_at "kr")
  (case cl=>walk_at "ka")
  (case hK=>walk_at "kr")
  (case mk0=>k_is)
  (case io0=>k_is)
  (case kp0=>k_is)
  (case mk9=>k_is)
  (case io9=>k_is)
  (case kp9=>k_is)
  (case hM=>walk_at "kr")
  (case cf13=>walk_at "k4")
  (case hG=>walk_at "kr")
  (case hF=>walk_at "kf")
  (case hN=>walk_at "kr")
  (case ty=>walk_at "ka")
  (case sb=>walk_at "ka")
  (case hn=>k_is)
  (case htk=>k_is)
  (case hZ=>walk_at "kr")
  (case q1=>k_is)
  (case q2=>k_is)
  (case q3=>k_is)
  (case q4=>k_is)
  (case q5=>k_is)
  (case q6=>k_is)
  (case q7=>k_is)
  (case q8=>k_is)
  (case xn0=>k_is)
  (case xn1=>k_is)
  (case xn2=>k_is)
  (case xn3=>k_is)
  (case xn4=>k_is)
  (case xn5=>k_is)
  (case xk0=>(refine' L2.XKit.mk ?a ?b ?c ?d ?e ?f ?g;(case a=>k_exc);(case b=>k_is);(case c=>k_is);(case d=>k_is);(case e=>k_is);(case f=>k_is);(case g=>k_is)))
  (case xk1=>(refine' L2.XKit.mk ?a ?b ?c ?d ?e ?f ?g;(case a=>k_exc);(case b=>k_is);(case c=>k_is);(case d=>k_is);(case e=>k_is);(case f=>k_is);(case g=>k_is)))
  (case xk2=>(refine' L2.XKit.mk ?a ?b ?c ?d ?e ?f ?g;(case a=>k_exc);(case b=>k_is);(case c=>k_is);(case d=>k_is);(case e=>k_is);(case f=>k_is);(case g=>k_is)))
  (case xk3=>(refine' L2.XKit.mk ?a ?b ?c ?d ?e ?f ?g;(case a=>k_exc);(case b=>k_is);(case c=>k_is);(case d=>k_is);(case e=>k_is);(case f=>k_is);(case g=>k_is)))
  (case xk4=>(refine' L2.XKit.mk ?a ?b ?c ?d ?e ?f ?g;(case a=>k_exc);(case b=>k_is);(case c=>k_is);(case d=>k_is);(case e=>k_is);(case f=>k_is);(case g=>k_is)))
  (case xk5=>(refine' L2.XKit.mk ?a ?b ?c ?d ?e ?f ?g;(case a=>k_exc);(case b=>k_is);(case c=>k_is);(case d=>k_is);(case e=>k_is);(case f=>k_is);(case g=>k_is)))
  (case xm1_0=>k_is)
  (case xv1=>k_is)
  (case xb1_2=>k_is)
  (case xe1_2=>decide)
  (case xb1_3=>k_is)
  (case xe1_3=>decide)
  (case xb1_4=>k_is)
  (case xe1_4=>decide)
  (case xb1_5=>k_is)
  (case xe1_5=>decide)
